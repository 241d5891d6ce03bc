import PyProof.Rows.All
import KE.KLam
import Wide.All
import OpenK.AllK
import Wide.FinOn
import Lean
import PyProof.EqAt
import PyProof.EqKinds
import PyProof.TupleCall
import PyProof.FactsAll.set
import PyProof.FactsAll.subtypes
import KE.KTupSum
import KE.KMinBuiltin
import PyProof.Draws
import PyProof.DictWalks
import PyProof.DictCompW
import PyProof.IsiH_tuple
import PyProof.FactsAll.zip
import KE.KDictOf
import PyProof.DictValues
import KE.KSortKey
import PyProof.WalkInts
import PyProof.TupleKey
import PyProof.SetRoads
import PyProof.IsRules
import PyProof.StrCalls5
import PyProof.MeetsStr3
import KE.KIntText
import PyProof.StrWalks
import PySem.Challenge.RW_needledeck_k82_texts_that_tell_nothing
set_option Elab.async false
set_option linter.all false
set_option maxRecDepth 100000
set_option maxHeartbeats 4000000
set_option genSizeOf false
section
open PySem PySem.W PyProof.Rows
local macro_rules|`(tactic|refine $h:ident (q:=$q) (loose:=$l) (Xt:=$a) (XP:=$b) (Yf:=$c) (Ya:=$d) (YP:=$e) (N:=$n) ?hl $y*)=>`(tactic|refine $h:ident (q:=$q) (loose:=$l) (Xt:=$a) (XP:=$b) (Yf:=$c) (Ya:=$d) (YP:=$e) (N:=$n) (λ_=>by kernel_rfl) $y*)
set_option maxHeartbeats 0
open_top topK for PySem.Challenge.rw_needledeck_k82_texts_that_tell_nothing
end
local macro_rules|`(tactic|omega)=>`(tactic|first|lia|omega +splitDisjunctions)
theorem e0a2{A B:Prop}{G:Prop}(k:A→B→G)(h:A∧B):G:=k h.1 h.2
theorem e0a3{A B C:Prop}{G:Prop}(k:A→B→C→G)(h:A∧B∧C):G:=k h.1 h.2.1 h.2.2
theorem e0a4{A B C D:Prop}{G:Prop}(k:A→B→C→D→G)(h:A∧B∧C∧D):G:=k h.1 h.2.1 h.2.2.1 h.2.2.2
theorem e0a5{A B C D E:Prop}{G:Prop}(k:A→B→C→D→E→G)(h:A∧B∧C∧D∧E):G:=k h.1 h.2.1 h.2.2.1 h.2.2.2.1 h.2.2.2.2
theorem e0a6{A B C D E F:Prop}{G:Prop}(k:A→B→C→D→E→F→G)(h:A∧B∧C∧D∧E∧F):G:=k h.1 h.2.1 h.2.2.1 h.2.2.2.1 h.2.2.2.2.1 h.2.2.2.2.2
theorem e1a1{t0:Type}{A:t0→Prop}{G:Prop}(k:∀x,A x→G)(h:∃x,A x):G:=h.elim λx h=>k x h
theorem e1a2{t0:Type}{A B:t0→Prop}{G:Prop}(k:∀x,A x→B x→G)(h:∃x,A x∧B x):G:=h.elim λx h=>k x h.1 h.2
theorem e1a3{t0:Type}{A B C:t0→Prop}{G:Prop}(k:∀x,A x→B x→C x→G)(h:∃x,A x∧B x∧C x):G:=h.elim λx h=>k x h.1 h.2.1 h.2.2
theorem e1a4{t0:Type}{A B C D:t0→Prop}{G:Prop}(k:∀x,A x→B x→C x→D x→G)(h:∃x,A x∧B x∧C x∧D x):G:=h.elim λx h=>k x h.1 h.2.1 h.2.2.1 h.2.2.2
theorem e2a1{t0 t1:Type}{A:t0→t1→Prop}{G:Prop}(k:∀x y,A x y→G)(h:∃x y,A x y):G:=h.elim λx h=>h.elim λy h=>k x y h
theorem e2a2{t0 t1:Type}{A B:t0→t1→Prop}{G:Prop}(k:∀x y,A x y→B x y→G)(h:∃x y,A x y∧B x y):G:=h.elim λx h=>h.elim λy h=>k x y h.1 h.2
theorem e2a3{t0 t1:Type}{A B C:t0→t1→Prop}{G:Prop}(k:∀x y,A x y→B x y→C x y→G)(h:∃x y,A x y∧B x y∧C x y):G:=h.elim λx h=>h.elim λy h=>k x y h.1 h.2.1 h.2.2
theorem e2a4{t0 t1:Type}{A B C D:t0→t1→Prop}{G:Prop}(k:∀x y,A x y→B x y→C x y→D x y→G)(h:∃x y,A x y∧B x y∧C x y∧D x y):G:=h.elim λx h=>h.elim λy h=>k x y h.1 h.2.1 h.2.2.1 h.2.2.2
theorem e3a1{t0 t1 t2:Type}{A:t0→t1→t2→Prop}{G:Prop}(k:∀x y z,A x y z→G)(h:∃x y z,A x y z):G:=h.elim λx h=>h.elim λy h=>h.elim λz h=>k x y z h
theorem e3a3{t0 t1 t2:Type}{A B C:t0→t1→t2→Prop}{G:Prop}(k:∀x y z,A x y z→B x y z→C x y z→G)(h:∃x y z,A x y z∧B x y z∧C x y z):G:=h.elim λx h=>h.elim λy h=>h.elim λz h=>k x y z h.1 h.2.1 h.2.2
theorem e3a4{t0 t1 t2:Type}{A B C D:t0→t1→t2→Prop}{G:Prop}(k:∀x y z,A x y z→B x y z→C x y z→D x y z→G)(h:∃x y z,A x y z∧B x y z∧C x y z∧D x y z):G:=h.elim λx h=>h.elim λy h=>h.elim λz h=>k x y z h.1 h.2.1 h.2.2.1 h.2.2.2
theorem e3a5{t0 t1 t2:Type}{A B C D E:t0→t1→t2→Prop}{G:Prop}(k:∀x y z,A x y z→B x y z→C x y z→D x y z→E x y z→G)(h:∃x y z,A x y z∧B x y z∧C x y z∧D x y z∧E x y z):G:=h.elim λx h=>h.elim λy h=>h.elim λz h=>k x y z h.1 h.2.1 h.2.2.1 h.2.2.2.1 h.2.2.2.2
theorem e4a1{t0 t1 t2 t3:Type}{A:t0→t1→t2→t3→Prop}{G:Prop}(k:∀x y z w,A x y z w→G)(h:∃x y z w,A x y z w):G:=h.elim λx h=>h.elim λy h=>h.elim λz h=>h.elim λw h=>k x y z w h
theorem e4a2{t0 t1 t2 t3:Type}{A B:t0→t1→t2→t3→Prop}{G:Prop}(k:∀x y z w,A x y z w→B x y z w→G)(h:∃x y z w,A x y z w∧B x y z w):G:=h.elim λx h=>h.elim λy h=>h.elim λz h=>h.elim λw h=>k x y z w h.1 h.2
theorem e5a2{t0 t1 t2 t3 t4:Type}{A B:t0→t1→t2→t3→t4→Prop}{G:Prop}(k:∀x y z w u,A x y z w u→B x y z w u→G)(h:∃x y z w u,A x y z w u∧B x y z w u):G:=h.elim λx h=>h.elim λy h=>h.elim λz h=>h.elim λw h=>h.elim λu h=>k x y z w u h.1 h.2
theorem e4a5{t0 t1 t2 t3:Type}{A B C D E:t0→t1→t2→t3→Prop}{G:Prop}(k:∀x y z w,A x y z w→B x y z w→C x y z w→D x y z w→E x y z w→G)(h:∃x y z w,A x y z w∧B x y z w∧C x y z w∧D x y z w∧E x y z w):G:=h.elim λx h=>h.elim λy h=>h.elim λz h=>h.elim λw h=>k x y z w h.1 h.2.1 h.2.2.1 h.2.2.2.1 h.2.2.2.2
theorem e5a5{t0 t1 t2 t3 t4:Type}{A B C D E:t0→t1→t2→t3→t4→Prop}{G:Prop}(k:∀x y z w u,A x y z w u→B x y z w u→C x y z w u→D x y z w u→E x y z w u→G)(h:∃x y z w u,A x y z w u∧B x y z w u∧C x y z w u∧D x y z w u∧E x y z w u):G:=h.elim λx h=>h.elim λy h=>h.elim λz h=>h.elim λw h=>h.elim λu h=>k x y z w u h.1 h.2.1 h.2.2.1 h.2.2.2.1 h.2.2.2.2
theorem e6a5{t0 t1 t2 t3 t4 t5:Type}{A B C D E:t0→t1→t2→t3→t4→t5→Prop}{G:Prop}(k:∀x y z w u v,A x y z w u v→B x y z w u v→C x y z w u v→D x y z w u v→E x y z w u v→G)(h:∃x y z w u v,A x y z w u v∧B x y z w u v∧C x y z w u v∧D x y z w u v∧E x y z w u v):G:=h.elim λx h=>h.elim λy h=>h.elim λz h=>h.elim λw h=>h.elim λu h=>h.elim λv h=>k x y z w u v h.1 h.2.1 h.2.2.1 h.2.2.2.1 h.2.2.2.2
theorem e4a7{t0 t1 t2 t3:Type}{A B C D E F H:t0→t1→t2→t3→Prop}{G:Prop}(k:∀x y z w,A x y z w→B x y z w→C x y z w→D x y z w→E x y z w→F x y z w→H x y z w→G)(h:∃x y z w,A x y z w∧B x y z w∧C x y z w∧D x y z w∧E x y z w∧F x y z w∧H x y z w):G:=h.elim λx h=>h.elim λy h=>h.elim λz h=>h.elim λw h=>k x y z w h.1 h.2.1 h.2.2.1 h.2.2.2.1 h.2.2.2.2.1 h.2.2.2.2.2.1 h.2.2.2.2.2.2
theorem e5a7{t0 t1 t2 t3 t4:Type}{A B C D E F H:t0→t1→t2→t3→t4→Prop}{G:Prop}(k:∀x y z w u,A x y z w u→B x y z w u→C x y z w u→D x y z w u→E x y z w u→F x y z w u→H x y z w u→G)(h:∃x y z w u,A x y z w u∧B x y z w u∧C x y z w u∧D x y z w u∧E x y z w u∧F x y z w u∧H x y z w u):G:=h.elim λx h=>h.elim λy h=>h.elim λz h=>h.elim λw h=>h.elim λu h=>k x y z w u h.1 h.2.1 h.2.2.1 h.2.2.2.1 h.2.2.2.2.1 h.2.2.2.2.2.1 h.2.2.2.2.2.2
theorem e6a7{t0 t1 t2 t3 t4 t5:Type}{A B C D E F H:t0→t1→t2→t3→t4→t5→Prop}{G:Prop}(k:∀x y z w u v,A x y z w u v→B x y z w u v→C x y z w u v→D x y z w u v→E x y z w u v→F x y z w u v→H x y z w u v→G)(h:∃x y z w u v,A x y z w u v∧B x y z w u v∧C x y z w u v∧D x y z w u v∧E x y z w u v∧F x y z w u v∧H x y z w u v):G:=h.elim λx h=>h.elim λy h=>h.elim λz h=>h.elim λw h=>h.elim λu h=>h.elim λv h=>k x y z w u v h.1 h.2.1 h.2.2.1 h.2.2.2.1 h.2.2.2.2.1 h.2.2.2.2.2.1 h.2.2.2.2.2.2
local macro_rules|`(tactic|obtain $p:rcasesPatMed:=$v:term)=>do
 let c s:=((p.raw.reprint.getD "").splitOn s).length
 if c ","<3||c "|">1||c ":">1 then Lean.Macro.throwUnsupported
 let T (a:Lean.Syntax):Lean.TSyntax `Lean.Parser.Tactic.rcasesPatMed:=⟨a⟩
 let q:=p.raw
 let x:=q[0][0]
 let l:=x[1].getSepArgs
 let mut a:Array (Lean.TSyntax ``Lean.Parser.Tactic.tacticSeq):=#[]
 let mut y:Array Lean.Term:=#[]
 let mut z:Array (Array (Lean.TSyntax `tactic)):=#[]
 for o in l do
  let u:=o[0][0][0]
  let f:=Lean.mkIdent (←Lean.Macro.addMacroScope (.mkSimple s!"f{y.size}"))
  if u[0].getId==`rfl then
   y:=y.push f
   z:=z.push #[←`(tactic|subst $f:term)]
  else if u[0].isIdent then
   y:=y.push ⟨u[0]⟩
   z:=z.push #[]
  else if u[1].isMissing then
   y:=y.push (←`(_))
   z:=z.push #[]
  else
   y:=y.push f
   z:=z.push #[←`(tactic|obtain $(T o[0]):rcasesPatMed:=$f)]
 for j in [0:l.size] do
  if j==1 then continue
  let n:=l.size-j
  let mut i:=y.extract 0 n
  let mut w:=(z.extract 0 n).flatten
  if j>0 then
   i:=i.push (←`(r_))
   w:=w.push (←`(tactic|obtain $(T (q.setArg 0 (q[0].setArg 0 (x.setArg 1 (Lean.mkNullNode (Lean.mkSepArray (l.extract n l.size) (Lean.mkAtom ","))))))):rcasesPatMed:=r_))
  for k in [0:i.size] do
   let m:=Lean.mkIdent (.mkSimple s!"e{k}a{i.size-k}")
   let g←if v.raw.isIdent then `(tactic|(revert $(⟨v⟩):ident;refine $m fun $i*=>?_)) else `(tactic|refine $m (fun $i*=>?_) $v)
   a:=a.push (←`(Lean.Parser.Tactic.tacticSeq| $g:tactic;$[$w];*))
  if j==0&& !v.raw.isIdent then
   a:=a.push (←`(Lean.Parser.Tactic.tacticSeq| have h_ := $v; obtain $p := h_))
   break
 a:=a.push (←`(Lean.Parser.Tactic.tacticSeq| rcases $v:term with $p))
 `(tactic|first $[| $a]*)
open Array renaming length_toList → Ag, getElem?_eq_getElem → Cs, getD_eq_getD_getElem? → Df, getElem?_toList → Fg, toList_push → Jd, replicate → Mw, getElem?_eq_none → Rg, getElem?_setIfInBounds → cR, getElem?_eq_some_iff → fO, size_setIfInBounds → jO, toList_filterMap → nB
open Bool renaming false_eq_true → Dc, and_eq_true → Di, and_false → Fp, false_ne_true → Hb, not_true → Mo, eq_false_iff → Px, or_false → Qt, or_true → Sq, true_or → Ze, not_eq_true → cK
open Classical renaming byContradiction → Ha
open Eq renaming symm → Wr
open False renaming elim → Fv
open ForInStep renaming yield → Jq
open Function renaming comp → Um
open Int renaming toNat_natCast → Qs
open LawfulBEq renaming eq_of_beq → Qp
open List renaming mem_cons_self → Aa, length_map → Ab, mem_cons_of_mem → Ae, mem_singleton → Af, mem_append_right → Ai, mem_append_left → An, mem_cons → Ap, size_toArray → Aq, map_cons → Ar, getElem?_eq_some_iff → Av, mem_append → Aw, mem_of_getElem? → Ay, map_append → Bd, length_append → Be, pairwise_cons → Bl, length_cons → Bq, sublist_append_right → Bw, lookup_cons → Ca, range → Cc, nodup_cons → Cd, mem_filterMap → Cg, mem_map → Ci, not_mem_nil → Cj, getElem?_map → Cn, nodup_nil → Cy, length_take → Da, getElem?_eq_getElem → Dg, length_singleton → Dl, take_length → Dr, sublist_cons_self → Dv, pairwise_append → Dw, length_range → Dx, append_assoc → Ee, append_nil → El, cons_append → En, nodup_append → Fo, length → Fs, perm_middle → Fz, mem_range → Gd, take_sublist → Gj, pairwise_singleton → Gk, map_map → Hl, filterMap_cons → Hx, replicate → Ib, mem_replicate → Ij, getElem?_append_right → Jl, exists_cons_of_ne_nil → Jm, mem_flatMap → Jo, all_eq_true → Jp, pairwise_iff_getElem → Jw, getElem?_append_left → Jx, length_erase_of_mem → Ke, lookup → Km, append_cancel_left → Kn, take_succ_eq_append_getElem → Ky, take_of_length_le → Kz, map_set → La, length_pos_of_mem → Lb, getElem?_set_self → Lc, flatMap_cons → Ld, take_append_drop → Lz, getElem_mem → Mf, any_cons → Mm, mem_of_mem_take → Mr, mem_erase_of_ne → Ms, getElem?_set_ne → Mt, foldl_cons → Nn, toList_toArray → Nr, filter_append → Oq, drop_zero → Os, mem_take_iff_getElem → Pr, mem_of_find?_eq_some → Pt, drop_eq_getElem_cons → Pu, getElem?_set → Pw, length_eq_zero_iff → Rb, length_drop → Rc, find?_some → Tu, mem_of_mem_drop → Va, map_congr_left → Wo, sum_cons → Wq, ext_getElem? → Zd, takeWhile_append_of_pos → dJ, mem_filter → dM, getElem?_take_of_lt → mZ, append_eq_nil_iff → pL, perm_append_comm → sA, mem_iff_getElem? → sC, length_pos_iff → uW, filter_eq_self → uX, find?_eq_none → u7
open List.Pairwise renaming nil → Fb
open List.Perm renaming swap → Ef, refl → Kf
open List.Sublist renaming refl → Dd
open List.cons renaming inj → Le
open Nat renaming le_refl → Al, le_trans → Ba, lt_of_lt_of_le → By, ne_of_lt → Ct, zero_le → Dm, lt_irrefl → Ep, not_lt_zero → Fc, mod_eq_of_lt → Gz, succ_pos → Iv, mod_lt → Iw, le_of_lt → Iy, lt_succ_of_lt → Ln, lt_succ_iff → Nq, zero_add → Oh, lt_trans → Oi, lt_trichotomy → Qq, add_mod → Qr, pow_le_pow_right → Vd, add_sub_cancel → Yu, add_right_comm → Yv, lt_succ_self → cP, not_lt → jN
open Ne renaming symm → Kl
open Option renaming isSome_iff_exists → Pq
open Option.some renaming inj → Br
open Or renaming inl → Ce
open PyProof.Rows renaming envOfC → Ed, slot_tuple_getitem → Eo, slice_from_eq → Me, IntsAre → Nw, AllBare → Py, callWith_type1 → Wp, subscriptTail_builtinR → x8
open PyProof.Rows.F renaming plain_set_update_loop → Cz, entry_set_update_loop → Fy
open PySem renaming wpAny_bind → Ac, PyData → Ad, Shared → Ah, wpAny_pure → Ao, sizeLine → Ax, SetTable → Bb, starEach → Bf, Program → Bh, tupleKeyHash → Bm, mainGlobals → Bv, intKind → Bx, FuncData → Bz, Around → Cr, wpAny_mono → Dn, wpAny_holding → Dq, cellsFrom → Ea, wpAny_newObj_type → Ey, foldedSetIterable → Ez, behindInMarks → Fm, IsTupleKey → Fu, compareOp → Ge, strLen_append → Gi, backTo → Gn, sizeLine_eq → Hg, codeAny_builtin → Hr, wpAny_truthy_bool → Ht, wpAny_loadPart_at → Hu, codeAny → Hv, bootBuiltins → Hw, assignEach → Ic, wpAny_call_entry → Iq, swapsWith → Ir, codeAny_mono → Je, binaryOp → Jj, newFunctionEnv → Kd, wpAny_Call_Name_kw → Lk, rawInt → Ll, wpAny_of_eq → Lv, wpAny_callSpecial?_slot → Lw, wpAny_storeSet_of → Mj, ofAClassStatement → Mk, codeAny_compStart_list → Ml, attributeBase → Nu, Keyword → Nv, sliceBounds → Oe, codeAny_call_builtin → Of, NameKind → Oj, wpAny_passesOwn → Ou, wpAny_execs_nil → Ov, letOwnedTupleGo → Ow, holding → Pv, compEnvC → Qx, call_meets → Qy, assign → Qz, keywordEach → Sj, hashByValue → Sk, wpAny_standAt → To, wpAny_comprehension_free → Tp, setSearchFrom → Tq, pyNext → Tr, setField → Uh, intText? → Ui, wpAny_typeOf → Vb, builtinsNs → Vc, wpAny_setField → Yo, wpAny_field → Yp, lookup_relabel_local → Yr, IsPart → Yw, callerA → Zc, length_partsBetween → Zx, plainId_quiet → cJ, setEntries → cN, wpAny_setState_of → fJ, wpAny_pyIter_list → fK, setAddHashed → fL, wpAny_forIn_list → jI, wpAny_execs_cons → jJ, wpAny_askSetting → jK, noFill_tuple_add → jL, checkBuiltinCall → jM, wpAny_pyNext_tuple_item → u6, wpAny_pyNext_tuple_end → w5, wpAny_pyNext_list_item → w8, slot_list_getitem → FD
open PySem.Around renaming under_plainId → Jh
open PySem.Builtin.Frozenset renaming updateFrom → Tv
open PySem.Builtin.List renaming listTooLong → Np, listLengthHint → Wv
open PySem.Builtin.Slice renaming slicePlaces → Iz, sliceAdjust → Mn, sliceApplied → Wu
open PySem.Builtin.Str renaming occurrences → Bg, glued → Bn, strSub → Cq, partsBetween → Do, strKind → Lx
open PySem.Builtin.Tuple renaming tupleExact → Jf, tupleItemsOf → Ws, tupleIsExact → Wt
open PySem.Calls renaming Name_function_global → fN
open PySem.Code renaming quiet_builtin → Xz
open PySem.F renaming args_str_split_2 → Zy, entry_str_split → cQ, slot_str_split → fM
open PySem.Heap renaming get?_push_of_some → Aj, lt_size → Az, get?_push_size → Bi, SameBut → Fj, get?_update_self → Jc, get?_update_other → Sn, HeldW → So
open PySem.Heap.SameBut renaming update → Dj
open PySem.NameKind renaming cell → Ec, free → Ei
open PySem.NumText renaming digitsVal → Fe
open PySem.Obj renaming putSet → Ys, mapSeq → Yt
open PySem.PassesOwn renaming never → Ew
open PySem.PyData renaming depthAll → Bk, int → Bs, str → Cp, depth → Cv, none → Hk, showable → Ii, hasDict → Kq, shownAll → Mq, shown → Nm, showableAll → Wn, hasDictAll → Xy
open PySem.SeqAt renaming EqAt → Og
open PySem.SetTable renaming below → Bc, insertAt → Bo, bits → Bp, runEnd → Ck, turns → Cw, Probe → Dh, sizeAbove → Du, laid → Gp, advance → Hn, insertAt_perm → Ia, layClean → Iu, grown → Nl, toList_insertAt → Oo, slot → Uk, fill → Ul, has → Wm
open PySem.SetTable.below renaming go → Sm
open PySem.SetTable.layClean renaming free → Dk
open PySem.SetTable.probe renaming go → Gw
open PySem.SetTable.sizeAbove renaming go → Jn
open PySem.Str renaming length → Ho, ofString → Ju, empty → Jv, cps → Lm
open PySem.StrLaws renaming occ_length_le → Rf, glued_between_self → cO
open PySem.Txt renaming slice → Cm
open PySem.Value renaming ref → Cf, type → Fk, none → Ly, isInt → Uj, builtin → Wl
open Sum renaming inl → Tt
open ToString renaming toString → Yq
open True renaming intro → Xx
namespace L2
open PySem PySem.Spec PyProof.Rows
abbrev Zv:=Sum Int Str
def T4:Zv->Value->Bool
 | .inl k,v=>Uj k v
 | .inr x,v=>Value.isStrOf x v
def GQ(w:World):Zv->Int
 | .inl k=>hashInt k
 | .inr x=>hashStr w x
theorem He:∀{k:Zv} {v:Value},T4 k v=true->(∃i t,k=Tt i/\v=Value.int i t)\/(∃x t,k=Sum.inr x/\v=Value.str x t)
 | .inl i,v,h=>by
  obtain ⟨t,e⟩:=Value.isInt_shape (k:=i) (v:=v) h
  exact .inl ⟨i,t,rfl,e⟩
 | .inr x,v,h=>by
  obtain ⟨t,e⟩:=Value.isStrOf_shape (x:=x) (v:=v) h
  exact .inr ⟨x,t,rfl,e⟩
theorem V0(a b:Int):decide ((Tt a:Zv)=Tt b)=(a == b):=by
 by_cases e:a=b
 ·subst e; simp
 ·have h:¬ (Tt a:Zv)=Tt b:=λq=>e (Sum.inl.inj q)
  rw[decide_eq_false h]
  exact (beq_eq_false_iff_ne.mpr e).symm
theorem V4(a b:Str):decide ((Sum.inr a:Zv)=Sum.inr b)=decide (a=b):=by
 by_cases e:a=b
 ·subst e; simp
 ·have h:¬ (Sum.inr a:Zv)=Sum.inr b:=λq=>e (Sum.inr.inj q)
  rw[decide_eq_false h,decide_eq_false e]
theorem X2(a:Int)(b:Str):decide ((Tt a:Zv)=Sum.inr b)=false:=decide_eq_false (λq=>nomatch q)
theorem T8(a:Str)(b:Int):decide ((Sum.inr a:Zv)=Tt b)=false:=decide_eq_false (λq=>nomatch q)
def jH(prog:Bh)(w:World):PySem.KeyKind prog w Zv where
 is:=T4
 hash:=GQ w
 inj:=λv a b ha hb=>by
  rcases He ha with ⟨i,t,rfl,rfl⟩ | ⟨x,t,rfl,rfl⟩
  ·rcases He hb with ⟨j,u,rfl,e⟩ | ⟨y,u,rfl,e⟩
   ·injection e with e1 _; rw[e1]
   ·exact nomatch e
  ·rcases He hb with ⟨j,u,rfl,e⟩ | ⟨y,u,rfl,e⟩
   ·exact nomatch e
   ·injection e with e1 _; rw[e1]
 byValue:=λk v h=>by
  rcases He h with ⟨i,t,rfl,rfl⟩ | ⟨x,t,rfl,rfl⟩ <;> rfl
 pyHash:=λhv h=>by
  rcases He hv with ⟨i,t,rfl,rfl⟩ | ⟨x,t,rfl,rfl⟩
  ·exact wpAny_pyHash_int h
  ·exact wpAny_pyHash_str h
 eqBool:=λhu hv h=>by
  rcases He hu with ⟨i,t,rfl,rfl⟩ | ⟨x,t,rfl,rfl⟩
  ·rcases He hv with ⟨j,u,rfl,rfl⟩ | ⟨y,u,rfl,rfl⟩
   ·rw[V0] at h; exact wpAny_eqBool_int h
   ·rw[X2] at h; exact SeqAt.EqAt.int_str i t y u _ _ _ _ h
  ·rcases He hv with ⟨j,u,rfl,rfl⟩ | ⟨y,u,rfl,rfl⟩
   ·rw[T8] at h; exact SeqAt.EqAt.str_int x t j u _ _ _ _ h
   ·rw[V4] at h; exact wpAny_eqBool_str h
 «strs»:=λk x t v h=>by
  rcases He h with ⟨i,u,rfl,e⟩ | ⟨y,u,rfl,e⟩
  ·exact nomatch e
  ·injection e with e1 _
   subst e1
   cases v <;> rfl
inductive V where
 | non | bl (b:Bool) | int (i:Int) | str (x:Str) | byt (b:Array UInt8) | flt (b:UInt64) | ref (a:Addr) | ty (n:String)
 deriving DecidableEq
def RelV:V->Value->Prop
 | .non,u=>u=Ly
 | .bl b,u=>u=Value.bool b
 | .int i,u=>∃t,u=Value.int i t
 | .str x,u=>∃t,u=Value.str x t
 | .byt b,u=>∃t,u=Value.bytes b t
 | .flt b,u=>∃t,u=Value.float b t
 | .ref a,u=>u=Cf a
 | .ty n,u=>u=Fk n
abbrev Fq:List V->List Value->Prop:=Paired RelV
theorem Fq.length{xs:List V}{us:List Value}(r:Fq xs us):xs.length=us.length:=Paired.length r
theorem Fq.get:∀{xs:List V} {us:List Value} {i:Nat} {x:V},Fq xs us->xs[i]? = some x->∃u,us[i]? = some u/\RelV x u
 | _,_,_,_,.nil,e=>by simp at e
 | _,_,0,_,.cons r _,e=>by simp at e; subst e; exact ⟨_,rfl,r⟩
 | _,_,i+1,x,.cons _ t,e=>by
  obtain ⟨u,h1,h2⟩:=Fq.get (i:=i) (x:=x) t (by simpa using e)
  exact ⟨u,by simpa using h1,h2⟩
theorem Fq.set{x:V}{u:Value}(r:RelV x u):∀{xs:List V} {us:List Value} (i:Nat),Fq xs us->Fq (xs.set i x) (us.set i u)
 | _,_,_,.nil=>.nil
 | _,_,0,.cons _ t=>.cons r t
 | _,_,i+1,.cons q t=>.cons q (Fq.set r i t)
theorem Fq.append:∀{xs ys:List V} {us ws:List Value},Fq xs us->Fq ys ws->Fq (xs++ys) (us++ws)
 | _,_,_,_,.nil,s=>s
 | _,_,_,_,.cons r t,s=>.cons r (Fq.append t s)
theorem Fq.take:∀{xs:List V} {us:List Value} (n:Nat),Fq xs us->Fq (xs.take n) (us.take n)
 | _,_,0,_=>.nil
 | _,_,_+1,.nil=>.nil
 | _,_,n+1,.cons r t=>.cons r (Fq.take n t)
theorem Fq.drop:∀{xs:List V} {us:List Value} (n:Nat),Fq xs us->Fq (xs.drop n) (us.drop n)
 | _,_,0,r=>r
 | _,_,_+1,.nil=>.nil
 | _,_,n+1,.cons _ t=>Fq.drop n t
def U5:Option V->Option Value->Prop
 | some v,some u=>RelV v u
 | none,none=>True
 | _,_=>False
def KV{κ:Type}:List (κ×V)->List (κ×Value)->Prop:=Paired λ(p:κ×V) (q:κ×Value)=>p.1=q.1/\RelV p.2 q.2
def kV:Zv->V
 | .inl i=>.int i
 | .inr x=>.str x
inductive HO where
 /-- a list -/
 | lst (xs:List V)
 /-- a tuple (never changes) -/
 | tup (xs:List V)
 /-- a dict whose Mp are ints and texts; one whose Mp are tuples of ints and texts (the empty one is both) -/
 | dK (kvs:List (Zv×V)) | dT (kvs:List (List Zv×V))
 /-- a set of ints: its members,its size -/
 | set (S:Int->Bool) (n:Nat)
 /-- an instance of the class at C,its dict at dx,its attributes -/
 | ins (C dx:Addr) (fs:List (Str×V))
 /-- the dict of the instance at x -/
 | own (x:Addr)
 /-- the dict of an exception -/
 | xd (fs:List (Str×V))
 /-- a bound method,f of x -/
 | met (f x:Addr)
 /-- a range object lo,lo+1,.. below hi -/
 | rng (lo hi:Int)
 /-- a thing that is known to the object (the script; a dict while a loop walks it): read,never written while it is so -/
 | frz (o:Obj) (u:HO)
 /-- a code object's table -/
 | tbl (ps:Array Value)
 /-- any other thing,by what is true of its one object (a def of one's own: nJ a S n:=HO.ext λh=>..) -/
 | ext (φ:Heap->Prop)
abbrev Hp:=Addr->Option HO
def upd(H:Hp)(a:Addr)(o:HO):Hp:=λb=>if b=a then some o else H b
theorem Et{H:Hp}{a:Addr}{o:HO}:upd H a o a=some o:=by unfold upd; rw[if_pos rfl]
theorem Fd{H:Hp}{a b:Addr}{o:HO}(h:b≠a):upd H a o b=H b:=by unfold upd; rw[if_neg h]
theorem Fi{H:Hp}{a b:Addr}{o:HO}(h:H a=some o)(h':H b=none):a≠b:=by
 intro e; subst e; rw[h] at h'; cases h'
section
variable(P:Bh)(w:World)
def Io(H:Hp)(h:Heap)(a:Addr):HO->Prop
 | .lst xs=>xs.length<=Ax/\∃(its:List Value) (n:Nat),Fq xs its/\h.get? a=some { cls:=.type "list",data:=.seq its.toArray n }
 | .tup xs=>xs.length<=Ax/\∃its:List Value,Fq xs its/\IsTup h a its.toArray
 | .dK kvs=>kvs.length<=Ax/\(a == sysModules)=false/\∃vs,KV kvs vs/\h.DictOf (jH P w) a vs
 | .dT kvs=>kvs.length<=Ax/\(a == sysModules)=false/\∃xs:List (List Zv×Addr×Value),
   Paired (λ(p:List Zv×V) (q:List Zv×Addr×Value)=>p.1=q.1/\H q.2.1=some (.tup (p.1.map kV))/\RelV p.2 q.2.2) kvs xs /\
   ∃o es ep,h.get? a=some o/\o.ExactDict/\o.data=.dict es ep/\es.toList=xs.map (entryOfKey (tupleKind (jH P w)))/\(xs.map (·.1)).Nodup/\ep=es.size
 | .set S n=>h.SetOf (Bx P w) a S n
 | .ins C dx fs=>H dx=some (.own a)/\fs.length<=1000/\dx≠a/\h.get? a=some (PySem.W.instObj C dx) /\
   ∃mA,h.Ns1 dx mA/\(∀f,U5 (fs.lookup f) (mA f))/\PySem.Within mA (fs.map (·.1))
 | .own _=>∃o,h.get? a=some o
 | .xd fs=>∃mA,h.Ns1 a mA/\∀f,U5 (fs.lookup f) (mA f)
 | .rng lo hi=>∃t u v,h.get? a=some { cls:=.type "range",data:=.fields #[.int lo t,.int hi u,.int 1 v] }
 | .frz o u=>h.get? a=some o/\Io H h a u
 | .tbl ps=>∃qs:Array Value,h.get? a=some { cls:=.none,data:=.fields qs }/\TriplesOk qs.toList/\∀(pos:Pos) (v:Value),codeAmong pos qs.toList=some v->∃(c:Addr) (oc:Obj) (us:Array Value) (q:Str) (t t0:Tok),v=.ref c/\H c=some (.own a)/\h.get? c=some oc/\oc.data=.fields us/\us[1]? = some (.str q t)/\ps[0]? = some (.str q t0)
 | .met f x=>h.get? a=some (PySem.W.methodObj (.ref f) (.ref x))
 | .ext φ=>φ h/\(∃o,h.get? a=some o)/\∀h1 h2:Heap,φ h1->(∀o,h1.get? a=some o->h2.get? a=some o)->φ h2
def Xg(H:Hp)(h:Heap):Prop:=∀a o,H a=some o->Io P w H h a o
end
section
variable{P:Bh}{w:World}{H H':Hp}{h h':Heap}{a:Addr}{o:HO}
theorem Io.lt(x:Io P w H h a o):a<h.objs.size:=by
 cases o with
 | lst xs=>obtain ⟨_,_,_,_,e⟩:=x; exact Az e
 | tup xs=>obtain ⟨_,_,_,p⟩:=x; exact p.lt
 | dK kvs=>obtain ⟨_,_,_,_,o,_,_,e,_⟩:=x; exact Az e
 | dT kvs=>obtain ⟨_,_,_,_,o,_,_,e,_⟩:=x; exact Az e
 | set S n=>obtain ⟨o,_,_,_,e,_⟩:=x; exact Az e
 | ins C dx fs=>obtain ⟨_,_,_,e,_⟩:=x; exact Az e
 | own y=>obtain ⟨_,e⟩:=x; exact Az e
 | xd fs=>obtain ⟨_,⟨_,_,_,e,_⟩,_⟩:=x; exact Az e
 | rng lo hi=>obtain ⟨_,_,_,e⟩:=x; exact Az e
 | frz ob u=>obtain ⟨e,_⟩:=x; exact Az e
 | tbl ps=>obtain ⟨_,e,_⟩:=x; exact Az e
 | met f y=>exact Az (show h.get? a=some _ from x)
 | ext φ=>obtain ⟨_,⟨_,e⟩,_⟩:=x; exact Az e
theorem Paired.mapP{α β:Type}{F G:α->β->Prop}:∀{l₁:List α} {l₂:List β},Paired F l₁ l₂->(∀a b,F a b->G a b)->Paired G l₁ l₂
 | _,_,.nil,_=>.nil
 | _,_,.cons r t,f=>.cons (f _ _ r) (Paired.mapP t f)
theorem Io.stay(x:Io P w H h a o)(k:∀b u,(b=a\/H b=some (.own a))->h.get? b=some u->h'.get? b=some u)(ho:∀b,H b=some (.own a)->H' b=some (.own a))(ht:∀b xs,H b=some (.tup xs)->H' b=some (.tup xs)):Io P w H' h' a o:=by
 induction o with
 | lst xs=>obtain ⟨z,its,n,r,e⟩:=x; exact ⟨z,its,n,r,k _ _ (.inl rfl) e⟩
 | tup xs=>obtain ⟨z,its,r,ob,e,c⟩:=x; exact ⟨z,its,r,ob,k _ _ (.inl rfl) e,c⟩
 | dK kvs=>obtain ⟨z,y,vs,r,ob,es,ep,e,c⟩:=x; exact ⟨z,y,vs,r,ob,es,ep,k _ _ (.inl rfl) e,c⟩
 | dT kvs =>
  obtain ⟨z,y,xs,r,ob,es,ep,e,c⟩:=x
  exact ⟨z,y,xs,Paired.mapP r λp q z=>⟨z.1,ht _ _ z.2.1,z.2.2⟩,ob,es,ep,k _ _ (.inl rfl) e,c⟩
 | set S n=>obtain ⟨ob,es,ep,t,e,c⟩:=x; exact ⟨ob,es,ep,t,k _ _ (.inl rfl) e,c⟩
 | ins C dx fs =>
  obtain ⟨d,z,ne,e,mA,⟨od,es,ep,e2,c⟩,r⟩:=x
  exact ⟨ho _ d,z,ne,k _ _ (.inl rfl) e,mA,⟨od,es,ep,k _ _ (.inr d) e2,c⟩,r⟩
 | own y=>obtain ⟨ob,e⟩:=x; exact ⟨ob,k _ _ (.inl rfl) e⟩
 | xd fs=>obtain ⟨mA,⟨od,es,ep,e,c⟩,r⟩:=x; exact ⟨mA,⟨od,es,ep,k _ _ (.inl rfl) e,c⟩,r⟩
 | rng lo hi=>obtain ⟨t,u,v,e⟩:=x; exact ⟨t,u,v,k _ _ (.inl rfl) e⟩
 | frz ob u ih=>obtain ⟨e,q⟩:=x; exact ⟨k _ _ (.inl rfl) e,ih q⟩
 | tbl ps =>
  obtain ⟨qs,e,t,z⟩:=x
  exact ⟨qs,k _ _ (.inl rfl) e,t,λpos v y=>by
   obtain ⟨c,oc,us,q,t,t0,h1,h2,h3,h4⟩:=z pos v y
   exact ⟨c,oc,us,q,t,t0,h1,ho _ h2,k _ _ (.inr h2) h3,h4⟩⟩
 | met f y =>
  have e:h.get? a=some (PySem.W.methodObj (.ref f) (.ref y)):=x
  show h'.get? a=some (PySem.W.methodObj (.ref f) (.ref y))
  exact k a _ (.inl rfl) e
 | ext φ=>obtain ⟨p,⟨o,e⟩,st⟩:=x; exact ⟨st _ _ p λo q=>k _ _ (.inl rfl) q,⟨o,k _ _ (.inl rfl) e⟩,st⟩
theorem Xg.lt(x:Xg P w H h)(e:H a=some o):a<h.objs.size:=(x a o e).lt
theorem Xg.fresh(x:Xg P w H h)(e:h.objs.size<=a):H a=none:=by
 cases q:H a with
 | none=>rfl
 | some u=>exact absurd (By (x.lt q) e) (Ep _)
theorem Xg.kept(x:Xg P w H h)(k:∀b u,h.get? b=some u->h'.get? b=some u):Xg P w H h':=λa o e =>
 (x a o e).stay (λb u _ q=>k b u q) (λ_ q=>q) λ_ _ q=>q
theorem Xg.laid(x:Xg P w H h)(k:∀b u,h.get? b=some u->h'.get? b=some u)(hp:h.objs.size<=a)(new:Io P w (upd H a o) h' a o):Xg P w (upd H a o) h':=λb u e=>by
 have hn:=x.fresh hp
 by_cases hb:b=a
 ·subst hb; rw[Et] at e; cases e; exact new
 ·rw[Fd hb] at e
  exact (x b u e).stay (λc v _ q=>k c v q) (λc q=>by rw[Fd (Fi q hn)]; exact q) λc xs q=>by rw[Fd (Fi q hn)]; exact q
end
def Rd(H:Hp)(a:Addr)(u:HO):Prop:=H a=some u\/∃o,H a=some (.frz o u)
theorem Rd.ok{P:Bh}{w:World}{H:Hp}{h:Heap}{a:Addr}{u:HO}(r:Rd H a u)(x:Xg P w H h):Io P w H h a u:=by
 rcases r with r | ⟨o,r⟩
 ·exact x a u r
 ·obtain ⟨_,q⟩:=x a _ r
  exact q
def FF:Option HO->Prop
 | some (.lst _)=>True
 | some (.dK _)=>True
 | some (.dT _)=>True
 | some (.set _ _)=>True
 | some (.ins _ _ _)=>True
 | some (.ext _)=>True
 | _=>False
section
variable{P:Bh}{w:World}{H:Hp}{h h':Heap}{x e:Addr}{o':HO}
theorem Xg.write(ok:Xg P w H h)(mu:FF (H x))(he:e=x\/H e=some (.own x))(k:∀b u,b≠e->h.get? b=some u->h'.get? b=some u)(heo:∃u,h'.get? e=some u)(new:Io P w (upd H x o') h' x o'):Xg P w (upd H x o') h':=λb u q=>by
 have nown:∀c y,H c=some (.own y)->c≠x:=λc y r z=>by subst z; rw[r] at mu; exact mu
 have cU:∀c xs,H c=some (.tup xs)->c≠x:=λc xs r z=>by subst z; rw[r] at mu; exact mu
 by_cases hb:b=x
 ·subst hb; rw[Et] at q; cases q; exact new
 ·rw[Fd hb] at q
  by_cases hbe:b=e
  ·have q':H b=some (.own x):=by
    rcases he with z | z
    ·exact absurd (hbe.trans z) hb
    ·rw[hbe]; exact z
   rw[q] at q'; cases q'
   obtain ⟨v,hv⟩:=heo
   exact ⟨v,by rw[hbe]; exact hv⟩
  ·refine (ok b u q).stay (λc v hc r=>k c v ?_ r) (λc r=>by rw[Fd (nown c b r)]; exact r) λc xs r=>by rw[Fd (cU c xs r)]; exact r
   rcases hc with rfl | hc
   ·exact hbe
   ·rintro rfl
    rcases he with z | z
    ·exact nown c b hc z
    ·rw[hc] at z; cases z; exact hb rfl
end
structure Un(fs ex:List Addr)(H H':Hp)(h h':Heap):Prop where
 keep:∀b o,h.get? b=some o->H b=none->b∉fs->b∉ex->h'.get? b=some o
 slot:∀b o,h.get? b=some o->H b=none->b∈fs->b∉ex->∃sl,h'.get? b=some { o with slots:=sl }
 free:∀b o,h.get? b=some o->H b=none->b∉ex->H' b=none
 there:∀b o,h.get? b=some o->b∉ex->∃o',h'.get? b=some o'
 tups:∀b xs,H b=some (.tup xs)->H' b=some (.tup xs)
 frzs:∀b o u,H b=some (.frz o u)->H' b=some (.frz o u)
 tbls:∀b ps,H b=some (.tbl ps)->∃more,H' b=some (.tbl (ps++more))
section
variable{fs fs' ex ex':List Addr}{H H1 H2:Hp}{h h1 h2 h':Heap}{a x e:Addr}{o:HO}
theorem Un.any(u:Un fs ex H H1 h h1){b:Addr}{ob:Obj}(q:h.get? b=some ob)(n:H b=none)(hx:b∉ex):∃sl,h1.get? b=some { ob with slots:=sl }:=by
 by_cases hb:b∈fs
 ·exact u.slot b ob q n hb hx
 ·exact ⟨ob.slots,u.keep b ob q n hb hx⟩
theorem Un.kept(k:∀b u,h.get? b=some u->h'.get? b=some u):Un fs ex H H h h' :=
 ⟨λb ob q _ _ _=>k b ob q,λb ob q _ _ _=>⟨ob.slots,k b ob q⟩,λ_ _ _ n _=>n,λb ob q _=>⟨ob,k b ob q⟩,λ_ _ q=>q,λ_ _ _ q=>q,λ_ ps q=>⟨#[],by rw[q]; simp⟩⟩
theorem Un.refl:Un fs ex H H h h:=Un.kept λ_ _ q=>q
theorem Un.laid(k:∀b u,h.get? b=some u->h'.get? b=some u)(hp:h.objs.size<=a)(hn:H a=none):Un fs ex H (upd H a o) h h' where
 keep:=λb u q _ _ _=>k b u q
 slot:=λb u q _ _ _=>⟨u.slots,k b u q⟩
 free:=λb u q n _=>by rw[Fd (Ct (By (Az q) hp))]; exact n
 there:=λb u q _=>⟨u,k b u q⟩
 tups:=λb xs q=>by rw[Fd (Fi q hn)]; exact q
 frzs:=λb u xs q=>by rw[Fd (Fi q hn)]; exact q
 tbls:=λb ps q=>⟨#[],by rw[Fd (Fi q hn),q]; simp⟩
theorem Un.write(mu:FF (H x))(he:e=x\/H e=some (.own x))(k:∀b u,b≠e->h.get? b=some u->h'.get? b=some u)(heo:∃u,h'.get? e=some u):Un fs ex H (upd H x o) h h':=by
 have hx:∀b,H b=none->b≠x:=λb n z=>by subst z; rw[n] at mu; exact mu
 have hb:∀b,H b=none->b≠e:=λb n z=>by
  subst z
  rcases he with r | r
  ·exact hx b n r
  ·rw[n] at r; cases r
 have hm:∀b u,H b=some u->¬ FF (some u)->b≠x:=λb u q nm z=>by subst z; rw[q] at mu; exact nm mu
 refine ⟨λb u q n _ _=>k b u (hb b n) q,λb u q n _ _=>⟨u.slots,k b u (hb b n) q⟩,λb u q n _=>by rw[Fd (hx b n)]; exact n,λb u q _=>?_,
  λb xs q=>by rw[Fd (hm b _ q λz=>z)]; exact q,λb u xs q=>by rw[Fd (hm b _ q λz=>z)]; exact q,λb ps q=>⟨#[],by rw[Fd (hm b _ q λz=>z),q]; simp⟩⟩
 by_cases hbe:b=e
 ·subst hbe; exact heo
 ·exact ⟨u,k b u hbe q⟩
end
def FP(h:Heap)(H:Hp):List Addr:=(Cc h.objs.size).filter λa=>(H a).isSome
def cV(h:Heap)(H:Hp):Heap:=PySem.W.hideAll h (FP h H)
theorem sP(h:Heap)(H:Hp):(cV h H).objs.size=h.objs.size:=PySem.W.hideAll_size _ _
theorem xN{h:Heap}{H:Hp}{b:Addr}{o:Obj}(e:h.get? b=some o)(n:H b=none):(cV h H).get? b=some o :=
 PySem.W.hideAll_get _ e λhm=>by
  have q:(H b).isSome=true:=(dM.mp hm).2
  rw[n] at q; simp at q
theorem J3{h:Heap}{H:Hp}{b:Addr}{o:Obj}(e:(cV h H).get? b=some o):h.get? b=some o/\H b=none:=by
 have e':h.get? b=some o:=PySem.W.of_hideAll (FP h H) e
 refine ⟨e',?_⟩
 cases q:H b with
 | none=>rfl
 | some x =>
  have hm:b∈FP h H:=List.mem_filter.mpr ⟨Gd.mpr (Az e'),by simp [q]⟩
  have z:(cV h H).get? b=none:=PySem.W.hideAll_none (FP h H) hm
  rw[z] at e; cases e
def A9(g h:Heap)(L:Addr):List (Addr×Obj):=(Cc h.objs.size).filterMap λa=>if a=L\/(g.get? a).isSome=true then none else (h.get? a).map λo=>(a,o)
def Ih(g h:Heap)(L d:Addr):List (Addr×Obj):=(A9 g h L).filter λp=>decide (p.1≠d)
structure Mod(K:PySem.W.Frag)(mg:Str->Option Value)(base:Heap):Prop where
 kin:K.In base
 glob:base.Ns Bv mg
 blt:∃mb,base.Ns Vc mb/\∀x:Str,x ≠ "__name__" -> mb x=Hw x
 nolimit:base.NoLimit
def Wh:List Str:=["often", "cut_by"]
def X6(x:Str):Str:=x ++ ".<locals>." ++ "<lambda>"
def Q3(H:Hp)(P:Addr)(q:Str):Prop:=∃(ps:Array Value) (t0:Tok),H P=some (.tbl ps)/\ps[0]? = some (.str q t0)
def wC(K:PySem.W.Frag)(mg:Str->Option Value)(base:Heap)(H:Hp):Prop:=∀x∈Wh,∀c P,PySem.W.tabIn K x=some (c,P)->PySem.W.CodeHd base c P/\base.BuiltinsAt mg P/\Q3 H P (X6 x)
theorem wC.un{K:PySem.W.Frag}{mg:Str->Option Value}{base:Heap}{fs ex:List Addr}{H H':Hp}{h h':Heap}(t:wC K mg base H)(u:Un fs ex H H' h h'):wC K mg base H':=λx hx c P e=>by
 obtain ⟨h1,h2,ps,t0,h3,h4⟩:=t x hx c P e
 obtain ⟨more,h5⟩:=u.tbls P ps h3
 refine ⟨h1,h2,ps++more,t0,h5,?_⟩
 have hl:0<ps.size:=by
  rcases Nat.eq_zero_or_pos ps.size with z | z
  ·rw[Rg (by omega)] at h4; cases h4
  ·exact z
 rw[Array.getElem?_append_left hl]
 exact h4
structure Cx where
 prog:Bh
 w:World
 K:PySem.W.Frag
 mg:Str->Option Value
 base:Heap
 A:Cr
 N:List Str
 s₀:Ah
 H₀:Hp
 env:Env
 outer:List Env
 stack:List Env
 ex:List Addr
 fn:Str->Bool
 calm:Bool
 pn:List (Addr×Obj)
 xe:Value->Ah->Prop
def Ot(l:List Env):List Addr:=l.filterMap (·.frame)
abbrev Cx.fs(X:Cx):List Addr:=Ot X.outer
def FG(sc:Scope)(x:Str):Prop:=sc.names.lookup x=some .local\/sc.names.lookup x=some .cell\/sc.names.lookup x=some .free
def Loc(sc:Scope)(x:Str):Prop:=sc.names.lookup x=some .local\/sc.names.lookup x=some .cell
def GD(env:Env)(h:Heap)(m:Str->Option Value)(x:Str)(u:Value):Prop :=
 (env.kindOf x=some .local/\m x=some u)\/((env.kindOf x=some .cell\/env.kindOf x=some .free)/\∃c,env.cells.lookup x=some c/\h.IsCell c (some u))
structure Cx.Ok(X:Cx):Prop where
 mod:Mod X.K X.mg X.base
 kind:X.env.scope.kind=.function
 glob:X.env.globals=Bv
 blt:X.env.builtins=Vc
 above:X.s₀.heap.objs.size<=X.env.locals
 inj:∀x y c,X.env.cells.lookup x=some c->X.env.cells.lookup y=some c->x=y
 has:∀x,(X.env.kindOf x=some .cell\/X.env.kindOf x=some .free)->∃c,X.env.cells.lookup x=some c
 cab:∀x c,X.fn x=true->X.env.cells.lookup x=some c->X.s₀.heap.objs.size<=c
 hd:X.calm=true->X.A.handled=none
 frames:X.A.frames=some X.stack
 stk:X.stack=X.outer\/(X.stack=X.env::X.outer/\X.env.frame=some X.env.locals)
 exf:∀b∈X.ex,b≠X.env.locals/\∀x c,X.env.cells.lookup x=some c->c≠b
 bs:∀b o,X.base.get? b=some o->X.s₀.heap.get? b=some o/\X.H₀ b=none
 bsz:X.base.objs.size<=X.s₀.heap.objs.size
 noex:∀b o,X.base.get? b=some o->b∉X.ex
 exfs:∀b∈X.ex,b∉X.fs
 funs:X.s₀.heap.FunFrames X.base X.outer
 frf:∀b∈X.fs,X.H₀ b=none
 tab:wC X.K X.mg X.base X.H₀
structure Inv(X:Cx)(pins:List (Addr×Obj))(σ:List (Option V))(H:Hp)(s:Ah):Prop where
 ok:X.Ok
 os:s.os=X.s₀.os
 bare:Py s.gens
 base:Un X.fs X.ex X.H₀ H X.s₀.heap s.heap
 loc:∃m,s.heap.Ns X.env.locals m/\∀(i:Nat) (x:Str) (v:V),X.N[i]? = some x->σ[i]? = some (some v)->FG X.env.scope x->∃u,RelV v u/\GD X.env s.heap m x u
 cell:∀x c,X.env.cells.lookup x=some c->∃v,s.heap.IsCell c v
 free:H X.env.locals=none
 freeC:∀x c,X.env.cells.lookup x=some c->H c=none
 pin:∀p∈X.pn++pins,s.heap.get? p.1=some p.2/\H p.1=none/\p.1≠X.env.locals/\p.1∉X.fs/\∀v,p.2.data≠.cell v
 hok:Xg X.prog X.w H s.heap
 len:σ.length=X.N.length
section
variable{X:Cx}{pins:List (Addr×Obj)}{σ:List (Option V)}{H H':Hp}{s:Ah}{h':Heap}
theorem Cx.Ok.nofr(ok:X.Ok){b:Addr}{o:Obj}(e:X.base.get? b=some o):b∉X.fs:=λhb=>by
 have:=(ok.funs.mem hb).1
 rw[e] at this; cases this
theorem Inv.bs(I:Inv X pins σ H s):∀b o,X.base.get? b=some o->s.heap.get? b=some o/\H b=none:=λb o e =>
 ⟨I.base.keep b o (I.ok.bs b o e).1 (I.ok.bs b o e).2 (I.ok.nofr e) (I.ok.noex b o e),I.base.free b o (I.ok.bs b o e).1 (I.ok.bs b o e).2 (I.ok.noex b o e)⟩
theorem Inv.bk(I:Inv X pins σ H s):∀b o,X.base.get? b=some o->s.heap.get? b=some o:=λb o e=>(I.bs b o e).1
theorem Inv.mod(I:Inv X pins σ H s):Mod X.K X.mg X.base:=I.ok.mod
theorem Inv.kIn(I:Inv X pins σ H s):X.K.In s.heap:=I.ok.mod.kin.keeps I.bk
theorem Inv.lt(I:Inv X pins σ H s):X.env.locals<s.heap.objs.size:=let ⟨_,hn,_⟩:=I.loc; hn.lt
theorem Inv.sz(I:Inv X pins σ H s):X.s₀.heap.objs.size<=s.heap.objs.size:=Ba I.ok.above (Iy I.lt)
theorem Inv.nofs(I:Inv X pins σ H s){a:Addr}(h:s.heap.objs.size<=a):a∉X.fs:=λhb=>by
 obtain ⟨_,o,ho,_⟩:=I.ok.funs.mem hb
 exact absurd (By (Az ho) (Ba I.sz h)) (Ep _)
theorem Inv.cne(I:Inv X pins σ H s):∀x c,X.env.cells.lookup x=some c->c≠X.env.locals:=λx c e z=>by
 obtain ⟨v,o,ho,hd⟩:=I.cell x c e
 obtain ⟨m,⟨o',es,ep,ho',hd',_⟩,_⟩:=I.loc
 rw[z,ho'] at ho; cases ho; rw[hd'] at hd; cases hd
theorem Inv.funs(I:Inv X pins σ H s):s.heap.FunFrames X.base X.outer:=by
 have all:∀(l:List Env),(∀b∈Ot l,b∈X.fs)->X.s₀.heap.FunFrames X.base l->s.heap.FunFrames X.base l:=by
  intro l
  induction l with
  | nil=>intro _ _; trivial
  | cons env r ih =>
   intro hs hl
   obtain ⟨hk,⟨L,o,hf,hn,ho,hd⟩,hr⟩:=hl
   have hL:L∈X.fs:=hs L (by unfold Ot; rw[Hx,hf]; exact Aa)
   obtain ⟨sl,e⟩:=I.base.slot L o ho (I.ok.frf L hL) hL λz=>I.ok.exfs L z hL
   exact ⟨hk,⟨L,_,hf,hn,e,hd⟩,ih (λb hb=>hs b (by unfold Ot; rw[Hx,hf]; exact Ae _ hb)) hr⟩
 exact all X.outer (λ_ hb=>hb) I.ok.funs
theorem Inv.stack(I:Inv X pins σ H s):s.heap.FunFrames X.base X.stack:=by
 rcases I.ok.stk with e | ⟨e,hf⟩
 ·rw[e]; exact I.funs
 ·rw[e]
  obtain ⟨m,hn,_⟩:=I.loc
  refine .cons (by rw[I.ok.kind]; decide) hf hn ?_ I.funs
  exact Heap.get?_none_of_le (Ba I.ok.bsz I.ok.above)
theorem Inv.stkSub(I:Inv X pins σ H s):∀b∈Ot X.stack,b∈X.env.locals::X.fs:=λb hb=>by
 rcases I.ok.stk with e | ⟨e,hf⟩
 ·rw[e] at hb; exact Ae _ hb
 ·rw[e] at hb
  unfold Ot at hb
  rw[Hx,hf] at hb
  exact hb
theorem Inv.stkFree(I:Inv X pins σ H s):∀b∈Ot X.stack,H b=none:=λb hb=>by
 rcases Ap.mp (I.stkSub b hb) with e | hb
 ·rw[e]; exact I.free
 ·obtain ⟨_,o,ho,_⟩:=I.ok.funs.mem hb
  exact I.base.free b o ho (I.ok.frf b hb) λz=>I.ok.exfs b z hb
theorem Inv.step{g':Array GenState}{t':Nat}{d':Drawn}{ch:List Addr}(I:Inv X pins σ H s)(hch:∀b∈ch,(b∈X.ex\/X.s₀.heap.objs.size<=b)/\b≠X.env.locals/\(∀x c,X.env.cells.lookup x=some c->c≠b)/\∀p∈X.pn++pins,p.1≠b)(keep:∀b o,b≠X.env.locals->b∉X.fs->b∉ch->s.heap.get? b=some o->H b=none->h'.get? b=some o)(slot:∀b o,b≠X.env.locals->b∈X.fs->b∉ch->s.heap.get? b=some o->H b=none->∃sl,h'.get? b=some { o with slots:=sl })(free:∀b o,b∉ch->s.heap.get? b=some o->H b=none->H' b=none)(there:∀b o,b∉ch->s.heap.get? b=some o->∃o',h'.get? b=some o')(tups:∀b xs,H b=some (.tup xs)->H' b=some (.tup xs))(frzs:∀b o u,H b=some (.frz o u)->H' b=some (.frz o u))(tbls:∀b ps,H b=some (.tbl ps)->∃more,H' b=some (.tbl (ps++more)))(ns:∀m,s.heap.Ns X.env.locals m->h'.Ns X.env.locals m)(hok:Xg X.prog X.w H' h')(hg:Py g'):Inv X pins σ H' { s with heap:=h',gens:=g',drawn:=d',toks:=t' }:=by
 have neL:∀b o,X.s₀.heap.get? b=some o->b≠X.env.locals:=λb o e=>Ct (By (Az e) I.ok.above)
 have neC:∀b o,X.s₀.heap.get? b=some o->b∉X.ex->b∉ch:=λb o e hx hb=>by
  rcases (hch b hb).1 with z | z
  ·exact hx z
  ·exact absurd (By (Az e) z) (Ep _)
 have cellK:∀x c,X.env.cells.lookup x=some c->∀v,s.heap.IsCell c v->h'.IsCell c v:=λx c e v ⟨o,ho,hd⟩=>by
  have nch:c∉ch:=λz=>(hch c z).2.2.1 x c e rfl
  by_cases hc:c∈X.fs
  ·obtain ⟨sl,q⟩:=slot c o (I.cne x c e) hc nch ho (I.freeC x c e)
   exact ⟨_,q,hd⟩
  ·exact ⟨o,keep c o (I.cne x c e) hc nch ho (I.freeC x c e),hd⟩
 refine ⟨I.ok,I.os,hg,⟨λb o e n hb hx=>?_,λb o e n hb hx=>?_,λb o e n hx=>?_,λb o e hx=>?_,λb xs e=>tups b xs (I.base.tups b xs e),λb o xs e=>frzs b o xs (I.base.frzs b o xs e),λb ps e=>?_⟩,?_,λx c e=>?_,?_,λx c e=>?_,λp hp=>?_,hok,I.len⟩
 ·exact keep b o (neL b o e) hb (neC b o e hx) (I.base.keep b o e n hb hx) (I.base.free b o e n hx)
 ·obtain ⟨sl,e1⟩:=I.base.slot b o e n hb hx
  obtain ⟨sl',e2⟩:=slot b _ (neL b o e) hb (neC b o e hx) e1 (I.base.free b o e n hx)
  exact ⟨sl',e2⟩
 ·obtain ⟨o',e1⟩:=I.base.there b o e hx
  exact free b o' (neC b o e hx) e1 (I.base.free b o e n hx)
 ·obtain ⟨o',e1⟩:=I.base.there b o e hx
  exact there b o' (neC b o e hx) e1
 ·obtain ⟨m1,e1⟩:=I.base.tbls b ps e
  obtain ⟨m2,e2⟩:=tbls b _ e1
  exact ⟨m1++m2,by rw[e2,Array.append_assoc]⟩
 ·obtain ⟨m,hn,hl⟩:=I.loc
  refine ⟨m,ns m hn,λi x v e1 e2 e3=>?_⟩
  obtain ⟨u,r,l⟩:=hl i x v e1 e2 e3
  refine ⟨u,r,?_⟩
  rcases l with l | ⟨k,c,e,z⟩
  ·exact .inl l
  ·exact .inr ⟨k,c,e,cellK x c e _ z⟩
 ·obtain ⟨v,z⟩:=I.cell x c e
  exact ⟨v,cellK x c e v z⟩
 ·obtain ⟨m,⟨o,_,_,ho,_⟩,_⟩:=I.loc
  exact free _ o (λz=>(hch _ z).2.1 rfl) ho I.free
 ·obtain ⟨v,o,ho,hd⟩:=I.cell x c e
  exact free c o (λz=>(hch c z).2.2.1 x c e rfl) ho (I.freeC x c e)
 ·obtain ⟨e,n,ne,nf,d⟩:=I.pin p hp
  have nch:p.1∉ch:=λz=>(hch p.1 z).2.2.2 p hp rfl
  exact ⟨keep p.1 p.2 ne nf nch e n,free p.1 p.2 nch e n,ne,nf,d⟩
theorem Inv.un{t':Nat}(I:Inv X pins σ H s)(u:Un X.fs [] H H' s.heap h')(hok:Xg X.prog X.w H' h'):Inv X pins σ H' { s with heap:=h',toks:=t' }:=by
 obtain ⟨m,⟨o,es,ep,ho,r⟩,_⟩:=id I.loc
 obtain ⟨sl,hL⟩:=u.any ho I.free (by simp)
 exact I.step (g':=s.gens) (d':=s.drawn) (ch:=[]) (λ_ z=>nomatch z) (λb o _ hb _ e n=>u.keep b o e n hb (by simp)) (λb o _ hb _ e n=>u.slot b o e n hb (by simp)) (λb o _ e n=>u.free b o e n (by simp)) (λb o _ e=>u.there b o e (by simp)) u.tups u.frzs u.tbls (λm' hm=>by
  obtain ⟨o',es',ep',ho',r'⟩:=hm
  rw[ho] at ho'; cases ho'
  exact ⟨_,es',ep',hL,r'⟩) hok I.bare
theorem Inv.call{g':Array GenState}{t':Nat}{d':Drawn}{ch:List Addr}(I:Inv X pins σ H s)(u:Un (Ot X.stack) ch H H' s.heap h')(hok:Xg X.prog X.w H' h')(hg:Py g')(hch:∀b∈ch,(b∈X.ex\/X.s₀.heap.objs.size<=b)/\b≠X.env.locals/\(∀x c,X.env.cells.lookup x=some c->c≠b)/\∀p∈X.pn++pins,p.1≠b):Inv X pins σ H' { s with heap:=h',gens:=g',drawn:=d',toks:=t' }:=by
 obtain ⟨m,⟨o,es,ep,ho,r⟩,_⟩:=id I.loc
 obtain ⟨sl,hL⟩:=u.any ho I.free λz=>(hch _ z).2.1 rfl
 exact I.step (ch:=ch) hch (λb o hL hb hc e n=>u.keep b o e n (λz=>(Ap.mp (I.stkSub b z)).elim hL hb) hc) (λb o _ _ hc e n=>u.any e n hc) (λb o hc e n=>u.free b o e n hc) (λb o hc e=>u.there b o e hc) u.tups u.frzs u.tbls (λm' hm=>by
  obtain ⟨o',es',ep',ho',r'⟩:=hm
  rw[ho] at ho'; cases ho'
  exact ⟨_,es',ep',hL,r'⟩) hok hg
theorem Inv.turned{t':Nat}{it:Addr}(I:Inv X pins σ H s)(k:∀b o,b≠it->s.heap.get? b=some o->h'.get? b=some o)(hn:H it=none)(hL:it≠X.env.locals)(h1:it∈X.ex\/X.s₀.heap.objs.size<=it)(h2:∀x c,X.env.cells.lookup x=some c->c≠it)(h3:∀p∈X.pn++pins,p.1≠it):Inv X pins σ H { s with heap:=h',toks:=t' }:=by
 have nit:∀b u,H b=some u->b≠it:=λb u e z=>by rw[z,hn] at e; cases e
 refine I.step (g':=s.gens) (d':=s.drawn) (ch:=[it]) (λb hb=>?_) (λb o _ _ hc e _=>k b o (λz=>hc (by simp [z])) e) (λb o _ _ hc e _=>⟨o.slots,k b o (λz=>hc (by simp [z])) e⟩) (λ_ _ _ _ n=>n)
  (λb o hc e=>⟨o,k b o (λz=>hc (by simp [z])) e⟩) (λ_ _ e=>e) (λ_ _ _ e=>e) (λb ps e=>⟨#[],by rw[e]; simp⟩) (λm hm=>?_) (λb u e=>?_) I.bare
 ·have e:b=it:=by simpa using hb
  subst e
  exact ⟨h1,hL,h2,h3⟩
 ·obtain ⟨o,es,ep,ho,r⟩:=hm
  exact ⟨o,es,ep,k _ o (Kl hL) ho,r⟩
 ·refine (I.hok b u e).stay (λc v hc q=>k c v ?_ q) (λ_ q=>q) λ_ _ q=>q
  rcases hc with z | z
  ·rw[z]; exact nit b u e
  ·exact nit c _ z
theorem Inv.tok(I:Inv X pins σ H s)(t:Nat):Inv X pins σ H { s with toks:=t }:=I.un (h':=s.heap) (t':=t) Un.refl I.hok
theorem Inv.kept{t':Nat}(I:Inv X pins σ H s)(k:∀b u,s.heap.get? b=some u->h'.get? b=some u):Inv X pins σ H { s with heap:=h',toks:=t' }:=I.un (Un.kept k) (I.hok.kept k)
theorem Inv.laid{a:Addr}{o:HO}{t':Nat}(I:Inv X pins σ H s)(k:∀b u,s.heap.get? b=some u->h'.get? b=some u)(hp:s.heap.objs.size<=a)(new:Io X.prog X.w (upd H a o) h' a o):Inv X pins σ (upd H a o) { s with heap:=h',toks:=t' }:=I.un (Un.laid k hp (I.hok.fresh hp)) (I.hok.laid k hp new)
theorem Inv.write{x e:Addr}{o:HO}{t':Nat}(I:Inv X pins σ H s)(mu:FF (H x))(he:e=x\/H e=some (.own x))(k:∀b u,b≠e->s.heap.get? b=some u->h'.get? b=some u)(heo:∃u,h'.get? e=some u)(new:Io X.prog X.w (upd H x o) h' x o):Inv X pins σ (upd H x o) { s with heap:=h',toks:=t' }:=I.un (Un.write mu he k heo) (I.hok.write mu he k heo new)
theorem Inv.pins_of{pins':List (Addr×Obj)}(I:Inv X pins σ H s)(h:∀p∈pins',s.heap.get? p.1=some p.2/\H p.1=none/\p.1≠X.env.locals/\p.1∉X.fs/\∀v,p.2.data≠.cell v):Inv X pins' σ H s :=
 ⟨I.ok,I.os,I.bare,I.base,I.loc,I.cell,I.free,I.freeC,λp hp=>(Aw.mp hp).elim (λz=>I.pin p (An _ z)) (h p),I.hok,I.len⟩
theorem cG{N:List Str}(hN:N.Nodup){i j:Nat}{x:Str}(a:N[i]? = some x)(b:N[j]? = some x):i=j:=by
 obtain ⟨h1,e1⟩:=Av.mp a
 obtain ⟨h2,e2⟩:=Av.mp b
 exact (List.getElem_inj hN).mp (e1.trans e2.symm)
theorem sQ{M:Model}{A:Cr}{E:Value->Ah->Prop}{i:Nat}{x:Str}{v:V}{u:Value}{Q:Unit->Ah->Prop}(I:Inv X pins σ H s)(hN:X.N.Nodup)(hi:X.N[i]? = some x)(hx:Loc X.env.scope x)(r:RelV v u)(h:∀s',Inv X pins (σ.set i (some v)) H s'->(∃a,Fj a s.heap s'.heap/\(a=X.env.locals\/X.env.cells.lookup x=some a))->Q () s')(hf:X.fn x=true\/X.env.scope.names.lookup x=some .local:=by first | exact .inl rfl | exact .inr rfl | assumption):wpAny M A (storeName X.env x u) Q E s:=by
 obtain ⟨m,hn,hl⟩:=id I.loc
 have hcls:(X.env.scope.kind == .class || (X.env.scope.kind == .module && X.env.locals != X.env.globals))=false:=by rw[I.ok.kind]; rfl
 have hiσ:i<σ.length:=by rw[I.len]; exact (Av.mp hi).1
 have cne:=I.cne
 have tracked:∀{a:Addr} {h':Heap},(∃o,s.heap.get? a=some o/\H a=none)->Fj a s.heap h'->Xg X.prog X.w H h':=λ{a h'} ha hs b ob e=>by
  obtain ⟨_,_,hfree⟩:=ha
  refine (I.hok b ob e).stay (λc w' hc q=>(hs.2 c ?_).trans q) (λ_ q=>q) λ_ _ q=>q
  rintro rfl
  rcases hc with rfl | hc
  ·rw[hfree] at e; cases e
  ·rw[hfree] at hc; cases hc
 rcases hx with hk | hk
 ·refine wpAny_storeName_local hk hn (λh' hn' hs=>?_) hcls
  obtain ⟨oL,_,_,hoL,_⟩:=id hn
  refine h _ ⟨I.ok,I.os,I.bare,⟨λb o e n hb hx=>?_,λb o e n hb hx=>?_,I.base.free,λb o e hx=>?_,I.base.tups,I.base.frzs,I.base.tbls⟩,⟨_,hn',λj y v' e1 e2 e3=>?_⟩,λy c e=>?_,I.free,I.freeC,λp hp=>?_,tracked ⟨oL,hoL,I.free⟩ hs,by simpa using I.len⟩ ⟨_,hs,.inl rfl⟩
  ·exact (hs.2 b (Ct (By (Az e) I.ok.above))).trans (I.base.keep b o e n hb hx)
  ·obtain ⟨sl,e1⟩:=I.base.slot b o e n hb hx
   exact ⟨sl,(hs.2 b (Ct (By (Az e) I.ok.above))).trans e1⟩
  ·obtain ⟨o',e1⟩:=I.base.there b o e hx
   exact ⟨o',(hs.2 b (Ct (By (Az e) I.ok.above))).trans e1⟩
  ·by_cases hj:j=i
   ·subst hj
    rw[hi] at e1; cases e1
    rw[Lc hiσ] at e2
    cases e2
    exact ⟨u,r,.inl ⟨hk,by simp⟩⟩
   ·rw[Mt (Kl hj)] at e2
    obtain ⟨u',r',q⟩:=hl j y v' e1 e2 e3
    refine ⟨u',r',?_⟩
    rcases q with ⟨k,e⟩ | ⟨k,c,e,z⟩
    ·refine .inl ⟨k,?_⟩
     have : y≠x:=λe=>hj (cG hN e1 (e▸hi))
     simp [this,e]
    ·exact .inr ⟨k,c,e,z.sameBut hs (cne y c e)⟩
  ·obtain ⟨w',z⟩:=I.cell y c e
   exact ⟨w',z.sameBut hs (cne y c e)⟩
  ·obtain ⟨e,n,ne,nf,d⟩:=I.pin p hp
   exact ⟨(hs.2 p.1 ne).trans e,n,ne,nf,d⟩
 ·have hfn:X.fn x=true:=by
   rcases hf with z | z
   ·exact z
   ·rw[z] at hk; cases hk
  obtain ⟨c,hc⟩:=I.ok.has x (.inl hk)
  obtain ⟨w',z⟩:=I.cell x c hc
  refine wpAny_storeName_cell I.ok.kind hk hc z (λh' hc' hs=>?_)
  obtain ⟨oc,hoc,hocd⟩:=id z
  refine h { s with heap:=h' } ⟨I.ok,I.os,I.bare,⟨λb o e n hb hx=>?_,λb o e n hb hx=>?_,I.base.free,λb o e hx=>?_,I.base.tups,I.base.frzs,I.base.tbls⟩,⟨m,hn.sameBut hs (Kl (cne x c hc)),λj y v' e1 e2 e3=>?_⟩,λy c' e=>?_,I.free,I.freeC,λp hp=>?_,tracked ⟨oc,hoc,I.freeC x c hc⟩ hs,by simpa using I.len⟩ ⟨c,hs,.inr hc⟩
  ·exact (hs.2 b (Ct (By (Az e) (I.ok.cab x c hfn hc)))).trans (I.base.keep b o e n hb hx)
  ·obtain ⟨sl,e1⟩:=I.base.slot b o e n hb hx
   exact ⟨sl,(hs.2 b (Ct (By (Az e) (I.ok.cab x c hfn hc)))).trans e1⟩
  ·obtain ⟨o',e1⟩:=I.base.there b o e hx
   exact ⟨o',(hs.2 b (Ct (By (Az e) (I.ok.cab x c hfn hc)))).trans e1⟩
  ·by_cases hj:j=i
   ·subst hj
    rw[hi] at e1; cases e1
    rw[Lc hiσ] at e2
    cases e2
    exact ⟨u,r,.inr ⟨.inl hk,c,hc,hc'⟩⟩
   ·rw[Mt (Kl hj)] at e2
    obtain ⟨u',r',q⟩:=hl j y v' e1 e2 e3
    refine ⟨u',r',?_⟩
    rcases q with q | ⟨k,c',e,z'⟩
    ·exact .inl q
    ·refine .inr ⟨k,c',e,z'.sameBut hs ?_⟩
     rintro rfl
     exact hj (cG hN e1 (I.ok.inj _ _ _ e hc▸hi))
  ·by_cases hcc:c'=c
   ·subst hcc; exact ⟨_,hc'⟩
   ·obtain ⟨w2,z2⟩:=I.cell y c' e
    exact ⟨w2,z2.sameBut hs hcc⟩
  ·obtain ⟨e,n,ne,nf,d⟩:=I.pin p hp
   refine ⟨(hs.2 p.1 ?_).trans e,n,ne,nf,d⟩
   intro q
   rw[q,hoc] at e
   have q':oc=p.2:=Br e
   exact d w' (by rw[<- q']; exact hocd)
theorem Wb{M:Model}{A:Cr}{E:Value->Ah->Prop}{i:Nat}{x:Str}{v:V}{u:Value}{Q:Unit->Ah->Prop}(I:Inv X pins σ H s)(hN:X.N.Nodup)(hi:X.N[i]? = some x)(hx:Loc X.env.scope x)(r:RelV v u)(h:∀s',Inv X pins (σ.set i (some v)) H s'->Q () s')(hf:X.fn x=true\/X.env.scope.names.lookup x=some .local:=by first | exact .inl rfl | exact .inr rfl | assumption):wpAny M A (storeName X.env x u) Q E s :=
 sQ I hN hi hx r (λs' I' _=>h s' I') hf
theorem Inv.call'{s':Ah}{ch:List Addr}(I:Inv X pins σ H s)(ho:s'.os=s.os)(u:Un (Ot X.stack) ch H H' s.heap s'.heap)(hok:Xg X.prog X.w H' s'.heap)(hg:Py s'.gens)(hch:∀b∈ch,(b∈X.ex\/X.s₀.heap.objs.size<=b)/\b≠X.env.locals/\(∀x c,X.env.cells.lookup x=some c->c≠b)/\∀p∈X.pn++pins,p.1≠b):Inv X pins σ H' s':=by
 obtain ⟨h',g',d',t',o'⟩:=s'
 have e:o'=s.os:=ho
 subst e
 exact I.call (g':=g') (t':=t') (d':=d') u hok hg hch
end
abbrev XK:=Value->Option Addr->Hp->Prop
abbrev St:=List (Option V)
abbrev VK:=V->Hp->Prop
abbrev TE:=St->Hp->VK->Prop
abbrev TT:=St->Hp->(Bool->Hp->Prop)->Prop
abbrev TA:=St->Hp->(List V->Hp->Prop)->Prop
structure Ends where
 nx:St->Hp->Prop
 rt:VK
 bk:St->Hp->Prop:=λ_ _=>False
 ct:St->Hp->Prop:=λ_ _=>False
abbrev TS:=Ends->St->Hp->Prop
def EP(X:Cx)(pins:List (Addr×Obj))(σ:St)(Q:VK)(u:Value)(s':Ah):Prop:=∃v H',Inv X pins σ H' s'/\RelV v u/\Q v H'
def TP(X:Cx)(pins:List (Addr×Obj))(σ:St)(Q:Bool->Hp->Prop)(b:Bool)(s':Ah):Prop:=∃H',Inv X pins σ H' s'/\Q b H'
def AP(X:Cx)(pins:List (Addr×Obj))(σ:St)(Q:List V->Hp->Prop)(us:List Value)(s':Ah):Prop:=∃vs H',Inv X pins σ H' s'/\Fq vs us/\Q vs H'
def SP(X:Cx)(pins:List (Addr×Obj))(D:Ends)(f:Flow)(s':Ah):Prop :=
 match f with
 | .next=>∃σ' H',Inv X pins σ' H' s'/\D.nx σ' H'
 | .brk=>∃σ' H',Inv X pins σ' H' s'/\D.bk σ' H'
 | .cont=>∃σ' H',Inv X pins σ' H' s'/\D.ct σ' H'
 | .ret u=>∃v σ' H',Inv X pins σ' H' s'/\RelV v u/\D.rt v H'
def PE(X:Cx)(e:Expr)(t:TE):Prop :=
 ∀(pins:List (Addr×Obj)) (s:Ah) (σ:St) (H:Hp) (Q:VK),Inv X pins σ H s->t σ H Q->wpAny (model X.prog X.w) X.A (eval e X.env) (EP X pins σ Q) X.xe s
def PT(X:Cx)(e:Expr)(t:TT):Prop :=
 ∀(pins:List (Addr×Obj)) (s:Ah) (σ:St) (H:Hp) (Q:Bool->Hp->Prop),Inv X pins σ H s->t σ H Q->wpAny (model X.prog X.w) X.A (isTrue e X.env (eval e X.env)) (TP X pins σ Q) X.xe s
def PW(X:Cx)(e:Expr)(t:TT):Prop :=
 ∀(whole:Sem Value) (pins:List (Addr×Obj)) (s:Ah) (σ:St) (H:Hp) (Q:Bool->Hp->Prop),Inv X pins σ H s->t σ H Q->wpAny (model X.prog X.w) X.A (isTrue e X.env whole) (TP X pins σ Q) X.xe s
theorem PW.pt{X:Cx}{e:Expr}{t:TT}(h:PW X e t):PT X e t:=h _
def PA(X:Cx)(es:List Expr)(t:TA):Prop :=
 ∀(pos:Pos) (pins:List (Addr×Obj)) (s:Ah) (σ:St) (H:Hp) (Q:List V->Hp->Prop),Inv X pins σ H s->t σ H Q->wpAny (model X.prog X.w) X.A (spliced (Gn pos (Bf es X.env))) (AP X pins σ Q) X.xe s
def PS(X:Cx)(st:Stmt)(t:TS):Prop :=
 ∀(pins:List (Addr×Obj)) (s:Ah) (σ:St) (H:Hp) (D:Ends),Inv X pins σ H s->t D σ H->wpAny (model X.prog X.w) X.A (exec st X.env) (SP X pins D) X.xe s
def cM(X:Cx)(st:List Stmt)(t:TS):Prop :=
 ∀(pins:List (Addr×Obj)) (s:Ah) (σ:St) (H:Hp) (D:Ends),Inv X pins σ H s->t D σ H->wpAny (model X.prog X.w) X.A (execs st X.env) (SP X pins D) X.xe s
theorem Gh{α:Type}{t:Sem α}{Q Q':α->Ah->Prop}{M:Model}{A:Cr}{E:Value->Ah->Prop}{s:Ah}(h:wpAny M A t Q E s)(hQ:∀a s,Q a s->Q' a s):wpAny M A t Q' E s:=Dn h hQ λ_ _ x=>x
section
variable{X:Cx}
theorem JD{a b:Expr}{ta tb:TE}(ha:PE X a ta)(hb:PE X b tb){pins:List (Addr×Obj)}{s:Ah}{σ:St}{H:Hp}{R:V->V->Hp->Prop}(I:Inv X pins σ H s)(h:ta σ H λx H1=>tb σ H1 λy H2=>R x y H2){α:Type}{Q:α->Ah->Prop}{f:Value->Value->Sem α}(hf:∀v u s2 x y H2,Inv X pins σ H2 s2->RelV x v->RelV y u->R x y H2->wpAny (model X.prog X.w) X.A (f v u) Q X.xe s2):wpAny (model X.prog X.w) X.A (eval a X.env) (λv s₁=>wpAny (model X.prog X.w) X.A (eval b X.env) (λu s₂=>wpAny (model X.prog X.w) X.A (f v u) Q X.xe s₂) X.xe s₁) X.xe s:=by
 refine Gh (ha pins s σ H _ I h) λv s1 q0_ => ?_
 obtain ⟨x,H1,I1,r1,q1⟩ := q0_
 refine Gh (hb pins s1 σ H1 _ I1 q1) λu s2 q0_ => ?_
 obtain ⟨y,H2,I2,r2,q2⟩ := q0_
 exact hf v u s2 x y H2 I2 r1 r2 q2
def kF(i:Nat):TE:=λσ H Q=>∃v,σ[i]? = some (some v)/\Q v H
def tC(v:V):TE:=λ_ H Q=>Q v H
theorem yI{i:Nat}{x:Str}{pos:Pos}(hN:X.N[i]? = some x)(hv:FG X.env.scope x)(hd:(x == ("__debug__" : Str))=false:=by decide)(hcd:(x == ("__classdict__" : Str))=false:=by decide):PE X (.Name x pos) (kF i):=by
 intro pins s σ H Q I h
 obtain ⟨v,e,h⟩:=h
 obtain ⟨m,hn,hl⟩:=I.loc
 obtain ⟨u,r,l⟩:=hl i x v hN e hv
 have fin:EP X pins σ Q u s:=⟨v,H,I,r,h⟩
 rcases l with ⟨hk,hm⟩ | ⟨hk,c,hc,hcell⟩
 ·exact wpAny_Name (wpAny_loadName_local I.ok.kind hk hn hm fin) hd
 ·rcases hk with hk | hk
  ·exact wpAny_Name (wpAny_loadName_cell I.ok.kind hk hc hcell fin) hd
  ·exact wpAny_Name (wpAny_loadName_free I.ok.kind hk hc hcell fin hcd) hd
theorem Gc{i j pos}:PE X (.Constant (.int i) j pos) (tC (.int i)):=λ_ _ _ H _ I h=>wpAny_Constant_int ⟨.int i,H,I.tok _,⟨_,rfl⟩,h⟩
theorem DN{b j pos}:PE X (.Constant (.bool b) j pos) (tC (.bl b)):=λ_ _ _ H _ I h=>Constant_bool ⟨.bl b,H,I,rfl,h⟩
theorem aJ{j pos}:PE X (.Constant .none j pos) (tC .non):=λ_ _ _ H _ I h=>Constant_none ⟨.non,H,I,rfl,h⟩
theorem Xt{x j pos}:PE X (.Constant (.str x) j pos) (tC (.str x)):=λ_ _ _ H _ I h=>Calls.Constant_str ⟨.str x,H,I.tok _,⟨_,rfl⟩,h⟩
def Gl(X:Cx)(x:Str):Prop:=X.env.kindOf x=some .globalImplicit
theorem Sy{E:Value->Ah->Prop}{pins:List (Addr×Obj)}{s:Ah}{σ:St}{H:Hp}{x:Str}{u:Value}{pos:Pos}{Q:Value->Ah->Prop}(I:Inv X pins σ H s)(hg:Gl X x)(hm:X.mg x=some u)(h:Q u s)(hd:(x == ("__debug__" : Str))=false:=by decide):wpAny (model X.prog X.w) X.A (eval (.Name x pos) X.env) Q E s :=
 fN I.ok.kind hg (Calls.loadGlobal_global (by rw[I.ok.glob]; exact I.mod.glob.keeps I.bk) hm h) hd
theorem gG{E:Value->Ah->Prop}{pins:List (Addr×Obj)}{s:Ah}{σ:St}{H:Hp}{x:Str}{u:Value}{pos:Pos}{Q:Value->Ah->Prop}(I:Inv X pins σ H s)(hg:Gl X x)(hm:X.mg x=none)(hv:Hw x=some u)(h:Q u s)(hn:x ≠ "__name__" := by decide)(hd:(x == ("__debug__" : Str))=false:=by decide):wpAny (model X.prog X.w) X.A (eval (.Name x pos) X.env) Q E s:=by
 obtain ⟨mb,h1,h2⟩:=I.mod.blt
 exact fN I.ok.kind hg (Calls.loadGlobal_builtin (by rw[I.ok.glob]; exact I.mod.glob.keeps I.bk) hm (by rw[I.ok.blt]; exact h1.keeps I.bk) ((h2 x hn).trans hv) h) hd
theorem Js{x:Str}{v:V}{u:Value}{pos:Pos}(hg:Gl X x)(hm:X.mg x=some u)(r:RelV v u)(hd:(x == ("__debug__" : Str))=false:=by decide):PE X (.Name x pos) (tC v) :=
 λ_ _ _ H _ I h=>Sy I hg hm ⟨v,H,I,r,h⟩ hd
theorem qM{x:Str}{v:V}{u:Value}{pos:Pos}(hg:Gl X x)(hm:X.mg x=none)(hv:Hw x=some u)(r:RelV v u)(hn:x ≠ "__name__" := by decide)(hd:(x == ("__debug__" : Str))=false:=by decide):PE X (.Name x pos) (tC v) :=
 λ_ _ _ H _ I h=>gG I hg hm hv ⟨v,H,I,r,h⟩ hn hd
variable{a b:Expr}{ta tb:TE}{pos:Pos}
def PC(X:Cx)(op:CmpOp)(a b:Expr)(t:TE):Prop :=
 ∀(pins:List (Addr×Obj)) (s:Ah) (σ:St) (H:Hp) (Q:VK),Inv X pins σ H s->t σ H Q ->
  wpAny (model X.prog X.w) X.A (eval a X.env) (λv s₁=>wpAny (model X.prog X.w) X.A (eval b X.env) (λu s₂=>wpAny (model X.prog X.w) X.A (Ge op v u) (EP X pins σ Q) X.xe s₂) X.xe s₁) X.xe s
theorem vD(b:Expr){op:CmpOp}(h:op≠.In)(h2:op≠.NotIn):Fm op b=false:=by
 have e1:(op == CmpOp.In)=false:=by cases op <;> first | rfl | exact absurd rfl h
 have e2:(op == CmpOp.NotIn)=false:=by cases op <;> first | rfl | exact absurd rfl h2
 cases b <;> simp [Fm,e1,e2]
def tB(t:TE):TT:=λσ H Q=>t σ H λx H1=>∃c,x=.bl c/\Q c H1
theorem GL{op:CmpOp}{t:TE}(h:PC X op a b t)(h1:Fm op b=false:=by first | exact vD _ (by decide) (by decide) | rfl):PT X (.Compare a [op] [b] pos) (tB t):=by
 intro pins s σ H Q I hw
 refine wpAny_isTrue_Compare1 (Gh (h pins s σ H _ I hw) λv s1 h1=>Gh h1 λu s2 h2=>Gh h2 λc s3 ⟨x,H1,I1,r1,q1⟩=>?_) h1
 obtain ⟨d,rfl,q⟩:=q1
 cases r1
 exact Ht ⟨H1,I1,q⟩
theorem bZ{e:Expr}{t:TE}(h:PE X e t)(he:∀whole,isTrue e X.env whole=(do let v <- whole; standAt e.pos; Pv [v] (truthy v)):=by intro _; rfl):PT X e (tB t):=by
 intro pins s σ H Q I hw
 refine isTrue_plain (Gh (h pins s σ H _ I hw) λv s1 ⟨x,H1,I1,r1,q1⟩=>?_) (he _)
 obtain ⟨d,rfl,q⟩:=q1
 cases r1
 exact Ht ⟨H1,I1,q⟩
variable{tA tB':TT}{Ih:List Expr}
def GA(t u:TT):TT:=λσ H Q=>t σ H λc H1=>if c=true then u σ H1 Q else Q false H1
def JB(t u:TT):TT:=λσ H Q=>t σ H λc H1=>if c=true then Q true H1 else u σ H1 Q
def HR(t:TT):TT:=λσ H Q=>t σ H λc H1=>Q (!c) H1
theorem B8(ha:PT X a tA):PW X (.BoolOp .And [a] pos) tA:=by
 intro wh pins s σ H Q I h
 refine isTrue_and (Gh (ha pins s σ H Q I h) λc s1 e=>?_)
 cases c with
 | true=>exact isTrue_and_nil e
 | false=>exact e
theorem yF(ha:PT X a tA):PW X (.BoolOp .Or [a] pos) tA:=by
 intro wh pins s σ H Q I h
 refine isTrue_or (Gh (ha pins s σ H Q I h) λc s1 e=>?_)
 cases c with
 | false=>exact isTrue_or_nil e
 | true=>exact e
theorem Z4(ha:PT X a tA)(hb:PW X (.BoolOp .And (b::Ih) pos) tB'):PW X (.BoolOp .And (a::b::Ih) pos) (GA tA tB'):=by
 intro wh pins s σ H Q I h
 refine isTrue_and (Gh (ha pins s σ H _ I h) λc s1 q0_ => ?_)
 obtain ⟨H1,I1,q1⟩ := q0_
 cases c with
 | true=>exact hb wh pins s1 σ H1 Q I1 q1
 | false=>exact ⟨H1,I1,q1⟩
theorem S6(ha:PT X a tA)(hb:PW X (.BoolOp .Or (b::Ih) pos) tB'):PW X (.BoolOp .Or (a::b::Ih) pos) (JB tA tB'):=by
 intro wh pins s σ H Q I h
 refine isTrue_or (Gh (ha pins s σ H _ I h) λc s1 q0_ => ?_)
 obtain ⟨H1,I1,q1⟩ := q0_
 cases c with
 | true=>exact ⟨H1,I1,q1⟩
 | false=>exact hb wh pins s1 σ H1 Q I1 q1
theorem oZ(ha:PT X a tA):PT X (.UnaryOp .Not a pos) (HR tA):=by
 intro pins s σ H Q I h
 exact isTrue_not (ha pins s σ H (λc H1=>Q (!c) H1) I h)
def BM(ta tb:TE):TE:=λσ H Q=>ta σ H λx H1=>∃c,x=.bl c/\if c=true then tb σ H1 Q else Q (.bl false) H1
def BX(ta:TE):TE:=λσ H Q=>ta σ H λx H1=>∃c,x=.bl c/\Q (.bl (!c)) H1
theorem Z8{op}{t:TE}(h:PE X a t):PE X (.BoolOp op [a] pos) t:=λpins s σ H Q I hw=>BoolOp_one (h pins s σ H Q I hw)
theorem W2(ha:PE X a ta)(hb:PE X (.BoolOp .And (b::Ih) pos) tb):PE X (.BoolOp .And (a::b::Ih) pos) (BM ta tb):=by
 intro pins s σ H Q I h
 refine BoolOp_and (Gh (ha pins s σ H _ I h) λv s1 q0_ => ?_)
 obtain ⟨x,H1,I1,r1,q1⟩ := q0_
 obtain ⟨c,rfl,q1⟩:=q1
 cases r1
 refine Ht ?_
 cases c with
 | true=>exact hb pins s1 σ H1 Q I1 q1
 | false=>exact ⟨.bl false,H1,I1,rfl,q1⟩
theorem Y9(ha:PE X a ta):PE X (.UnaryOp .Not a pos) (BX ta):=by
 intro pins s σ H Q I h
 refine UnaryOp_ (Gh (ha pins s σ H _ I h) λv s1 q0_ => ?_)
 obtain ⟨x,H1,I1,r1,q1⟩ := q0_
 obtain ⟨c,rfl,q1⟩:=q1
 cases r1
 exact not_of (Ht ⟨.bl (!c),H1,I1,rfl,q1⟩)
def IY(t:TT)(ta tb:TE):TE:=λσ H Q=>t σ H λc H1=>if c=true then ta σ H1 Q else tb σ H1 Q
theorem zF{c:Expr}(hc:PT X c tA)(ha:PE X a ta)(hb:PE X b tb):PE X (.IfExp c a b pos) (IY tA ta tb):=by
 intro pins s σ H Q I h
 refine wpAny_IfExp (Gh (hc pins s σ H _ I h) λd s1 q0_ => ?_)
 obtain ⟨H1,I1,q1⟩ := q0_
 cases d with
 | true=>exact ha pins s1 σ H1 Q I1 q1
 | false=>exact hb pins s1 σ H1 Q I1 q1
end
def Za(K:PySem.W.Frag)(H:Hp)(a:Addr)(xs:List V):Prop :=
 Rd H a (.lst xs) \/
  ∃(o:Obj) (its:Array Value) (n:Nat),K.lookup a=some o/\o.cls=.type "list" /\ o.dict=none/\o.data=.seq its n/\its.size<=Ax/\Fq xs its.toList
def Vi(K:PySem.W.Frag)(H:Hp)(a:Addr)(xs:List V):Prop :=
 Rd H a (.tup xs) \/
  ∃(o:Obj) (its:Array Value) (n:Nat),K.lookup a=some o/\o.cls=.type "tuple" /\ o.data=.seq its n/\its.size<=Ax/\Fq xs its.toList
def HI:Value->Option V
 | .none=>some .non
 | .bool b=>some (.bl b)
 | .int i _=>some (.int i)
 | .str x _=>some (.str x)
 | .bytes b _=>some (.byt b)
 | .float b _=>some (.flt b)
 | .ref a=>some (.ref a)
 | .type n=>some (.ty n)
 | _=>none
theorem RelV.abs{x:V}{u:Value}(r:RelV x u):HI u=some x:=by
 cases x with
 | non=>cases r; rfl
 | bl _=>cases r; rfl
 | int _=>obtain ⟨t,rfl⟩:=r; rfl
 | str _=>obtain ⟨t,rfl⟩:=r; rfl
 | byt _=>obtain ⟨t,rfl⟩:=r; rfl
 | flt _=>obtain ⟨t,rfl⟩:=r; rfl
 | ref _=>cases r; rfl
 | ty _=>cases r; rfl
theorem RelV.inj{x y:V}{u:Value}(r:RelV x u)(q:RelV y u):x=y:=Br (r.abs.symm.trans q.abs)
theorem Fq.inj:∀{xs ys:List V} {us:List Value},Fq xs us->Fq ys us->xs=ys
 | _,_,_,.nil,.nil=>rfl
 | _,_,_,.cons r t,.cons r' t'=>by rw[r.inj r',Fq.inj t t']
section
variable{X:Cx}{pins:List (Addr×Obj)}{σ:St}{H:Hp}{s:Ah}{a:Addr}{xs ys:List V}
theorem Za.of{K:PySem.W.Frag}(h:H a=some (.lst xs)):Za K H a xs:=.inl (.inl h)
theorem Vi.of{K:PySem.W.Frag}(h:H a=some (.tup xs)):Vi K H a xs:=.inl (.inl h)
theorem Inv.list(I:Inv X pins σ H s)(h:Za X.K H a xs):∃its:List Value,Fq xs its/\PlainL s.heap a its.toArray/\xs.length<=Ax:=by
 rcases h with h | ⟨o,its,n,hk,hc,hd,hs,hz,r⟩
 ·obtain ⟨z,its,n,r,e⟩:=h.ok I.hok
  exact ⟨its,r,⟨_,n,e,rfl,rfl,rfl⟩,z⟩
 ·refine ⟨its.toList,r,⟨o,n,I.kIn a o hk,hc,hd,by simpa using hs⟩,?_⟩
  have e:=r.length
  simp only[Ag] at e
  omega
theorem Inv.tuple(I:Inv X pins σ H s)(h:Vi X.K H a xs):∃its:List Value,Fq xs its/\IsTup s.heap a its.toArray/\xs.length<=Ax:=by
 rcases h with h | ⟨o,its,n,hk,hc,hs,hz,r⟩
 ·obtain ⟨z,its,r,p⟩:=h.ok I.hok
  exact ⟨its,r,p,z⟩
 ·refine ⟨its.toList,r,⟨o,I.kIn a o hk,hc,n,by simpa using hs⟩,?_⟩
  have e:=r.length
  simp only[Ag] at e
  omega
theorem Inv.list_inj(I:Inv X pins σ H s)(h:Za X.K H a xs)(h':Za X.K H a ys):xs=ys:=by
 obtain ⟨its,r,⟨o,n,e,_,_,d⟩,_⟩:=I.list h
 obtain ⟨its',r',⟨o',n',e',_,_,d'⟩,_⟩:=I.list h'
 rw[e] at e'; cases e'
 rw[d] at d'
 injection d' with d1 _
 have : its=its':=by simpa using congrArg Array.toList d1
 subst this
 exact r.inj r'
theorem Inv.tuple_inj(I:Inv X pins σ H s)(h:Vi X.K H a xs)(h':Vi X.K H a ys):xs=ys:=by
 obtain ⟨its,r,⟨o,e,_,n,d⟩,_⟩:=I.tuple h
 obtain ⟨its',r',⟨o',e',_,n',d'⟩,_⟩:=I.tuple h'
 rw[e] at e'; cases e'
 rw[d] at d'
 injection d' with d1 _
 have : its=its':=by simpa using congrArg Array.toList d1
 subst this
 exact r.inj r'
end
abbrev Cx.wish(X:Cx)(E:Value->Ah->Prop):Cx:={ X with xe:=E }
abbrev Cx.nox(X:Cx):Cx:=X.wish λ_ _=>False
theorem Cx.Ok.wish{X:Cx}(ok:X.Ok)(E:Value->Ah->Prop):(X.wish E).Ok :=
 ⟨ok.mod,ok.kind,ok.glob,ok.blt,ok.above,ok.inj,ok.has,ok.cab,ok.hd,ok.frames,ok.stk,ok.exf,ok.bs,ok.bsz,ok.noex,ok.exfs,ok.funs,ok.frf,ok.tab⟩
theorem Cx.Ok.unwish{X:Cx}{E:Value->Ah->Prop}(ok:(X.wish E).Ok):X.Ok :=
 ⟨ok.mod,ok.kind,ok.glob,ok.blt,ok.above,ok.inj,ok.has,ok.cab,ok.hd,ok.frames,ok.stk,ok.exf,ok.bs,ok.bsz,ok.noex,ok.exfs,ok.funs,ok.frf,ok.tab⟩
section
variable{X:Cx}{pins:List (Addr×Obj)}{σ:St}{H:Hp}{s:Ah}{E:Value->Ah->Prop}
theorem Inv.wish(I:Inv X pins σ H s)(E:Value->Ah->Prop):Inv (X.wish E) pins σ H s:=⟨I.ok.wish E,I.os,I.bare,I.base,I.loc,I.cell,I.free,I.freeC,I.pin,I.hok,I.len⟩
theorem Inv.unwish(I:Inv (X.wish E) pins σ H s):Inv X pins σ H s:=⟨I.ok.unwish,I.os,I.bare,I.base,I.loc,I.cell,I.free,I.freeC,I.pin,I.hok,I.len⟩
theorem SP.unwish{D:Ends}{f:Flow}{s':Ah}(h:SP (X.wish E) pins D f s'):SP X pins D f s':=by
 cases f with
 | next=>obtain ⟨σ',H',I,q⟩:=h; exact ⟨σ',H',I.unwish,q⟩
 | brk=>obtain ⟨σ',H',I,q⟩:=h; exact ⟨σ',H',I.unwish,q⟩
 | cont=>obtain ⟨σ',H',I,q⟩:=h; exact ⟨σ',H',I.unwish,q⟩
 | ret u=>obtain ⟨v,σ',H',I,r,q⟩:=h; exact ⟨v,σ',H',I.unwish,r,q⟩
theorem cM.nox{st:List Stmt}{t:TS}(h:cM X.nox st t):cM X st t:=λpins s σ H D I hw =>
 Dn (h pins s σ H D (I.wish _) hw) (λ_ _ q=>q.unwish) λ_ _ z=>Fv z
end
section
variable{X:Cx}{st:Stmt}{Ih:List Stmt}{t u:TS}{e:Expr}{te:TE}{pos:Pos}
def DU:TS:=λD σ H=>D.nx σ H
def FX(t u:TS):TS:=λD σ H=>t { D with nx:=u D } σ H
theorem Vv:cM X [] DU:=λ_ _ σ H _ I h=>Ov ⟨σ,H,I,h⟩
theorem Gv(h1:PS X st t)(h2:cM X Ih u):cM X (st::Ih) (FX t u):=by
 intro pins s σ H D I h
 refine jJ (Gh (h1 pins s σ H { D with nx:=u D } I h) λf s1 q=>?_)
 cases f with
 | next =>
  obtain ⟨σ',H',I',q⟩:=q
  exact h2 pins s1 σ' H' D I' q
 | ret v=>exact q
 | brk=>exact q
 | cont=>exact q
theorem Lj(h1:PS X st t):cM X [st] t:=by
 intro pins s σ H D I h
 refine jJ (Gh (h1 pins s σ H D I h) λf s1 q=>?_)
 cases f with
 | next=>exact Ov q
 | ret v=>exact q
 | brk=>exact q
 | cont=>exact q
theorem Inv.quiet{pins:List (Addr×Obj)}{σ:St}{H:Hp}{s:Ah}(I:Inv X pins σ H s):interactive X.env=false:=by simp [interactive,I.ok.kind]
def DZ(te:TE):TS:=λD σ H=>te σ H λ_ H1=>D.nx σ H1
theorem rR(he:PE X e te)(hs:Ir e none pos.line X.env=pure false:=by rfl):PS X (.Expr e pos) (DZ te):=by
 intro pins s σ H D I h
 exact wpAny_Expr_any (Gh (he pins s σ H _ I h) λv s1 ⟨x,H1,I1,r1,q1⟩=>⟨σ,H1,I1,q1⟩) I.quiet hs
def HL(te:TE):TS:=λD σ H=>te σ H D.rt
theorem Qf(he:PE X e te):PS X (.Return (some e) pos) (HL te):=by
 intro pins s σ H D I h
 exact wpAny_Return_some (Gh (he pins s σ H _ I h) λv s1 ⟨x,H1,I1,r1,q1⟩=>⟨x,σ,H1,I1,r1,q1⟩)
def FU(c:TT)(t u:TS):TS:=λD σ H=>c σ H λb H1=>if b=true then t D σ H1 else u D σ H1
theorem eL{c:Expr}{a b:List Stmt}{tc:TT}(hc:PT X c tc)(ha:cM X a t)(hb:cM X b u):PS X (.If c a b pos) (FU tc t u):=by
 intro pins s σ H D I h
 refine wpAny_If (Gh (hc pins s σ H _ I h) λd s1 q0_ => ?_)
 obtain ⟨H1,I1,q1⟩ := q0_
 cases d with
 | true=>exact ha pins s1 σ H1 D I1 q1
 | false=>exact hb pins s1 σ H1 D I1 q1
end
abbrev TG:=V->St->Hp->(St->Hp->Prop)->Prop
abbrev E9:=List V->St->Hp->(St->Hp->Prop)->Prop
def PG(X:Cx)(target:Expr)(t:TG):Prop :=
 ∀(pins:List (Addr×Obj)) (s:Ah) (σ:St) (H:Hp) (v:V) (u:Value) (Q:St->Hp->Prop),Inv X pins σ H s->RelV v u->t v σ H Q ->
  wpAny (model X.prog X.w) X.A (Qz target X.env u) (λ_ s'=>∃σ' H',Inv X pins σ' H' s'/\Q σ' H') X.xe s
def AB(X:Cx)(ts:List Expr)(t:E9):Prop :=
 ∀(pins:List (Addr×Obj)) (s:Ah) (σ:St) (H:Hp) (vs:List V) (us:List Value) (Q:St->Hp->Prop),Inv X pins σ H s->Fq vs us->t vs σ H Q ->
  wpAny (model X.prog X.w) X.A (assignInOrder ((Ic ts X.env).map (·.2)) us) (λ_ s'=>∃σ' H',Inv X pins σ' H' s'/\Q σ' H') X.xe s
abbrev Y0:=V->V->V->Hp->(Hp->Prop)->Prop
def EK(X:Cx)(t:Y0):Prop :=
 ∀(pins:List (Addr×Obj)) (s:Ah) (σ:St) (H:Hp) (o i v:V) (ov iv u:Value) (Q:Hp->Prop),Inv X pins σ H s->RelV o ov->RelV i iv->RelV v u->t o i v H Q ->
  wpAny (model X.prog X.w) X.A (setItem ov iv u) (λ_ s'=>∃H',Inv X pins σ H' s'/\Q H') X.xe s
section
variable{X:Cx}{pos:Pos}
def Yl(i:Nat):TG:=λv σ H Q=>Q (σ.set i (some v)) H
theorem Qn{i:Nat}{x:Str}(hN:X.N.Nodup)(hi:X.N[i]? = some x)(hx:Loc X.env.scope x)(hf:X.fn x=true\/X.env.scope.names.lookup x=some .local:=by first | exact .inl rfl | exact .inr rfl | assumption):PG X (.Name x pos) (Yl i):=by
 intro pins s σ H v u Q I r h
 exact wpAny_assign_Name (Wb I hN hi hx r (λs' I'=>⟨_,H,I',h⟩) hf)
def EI:E9:=λvs σ H Q=>vs=[]/\Q σ H
def zG(t:TG)(u:E9):E9:=λvs σ H Q=>∃v r,vs=v::r/\t v σ H λσ' H'=>u r σ' H' Q
theorem qP:AB X [] EI:=by
 intro pins s σ H vs us Q I r h
 obtain ⟨e,h⟩:=h
 subst e
 cases r
 exact assignInOrder_nil ⟨σ,H,I,h⟩
theorem cA{e:Expr}{es:List Expr}{t:TG}{u:E9}(h1:PG X e t)(h2:AB X es u)(hs:(Ic (e::es) X.env).map (·.2)=Qz e X.env::(Ic es X.env).map (·.2):=by rfl):AB X (e::es) (zG t u):=by
 intro pins s σ H vs us Q I r h
 obtain ⟨v,vr,e1,h⟩:=h
 subst e1
 cases r with
 | cons r rr =>
  rw[hs]
  refine assignInOrder_cons (Gh (h1 pins s σ H _ _ _ I r h) λ_ s1 q0_ => ?_)
  obtain ⟨σ1,H1,I1,q1⟩ := q0_
  exact h2 pins s1 σ1 H1 _ _ Q I1 rr q1
def CD(K:PySem.W.Frag)(n:Nat)(t:E9):TG:=λv σ H Q=>∃a xs,v=.ref a/\Vi K H a xs/\xs.length=n/\t xs σ H Q
theorem zE{es:List Expr}{k:Nat}{t:E9}{n:Nat}(hc:X.calm=true)(h:AB X es t)(hn:(Ic es X.env).length=n:=by rfl)(hst:(Ic es X.env).findIdx? (·.1)=none:=by rfl):PG X (.Tuple es k pos) (CD X.K n t):=by
 intro pins s σ H v u Q I r hw
 obtain ⟨a,xs,e1,hq,hl,hw⟩:=hw
 subst e1
 cases r
 obtain ⟨its,rv,ht,hz⟩:=I.tuple hq
 refine assign_Tuple_tuple (I.ok.hd hc) ht (by simp [hn,<- hl,rv.length]) hst λh' hx=>?_
 have I1:Inv X pins σ H { s with heap:=h' }:=I.kept (t':=s.toks) λb o e=>hx b o (Ct (Az e)) e
 exact h pins _ σ H xs _ Q I1 (by simpa using rv) hw
def GH(to ti:TE)(t:Y0):TG:=λv σ H Q=>to σ H λo H1=>ti σ H1 λi H2=>t o i v H2 λH3=>Q σ H3
theorem oI{o i:Expr}{to ti:TE}{t:Y0}(ho:PE X o to)(hi:PE X i ti)(hs:EK X t)
  (ha:∀v,Qz (.Subscript o i pos) X.env v=(do
   let ov <- Pv [v] (eval o X.env)
   let iv <- Pv [v,ov] (eval i X.env)
   standAt pos
   Pv [v,ov,iv] (setItem ov iv v)
   release [v,ov,iv] []):=by intro _; rfl):PG X (.Subscript o i pos) (GH to ti t):=by
 intro pins s σ H v u Q I r h
 rw[ha]
 refine Ac (Dq (Gh (ho pins s σ H _ I h) λov s1 q0_ => ?_))
 obtain ⟨x,H1,I1,r1,q1⟩ := q0_
 refine Ac (Dq (Gh (hi pins s1 σ H1 _ I1 q1) λiv s2 q0_ => ?_))
 obtain ⟨y,H2,I2,r2,q2⟩ := q0_
 refine Ac (To (Ac (Dq (Gh (hs pins s2 σ H2 x y v ov iv u _ I2 r1 r2 r q2) λ_ s3 q0_ => ?_))))
 obtain ⟨H3,I3,q3⟩ := q0_
 exact wpAny_release ⟨σ,H3,I3,q3⟩
def K9(te:TE)(g:TG):TS:=λD σ H=>te σ H λx H1=>g x σ H1 D.nx
theorem fT{tg e:Expr}{te:TE}{g:TG}(he:PE X e te)(hg:PG X tg g)(hs:swapsWithSole [tg] e pos.line X.env=pure false:=by rfl)(hw:swappedStores [tg] e X.env=pure none:=by rfl)(h1:(Ic [tg] X.env).map (·.2)=[Qz tg X.env]:=by rfl):PS X (.Assign [tg] e pos) (K9 te g):=by
 intro pins s σ H D I h
 refine wpAny_Assign_stores (Gh (he pins s σ H _ I h) λv s1 ⟨x,H1,I1,r1,q1⟩=>?_) hs hw
 rw[h1]
 exact Gh (hg pins s1 σ H1 x v _ I1 r1 q1) λ_ s2 q=>q
theorem Na{i:Nat}{x:Str}{e:Expr}{te:TE}{pos':Pos}(hN:X.N.Nodup)(hi:X.N[i]? = some x)(hx:Loc X.env.scope x)(he:PE X e te)(hs:Ir e (some (.Name x pos')) pos.line X.env=pure false:=by rfl)(hf:X.fn x=true\/X.env.scope.names.lookup x=some .local:=by first | exact .inl rfl | exact .inr rfl | assumption):PS X (.Assign [.Name x pos'] e pos) (K9 te (Yl i)):=by
 intro pins s σ H D I h
 refine wpAny_Assign_Name (Gh (he pins s σ H _ I h) λv s1 ⟨y,H1,I1,r1,q1⟩=>?_) hs
 exact Wb I1 hN hi hx r1 (λs2 I2=>⟨_,H1,I2,q1⟩) hf
end
structure It where
 go:Nat->Hp->Prop
 yld:Nat->Hp->V->Hp->Prop
 stop:Nat->Hp->Prop
def Pp(X:Cx)(pins:List (Addr×Obj))(H:Hp)(b:Addr):Prop :=
 H b=none/\b≠X.env.locals/\b∉X.fs/\(b∈X.ex\/X.s₀.heap.objs.size<=b)/\(∀x c,X.env.cells.lookup x=some c->c≠b)/\∀p∈X.pn++pins,p.1≠b
theorem Inv.fpOk{X:Cx}{pins:List (Addr×Obj)}{σ:St}{H H':Hp}{s:Ah}{b:Addr}(I:Inv X pins σ H s)(hb:s.heap.objs.size<=b)(hn:H' b=none):Pp X pins H' b:=by
 refine ⟨hn,Nat.ne_of_gt (By I.lt hb),I.nofs hb,.inr (Ba I.sz hb),λx c e z=>?_,λp hp z=>?_⟩
 ·obtain ⟨v,q⟩:=I.cell x c e
  exact absurd (By q.lt (by rw[z]; exact hb)) (Ep _)
 ·exact absurd (By (Az (I.pin p hp).1) (by rw[z]; exact hb)) (Ep _)
structure Turn(P:Bh)(w:World)(K:PySem.W.Frag)(tg:Expr)(J:It)(fp:List Addr)(it:Addr)(tn:Nat->Heap->Prop):Prop where
 mem:it∈fp
 obj:∀i h,tn i h->∀b∈fp,∃o,h.get? b=some o/\∀v,o.data≠.cell v
 keep:∀i h h',tn i h->(∀b∈fp,∀o,h.get? b=some o->h'.get? b=some o)->tn i h'
 item:∀(X:Cx),X.prog=P->X.w=w->X.K=K->X.calm=true->∀(i:Nat) (pins:List (Addr×Obj)) (s:Ah) (σ:St) (H:Hp) (E:Value->Ah->Prop),Inv X pins σ H s->(∀b∈fp,Pp X pins H b)->tn i s.heap->J.go i H ->
  wpAny (model P w) X.A (Tr (.ref it)) (λr s1=>∃u,r=some u /\
   wpAny (model P w) X.A (Ow tg (.ref it) u) (λ_ s2=>∃x H',Inv X pins σ H' s2/\RelV x u/\J.yld i H x H'/\tn (i+1) s2.heap/\∀b∈fp,H' b=none) E s1) E s
 done:∀(X:Cx),X.prog=P->X.w=w->X.K=K->X.calm=true->∀(i:Nat) (pins:List (Addr×Obj)) (s:Ah) (σ:St) (H:Hp) (E:Value->Ah->Prop),Inv X pins σ H s->(∀b∈fp,Pp X pins H b)->tn i s.heap->J.stop i H ->
  wpAny (model P w) X.A (Tr (.ref it)) (λr s1=>r=none/\Inv X pins σ H s1) E s
 self:∀(A:Cr) (i:Nat) (s:Ah) (Q:Value->Ah->Prop) (E:Value->Ah->Prop),tn i s.heap->Q (.ref it) s->wpAny (model P w) A (pyIter (.ref it)) Q E s
abbrev TI:=St->Hp->(It->Hp->Prop)->Prop
def HW(X:Cx)(pins:List (Addr×Obj))(σ:St)(tg:Expr)(R:It->Hp->Prop)(itv:Value)(s2:Ah):Prop :=
 ∃(it:Addr) (fp:List Addr) (tn:Nat->Heap->Prop) (J:It) (H':Hp),itv=.ref it/\Inv X pins σ H' s2/\Turn X.prog X.w X.K tg J fp it tn/\tn 0 s2.heap/\(∀b∈fp,Pp X pins H' b)/\R J H'
def PI(X:Cx)(tg iter:Expr)(wi:TI):Prop :=
 ∀(pins:List (Addr×Obj)) (s:Ah) (σ:St) (H:Hp) (R:It->Hp->Prop),Inv X pins σ H s->wi σ H R ->
  wpAny (model X.prog X.w) X.A (eval iter X.env) (λv s1=>wpAny (model X.prog X.w) X.A (pyIter v) (HW X pins σ tg R) X.xe s1) X.xe s
theorem qH{M:Model}{A:Cr}{E:Value->Ah->Prop}{s:Ah}{tg:Expr}{it:Addr}{u:Value}{o:Obj}{n:String}{vs:Array Value}{Q:Unit->Ah->Prop}(ho:s.heap.get? it=some o)(hc:o.cls=.type n)(hd:o.data=.fields vs)(hn:["enumerate", "zip", "dict_itemiterator", "dict_reverseitemiterator", "odict_iterator", "itertools.zip_longest", "itertools.pairwise"].contains n=false)(hQ:Q () s):wpAny M A (Ow tg (.ref it) u) Q E s:=by
  unfold Ow
  cases tg <;> first
    | exact Ao hQ
    | (cases u <;> first
        | exact Ao hQ
        | (refine Ac (wpAny_load ho ?_)
           rw[hc,hd]
           show wpAny M A (if (["enumerate", "zip", "dict_itemiterator", "dict_reverseitemiterator", "odict_iterator", "itertools.zip_longest", "itertools.pairwise"].contains n && vs[0]? == some (Ll _))=true then _ else _) Q E s
           rw[if_neg (by intro h; rw[hn,Bool.false_and] at h; cases h)]
           exact Ao hQ))
def HQ(K:PySem.W.Frag)(a:Addr):It :=
 ⟨λi H=>∃xs x,Za K H a xs/\xs[i]? = some x,λi H x H'=>H'=H/\∀xs,Za K H a xs->xs[i]? = some x,λi H=>∃xs,Za K H a xs/\xs.length<=i⟩
def FV(K:PySem.W.Frag)(a:Addr):It :=
 ⟨λi H=>∃xs x,Vi K H a xs/\xs[i]? = some x,λi H x H'=>H'=H/\∀xs,Vi K H a xs->xs[i]? = some x,λi H=>∃xs,Vi K H a xs/\xs.length<=i⟩
def EG(lo:Int)(n:Nat):It:=⟨λi _=>i<n,λi H x H'=>H'=H/\x=.int (lo+i),λi _=>n<=i⟩
theorem sX{P:Bh}{w:World}{K:PySem.W.Frag}{tg:Expr}(a it:Addr):Turn P w K tg (HQ K a) [it] it (λi h=>h.IsListIter it a i) where
 mem:=by simp
 obj:=λi h st b hb=>by
  have e:b=it:=by simpa using hb
  subst e
  obtain ⟨o,e,c,d⟩:=st
  exact ⟨o,e,λv z=>by rw[d] at z; cases z⟩
 keep:=λi h h' st k=>st.at λo e=>k it (by simp) o e
 item:=by
  intro X hP hw hK hc i pins s σ H E I hf st hg
  subst hP hw hK
  obtain ⟨xs,x,hq,hx⟩:=hg
  obtain ⟨its,rv,p,hz⟩:=I.list hq
  obtain ⟨u,hu,ru⟩:=rv.get hx
  obtain ⟨f0,f1,f2,f3,f4,f5⟩:=hf it (by simp)
  refine w8 st p.isList (x:=u) (by simpa using hu) λh' st' sb=>?_
  have I1:Inv X pins σ H { s with heap:=h' }:=I.turned (t':=s.toks) (λb o hb e=>(sb.2 b hb).trans e) f0 f1 f3 f4 f5
  obtain ⟨o,e,c,d⟩:=id st'
  exact ⟨u,rfl,qH (s:={ s with heap:=h' }) e c d (by decide) ⟨x,H,I1,ru,⟨rfl,λys hy=>by rw[I.list_inj hy hq]; exact hx⟩,st',λb hb=>(hf b hb).1⟩⟩
 done:=by
  intro X hP hw hK hc i pins s σ H E I hf st hg
  subst hP hw hK
  obtain ⟨xs,hq,hx⟩:=hg
  obtain ⟨its,rv,p,hz⟩:=I.list hq
  obtain ⟨f0,f1,f2,f3,f4,f5⟩:=hf it (by simp)
  have hl:=rv.length
  exact wpAny_pyNext_list_end (I.ok.hd hc) st p.isList (by simp; omega) λh' eb=>⟨rfl,I.turned (t':=s.toks) (λb o hb e=>eb b o hb e) f0 f1 f3 f4 f5⟩
 self:=λ_ _ _ _ _ st h=>wpAny_pyIter_listiter st h
theorem nT{P:Bh}{w:World}{K:PySem.W.Frag}{tg:Expr}(a it:Addr):Turn P w K tg (FV K a) [it] it (λi h=>h.IsTupleIter it a i) where
 mem:=by simp
 obj:=λi h st b hb=>by
  have e:b=it:=by simpa using hb
  subst e
  obtain ⟨o,e,c,d⟩:=st
  exact ⟨o,e,λv z=>by rw[d] at z; cases z⟩
 keep:=λi h h' st k=>st.at λo e=>k it (by simp) o e
 item:=by
  intro X hP hw hK hc i pins s σ H E I hf st hg
  subst hP hw hK
  obtain ⟨xs,x,hq,hx⟩:=hg
  obtain ⟨its,rv,p,hz⟩:=I.tuple hq
  obtain ⟨u,hu,ru⟩:=rv.get hx
  obtain ⟨f0,f1,f2,f3,f4,f5⟩:=hf it (by simp)
  refine u6 st (show s.heap.IsTuple a its.toArray from p) (x:=u) (by simpa using hu) λh' st' sb=>?_
  have I1:Inv X pins σ H { s with heap:=h' }:=I.turned (t':=s.toks) (λb o hb e=>(sb.2 b hb).trans e) f0 f1 f3 f4 f5
  obtain ⟨o,e,c,d⟩:=id st'
  exact ⟨u,rfl,qH (s:={ s with heap:=h' }) e c d (by decide) ⟨x,H,I1,ru,⟨rfl,λys hy=>by rw[I.tuple_inj hy hq]; exact hx⟩,st',λb hb=>(hf b hb).1⟩⟩
 done:=by
  intro X hP hw hK hc i pins s σ H E I hf st hg
  subst hP hw hK
  obtain ⟨xs,hq,hx⟩:=hg
  obtain ⟨its,rv,p,hz⟩:=I.tuple hq
  obtain ⟨f0,f1,f2,f3,f4,f5⟩:=hf it (by simp)
  have hl:=rv.length
  exact w5 (I.ok.hd hc) st (show s.heap.IsTuple a its.toArray from p) (by simp; omega) λh' eb=>⟨rfl,I.turned (t':=s.toks) (λb o hb e=>eb b o hb e) f0 f1 f3 f4 f5⟩
 self:=λ_ _ _ _ _ st h=>wpAny_pyIter_tupleiter st h
theorem oG{P:Bh}{w:World}{K:PySem.W.Frag}{tg:Expr}(it:Addr)(lo:Int)(n:Nat):Turn P w K tg (EG lo n) [it] it (λi h=>IsRangeIter h it (lo+(i:Nat) * 1) ((n:Int) - (i:Nat)) 1) where
 mem:=by simp
 obj:=λi h st b hb=>by
  have e:b=it:=by simpa using hb
  subst e
  exact ⟨_,st,λv z=>by
   have z':Data.fields _=Data.cell v:=z
   cases z'⟩
 keep:=λi h h' st k=>k it (by simp) _ st
 item:=by
  intro X hP hw hK hc i pins s σ H E I hf st hg
  subst hP hw hK
  obtain ⟨f0,f1,f2,f3,f4,f5⟩:=hf it (by simp)
  have W:=Walks.range (prog:=X.prog) (w:=X.w) (I.ok.hd hc) it lo 1 n
  refine W.item i s _ _ hg st λv h' tk hv st' kk=>?_
  obtain ⟨t,rfl⟩:=hv
  have I1:Inv X pins σ H { s with heap:=h',toks:=tk }:=I.turned (λb o hb e=>kk b o (by simpa using hb) e) f0 f1 f3 f4 f5
  refine ⟨_,rfl,qH (s:={ s with heap:=h',toks:=tk }) (n := "range_iterator") st' rfl rfl (by decide) ⟨.int (lo+i),H,I1,⟨t,?_⟩,⟨rfl,rfl⟩,st',λb hb=>(hf b hb).1⟩⟩
  rw[Int.mul_one]
 done:=by
  intro X hP hw hK hc i pins s σ H E I hf st hg
  subst hP hw hK
  obtain ⟨f0,f1,f2,f3,f4,f5⟩:=hf it (by simp)
  exact wpAny_pyNext_range_end (I.ok.hd hc) st (by have : n<=i:=hg; omega) λh' eb=>⟨rfl,I.turned (t':=s.toks) (λb o hb e=>eb b o hb e) f0 f1 f3 f4 f5⟩
 self:=λ_ _ _ _ _ st h=>wpAny_pyIter_rangeiter st h
section
variable{X:Cx}{tg:Expr}
def EE(K:PySem.W.Frag)(tl:TE):TI:=λσ H R=>tl σ H λx H1=>∃a,x=.ref a/\(∃xs,Za K H1 a xs)/\R (HQ K a) H1
def GU(K:PySem.W.Frag)(tl:TE):TI:=λσ H R=>tl σ H λx H1=>∃a,x=.ref a/\(∃xs,Vi K H1 a xs)/\R (FV K a) H1
theorem qX{l:Expr}{tl:TE}(hl:PE X l tl):PI X tg l (EE X.K tl):=by
 intro pins s σ H R I h
 refine Gh (hl pins s σ H _ I h) λv s1 q0_ => ?_
 obtain ⟨x,H1,I1,r1,q1⟩ := q0_
 obtain ⟨a,e,⟨xs,hq⟩,q⟩:=q1
 subst e
 cases r1
 obtain ⟨its,rv,p,hz⟩:=I1.list hq
 refine fK p.isList ?_
 refine ⟨s1.heap.objs.size,[s1.heap.objs.size],_,_,H1,rfl,I1.kept (t':=s1.toks) λb o e=>Aj _ e,sX a _,⟨_,Bi _ rfl,rfl,rfl⟩,λb hb=>?_,q⟩
 have e:b=s1.heap.objs.size:=by simpa using hb
 subst e
 exact I1.fpOk (Al _) (I1.hok.fresh (Al _))
theorem V1{l:Expr}{tl:TE}(hl:PE X l tl):PI X tg l (GU X.K tl):=by
 intro pins s σ H R I h
 refine Gh (hl pins s σ H _ I h) λv s1 q0_ => ?_
 obtain ⟨x,H1,I1,r1,q1⟩ := q0_
 obtain ⟨a,e,⟨xs,hq⟩,q⟩:=q1
 subst e
 cases r1
 obtain ⟨its,rv,p,hz⟩:=I1.tuple hq
 refine wpAny_pyIter_tuple (show s1.heap.IsTuple a its.toArray from p) ?_
 refine ⟨s1.heap.objs.size,[s1.heap.objs.size],_,_,H1,rfl,I1.kept (t':=s1.toks) λb o e=>Aj _ e,nT a _,⟨_,Bi _ rfl,rfl,rfl⟩,λb hb=>?_,q⟩
 have e:b=s1.heap.objs.size:=by simpa using hb
 subst e
 exact I1.fpOk (Al _) (I1.hok.fresh (Al _))
theorem vL{pins:List (Addr×Obj)}{σ:St}{H:Hp}{s:Ah}{R:It->Hp->Prop}{E:Value->Ah->Prop}{lo hi:Int}{t u v:Tok}{tk:Nat}(I:Inv X pins σ H s)(h1:-(2 ^ 62)<=lo)(h2:lo<2 ^ 62)(h3:-(2 ^ 62)<=hi)(h4:hi<2 ^ 62)(q:R (EG lo (hi - lo).toNat) H):wpAny (model X.prog X.w) X.A (pyIter (.ref s.heap.objs.size)) (HW X pins σ tg R) E { s with heap:=s.heap.push { cls:=.type "range",data:=.fields #[.int lo t,.int hi u,.int 1 v] },toks:=tk }:=by
 refine wpAny_pyIter_range (IsRange.new ..) (small_one h1 h2 h3 h4) ?_
 have I1:Inv X pins σ H { s with heap:=s.heap.push { cls:=.type "range",data:=.fields #[.int lo t,.int hi u,.int 1 v] },toks:=tk }:=I.kept λb o e=>Aj _ e
 refine ⟨(s.heap.push { cls:=.type "range",data:=.fields #[.int lo t,.int hi u,.int 1 v] }).objs.size,[(s.heap.push { cls:=.type "range",data:=.fields #[.int lo t,.int hi u,.int 1 v] }).objs.size],_,_,H,rfl,
  I1.kept (t':=tk) λb o e=>Aj _ e,oG _ lo (hi - lo).toNat,?_,λb hb=>?_,q⟩
 ·have e1:lo+((0:Nat):Int) * 1=lo:=by simp
  have e2:(((hi - lo).toNat:Nat):Int) - ((0:Nat):Int)=Builtin.Range.rangeSize lo hi 1:=by rw[rangeSize_one]; split <;> omega
  show IsRangeIter _ _ (lo+((0:Nat):Int) * 1) ((((hi - lo).toNat:Nat):Int) - ((0:Nat):Int)) 1
  rw[e1,e2]
  exact Bi _ rfl
 ·have e:b=(s.heap.push { cls:=.type "range",data:=.fields #[.int lo t,.int hi u,.int 1 v] }).objs.size:=by simpa using hb
  subst e
  exact I1.fpOk (Al _) (I1.hok.fresh (Al _))
def EW(ta:TA):TI:=λσ H R=>ta σ H λvs H1=>∃j:Int,vs=[.int j] /\ -(2 ^ 62)<=j/\j<2 ^ 62/\R (EG 0 j.toNat) H1
theorem uS{a:Expr}{ta:TA}{p pos:Pos}(hg:Gl X "range")(hm:X.mg "range" = none)(ha:PA X [a] ta)(hs:Bf [a] X.env=[(false,eval a X.env)]:=by rfl):PI X tg (.Call (.Name "range" p) [a] [] pos) (EW ta):=by
 intro pins s σ H R I h
 refine Call_ (gG I hg hm boot_range (Wp (Gh (ha pos pins s σ H _ I h) λus s1 ⟨vs,H1,I1,r1,q1⟩=>?_) hs rfl))
 obtain ⟨j,e,q1,q2,q⟩:=q1
 subst e
 cases r1 with
 | cons r rr =>
  cases rr
  obtain ⟨t,rfl⟩:=r
  exact call_range_1 (vL I1 (by omega) (by omega) q1 q2 (by simpa using q))
def HH(wi:TI)(g:TG)(tb:TS):TS:=λD σ H=>wi σ H λJ H1=>∃W:Nat->Nat->St->Hp->Prop,(∃m,W 0 m σ H1)/\∀i m σ H,W i m σ H ->
 (J.stop i H/\D.nx σ H)\/(J.go i H/\∃N:St->Hp->Prop,(∀σ' H',N σ' H'->∃m',m'<m/\W (i+1) m' σ' H')/\∀x H',J.yld i H x H'->g x σ H' λσ2 H2=>tb { D with nx:=N,ct:=N,bk:=D.nx } σ2 H2)
def Rh(fp:List Addr)(h:Heap):List (Addr×Obj):=fp.filterMap λb=>(h.get? b).map λo=>(b,o)
theorem Hj{fp:List Addr}{h:Heap}{b:Addr}{o:Obj}(hb:b∈fp)(e:h.get? b=some o):(b,o)∈Rh fp h:=Cg.mpr ⟨b,hb,by rw[e]; rfl⟩
theorem tT{fp:List Addr}{h:Heap}{p:Addr×Obj}(hp:p∈Rh fp h):p.1∈fp/\h.get? p.1=some p.2:=by
 obtain ⟨b,hb,e⟩:=Cg.mp hp
 cases q:h.get? b with
 | none=>rw[q] at e; cases e
 | some o =>
  rw[q] at e
  have e':(b,o)=p:=Br e
  subst e'
  exact ⟨hb,q⟩
theorem Inv.pinned{pins:List (Addr×Obj)}{σ:St}{H:Hp}{s:Ah}{fp:List Addr}(I:Inv X pins σ H s)(hf:∀b∈fp,Pp X pins H b)(ho:∀b∈fp,∃o,s.heap.get? b=some o/\∀v,o.data≠.cell v):Inv X (pins++Rh fp s.heap) σ H s :=
 I.pins_of λp hp=>(Aw.mp hp).elim (λz=>I.pin p (Ai _ z)) λz=>by
  obtain ⟨hb,e⟩:=tT z
  obtain ⟨f0,f1,f2,_⟩:=hf p.1 hb
  obtain ⟨o,e',d⟩:=ho p.1 hb
  rw[e] at e'; cases e'
  exact ⟨e,f0,f1,f2,d⟩
theorem Inv.unpinned{pins pl:List (Addr×Obj)}{σ:St}{H:Hp}{s:Ah}(I:Inv X (pins++pl) σ H s):Inv X pins σ H s:=I.pins_of λp hp=>I.pin p (Ai _ (An _ hp))
theorem AU{iter:Expr}{body:List Stmt}{wi:TI}{g:TG}{tb:TS}{pos:Pos}(hp:PassesOwn (model X.prog X.w) X.A X.env X.xe)(hc:X.calm=true)(hi:PI X tg iter wi)(hg:PG X tg g)(hb:cM X body tb)(hs:∀x,Ez iter X.env x=pure x:=by intro _; rfl):PS X (.For tg iter body [] pos) (HH wi g tb):=by
 intro pins s σ H D I h
 refine wpAny_For (Gh (hi pins s σ H _ I h) λv s1 h1=>Gh h1 λitv s2 h2=>?_) hs
 obtain ⟨it,fp,tn,J,H2,e,I2,T,st2,f2,W,⟨m0,w0⟩,turn⟩:=h2
 subst e
 -- what stays true of the iterator's objects through the loop
 have stat:∀{H':Hp},(∀b∈fp,H' b=none)->∀b∈fp,Pp X pins H' b:=λhn b hb=>⟨hn b hb,(f2 b hb).2⟩
 refine codeAny_forLoop_any (λn s'=>∃i σ' H',Inv X pins σ' H' s'/\tn i s'.heap/\(∀b∈fp,H' b=none)/\W i n σ' H') ?_ m0 ⟨0,σ,H2,I2,st2,λb hb=>(f2 b hb).1,w0⟩
 (intro n s3 q_; obtain ⟨i,σ3,H3,I3,oV,fr3,w3⟩ := q_)
 rcases turn i n σ3 H3 w3 with ⟨stop,qn⟩ | ⟨go,N,hN,step⟩
 ·refine Ou hp (Gh (T.done X rfl rfl rfl hc i pins s3 σ3 H3 X.xe I3 (stat fr3) oV stop) λr s4 q0_ => ?_)
  obtain ⟨hr,I4⟩ := q0_
  subst hr
  exact Ov ⟨σ3,H3,I4,qn⟩
 ·refine Ou hp (Gh (T.item X rfl rfl rfl hc i pins s3 σ3 H3 X.xe I3 (stat fr3) oV go) λr s4 q0_ => ?_)
  obtain ⟨u,hr,h4⟩ := q0_
  subst hr
  refine Ou hp (Gh h4 λ_ s5 q0_ => ?_)
  obtain ⟨x,H5,I5,r5,y5,st5,fr5⟩ := q0_
  have I5':=I5.pinned (stat fr5) (T.obj _ _ st5)
  refine Ou hp (Gh (hg _ s5 σ3 H5 x u _ I5' r5 (step x H5 y5)) λ_ s6 q0_ => ?_)
  obtain ⟨σ6,H6,I6,q6⟩ := q0_
  refine Ou hp (Gh (hb _ s6 σ6 H6 _ I6 q6) λf s7 q7=>?_)
  have again:∀{σ7:St} {H7:Hp},Inv X (pins++Rh fp s5.heap) σ7 H7 s7->N σ7 H7->∃m,m<n/\∃i σ' H',Inv X pins σ' H' s7/\tn i s7.heap/\(∀b∈fp,H' b=none)/\W i m σ' H':=λ{σ7 H7} I7 n7=>by
   obtain ⟨m',hm,w7⟩:=hN σ7 H7 n7
   refine ⟨m',hm,i+1,σ7,H7,I7.unpinned,T.keep _ _ _ st5 λb hb o e=>(I7.pin (b,o) (Ai _ (Ai _ (Hj hb e)))).1,λb hb=>?_,w7⟩
   obtain ⟨o,e,d⟩:=T.obj _ _ st5 b hb
   exact (I7.pin (b,o) (Ai _ (Ai _ (Hj hb e)))).2.1
  cases f with
  | next=>obtain ⟨σ7,H7,I7,n7⟩:=q7; exact again I7 n7
  | cont=>obtain ⟨σ7,H7,I7,n7⟩:=q7; exact again I7 n7
  | brk=>obtain ⟨σ7,H7,I7,q7⟩:=q7; exact ⟨σ7,H7,I7.unpinned,q7⟩
  | ret v=>obtain ⟨x7,σ7,H7,I7,r7,q7⟩:=q7; exact ⟨x7,σ7,H7,I7.unpinned,r7,q7⟩
end
abbrev R2:=V->V->Hp->VK->Prop
def Ue(X:Cx)(f:Value->Value->Sem Value)(r:R2):Prop :=
 ∀(pins:List (Addr×Obj)) (s:Ah) (σ:St) (H:Hp) (x y:V) (v u:Value) (Q:VK),Inv X pins σ H s->RelV x v->RelV y u->r x y H Q ->
  wpAny (model X.prog X.w) X.A (f v u) (EP X pins σ Q) X.xe s
def FW(X:Cx)(f:Value->Sem Value)(r:V->Hp->VK->Prop):Prop :=
 ∀(pins:List (Addr×Obj)) (s:Ah) (σ:St) (H:Hp) (x:V) (v:Value) (Q:VK),Inv X pins σ H s->RelV x v->r x H Q ->
  wpAny (model X.prog X.w) X.A (f v) (EP X pins σ Q) X.xe s
def Kb(X:Cx)(f:Value)(r:List V->Hp->VK->Prop):Prop :=
 ∀(pins:List (Addr×Obj)) (s:Ah) (σ:St) (H:Hp) (xs:List V) (us:List Value) (Q:VK),Inv X pins σ H s->Fq xs us->r xs H Q ->
  wpAny (model X.prog X.w) X.A (call f us) (EP X pins σ Q) X.xe s
def HF(X:Cx)(r:V->Hp->(Bool->Hp->Prop)->Prop):Prop :=
 ∀(pins:List (Addr×Obj)) (s:Ah) (σ:St) (H:Hp) (x:V) (v:Value) (Q:Bool->Hp->Prop),Inv X pins σ H s->RelV x v->r x H Q ->
  wpAny (model X.prog X.w) X.A (truthy v) (TP X pins σ Q) X.xe s
def BP(r:R2)(ta tb:TE):TE:=λσ H Q=>ta σ H λx H1=>tb σ H1 λy H2=>r x y H2 Q
def JA(r:V->Hp->VK->Prop)(ta:TE):TE:=λσ H Q=>ta σ H λx H1=>r x H1 Q
def rI(C:Int->Int->Prop)(g:Int->Int->V):R2:=λx y H Q=>∃i j,x=.int i/\y=.int j/\C i j/\Q (g i j) H
def E7(g:Int->Int->V):R2:=λx y H Q=>∃i j,x=.int i/\y=.int j/\Q (g i j) H
def rU(g:Int->V):V->Hp->VK->Prop:=λx H Q=>∃i,x=.int i/\Q (g i) H
section
variable{X:Cx}{a b c:Expr}{ta tb tc:TE}{pos:Pos}
theorem U6(ha:PE X a ta)(hb:PE X b tb){pins:List (Addr×Obj)}{s:Ah}{σ:St}{H:Hp}{R:V->V->Hp->Prop}(I:Inv X pins σ H s)(h:ta σ H λx H1=>tb σ H1 λy H2=>R x y H2){Q:Value->Ah->Prop}{f:Value->Value->Sem Value}(hf:∀v u s2 x y H2,Inv X pins σ H2 s2->RelV x v->RelV y u->R x y H2->wpAny (model X.prog X.w) X.A (f v u) Q X.xe s2):wpAny (model X.prog X.w) X.A (eval a X.env) (λv s₁=>wpAny (model X.prog X.w) X.A (eval b X.env) (λu s₂=>wpAny (model X.prog X.w) X.A (f v u) Q X.xe s₂) X.xe s₁) X.xe s:=by
 refine Gh (ha pins s σ H _ I h) λv s1 q0_ => ?_
 obtain ⟨x,H1,I1,r1,q1⟩ := q0_
 refine Gh (hb pins s1 σ H1 _ I1 q1) λu s2 q0_ => ?_
 obtain ⟨y,H2,I2,r2,q2⟩ := q0_
 exact hf v u s2 x y H2 I2 r1 r2 q2
theorem Kc{op:Operator}{r:R2}(ho:Ue X (Jj op) r)(ha:PE X a ta)(hb:PE X b tb):PE X (.BinOp a op b pos) (BP r ta tb):=by
 intro pins s σ H Q I h
 exact wpAny_BinOp (U6 ha hb I h λv u s2 x y H2 I2 rx ry q=>ho pins s2 σ H2 x y v u Q I2 rx ry q)
theorem CA{op:UnaryOp}{r:V->Hp->VK->Prop}(ho:FW X (unaryOp op) r)(ha:PE X a ta):PE X (.UnaryOp op a pos) (JA r ta):=by
 intro pins s σ H Q I h
 exact UnaryOp_ (Gh (ha pins s σ H _ I h) λv s1 ⟨x,H1,I1,r1,q1⟩=>ho pins s1 σ H1 x v Q I1 r1 q1)
theorem FI{f:Value->Value->Sem Value}{C:Int->Int->Prop}{g:Int->Int->Int}(rule:∀(i j:Int) (t u:Tok) (s:Ah) (Q:Value->Ah->Prop) (E:Value->Ah->Prop),C i j->Q (.int (g i j) s.toks) { s with toks:=s.toks+1 }->wpAny (model X.prog X.w) X.A (f (.int i t) (.int j u)) Q E s):Ue X f (rI C λi j=>.int (g i j)):=by
 intro pins s σ H x y v u Q I rx ry h
 obtain ⟨i,j,rfl,rfl,hc,q⟩:=h
 obtain ⟨t,rfl⟩:=rx
 obtain ⟨t',rfl⟩:=ry
 exact rule i j t t' s _ _ hc ⟨.int (g i j),H,I.tok _,⟨_,rfl⟩,q⟩
theorem BS{f:Value->Value->Sem Value}{g:Int->Int->Int}(rule:∀(i j:Int) (t u:Tok) (s:Ah) (Q:Value->Ah->Prop) (E:Value->Ah->Prop),Q (.int (g i j) s.toks) { s with toks:=s.toks+1 }->wpAny (model X.prog X.w) X.A (f (.int i t) (.int j u)) Q E s):Ue X f (E7 λi j=>.int (g i j)):=by
 intro pins s σ H x y v u Q I rx ry h
 obtain ⟨i,j,rfl,rfl,q⟩:=h
 obtain ⟨t,rfl⟩:=rx
 obtain ⟨t',rfl⟩:=ry
 exact rule i j t t' s _ _ ⟨.int (g i j),H,I.tok _,⟨_,rfl⟩,q⟩
theorem L5{f:Value->Value->Sem Value}{g:Int->Int->Bool}(rule:∀(i j:Int) (t u:Tok) (s:Ah) (Q:Value->Ah->Prop) (E:Value->Ah->Prop),Q (.bool (g i j)) s->wpAny (model X.prog X.w) X.A (f (.int i t) (.int j u)) Q E s):Ue X f (E7 λi j=>.bl (g i j)):=by
 intro pins s σ H x y v u Q I rx ry h
 obtain ⟨i,j,rfl,rfl,q⟩:=h
 obtain ⟨t,rfl⟩:=rx
 obtain ⟨t',rfl⟩:=ry
 exact rule i j t t' s _ _ ⟨.bl (g i j),H,I,rfl,q⟩
def V7(i j:Int):Prop:=0<j/\j<1073741824
def HP(i j:Int):Prop:=0<=j/\j<=1000000/\i.natAbs<2 ^ 64
def C0(i j:Int):Prop:=(-(2 ^ 64)<i/\i<2 ^ 64)\/(-(2 ^ 64)<j/\j<2 ^ 64)
theorem C0.ok{i j:Int}(h:C0 i j):IntMulOk i j:=by
 rcases h with ⟨h1,h2⟩ | ⟨h1,h2⟩
 ·exact .of_left (intBits_le_64 h1 h2)
 ·exact .of_right (intBits_le_64 h1 h2)
theorem bF:Ue X (Jj .Add) (E7 λi j=>.int (i+j)):=BS λ_ _ _ _ _ _ _ q=>add_int q
theorem Z5:Ue X (Jj .Sub) (E7 λi j=>.int (i - j)):=BS λ_ _ _ _ _ _ _ q=>sub_int q
theorem Ww:Ue X (Jj .Mult) (rI C0 λi j=>.int (i * j)):=FI λ_ _ _ _ _ _ _ hc q=>mul_int q hc.ok
theorem gU:Ue X (Jj .FloorDiv) (rI V7 λi j=>.int (i / j)):=FI λi j _ _ _ _ _ hc q=>by
 have h1:(0:Int)<j:=hc.1
 have h2:j<1073741824:=hc.2
 exact floordiv_int (by omega) (by rw[Int.fdiv_eq_ediv_of_nonneg i (by omega)]; exact q) (.inl (PyProof.noPylong_small (by omega)))
theorem Xh:Ue X (Jj .Mod) (rI (λ_ j=>0<j) λi j=>.int (i % j)):=FI λi j _ _ _ _ _ hc q=>by
 have h1:(0:Int)<j:=hc
 exact mod_int' (by omega) (by rw[Int.fmod_eq_emod_of_nonneg i (by omega)]; exact q)
theorem nS:Ue X (Jj .Pow) (rI HP λi j=>.int (i ^ j.toNat)):=FI λ_ _ _ _ _ _ _ hc q=>pow_int_small hc.1 hc.2.1 hc.2.2 q
theorem IW{f:Value->Sem Value}{g:Int->Int}(rule:∀(i:Int) (t:Tok) (s:Ah) (Q:Value->Ah->Prop) (E:Value->Ah->Prop),Q (.int (g i) s.toks) { s with toks:=s.toks+1 }->wpAny (model X.prog X.w) X.A (f (.int i t)) Q E s):FW X f (rU λi=>.int (g i)):=by
 intro pins s σ H x v Q I rx h
 obtain ⟨i,rfl,q⟩:=h
 obtain ⟨t,rfl⟩:=rx
 exact rule i t s _ _ ⟨.int (g i),H,I.tok _,⟨_,rfl⟩,q⟩
theorem Z9:FW X (unaryOp .USub) (rU λi=>.int (-i)):=IW λ_ _ _ _ _ q=>neg_int q
end
section
variable{X:Cx}{a b c:Expr}{ta tb tc:TE}{pos:Pos}
theorem hZ{pins:List (Addr×Obj)}{σ:St}{H:Hp}{s:Ah}{Q:VK}{k k':Bool}(I:Inv X pins σ H s)(q:Q (.bl k) H)(e:k=k'):EP X pins σ Q (.bool k') s:=by
 subst e
 exact ⟨.bl k,H,I,rfl,q⟩
theorem Q5:Ue X (Ge .Lt) (E7 λi j=>.bl (decide (i<j))):=L5 λ_ _ _ _ _ _ _ q=>lt_int q
theorem op_le:Ue X (Ge .LtE) (E7 λi j=>.bl (decide (i<=j))):=L5 λ_ _ _ _ _ _ _ q=>le_int q
theorem Q4:Ue X (Ge .Gt) (E7 λi j=>.bl (decide (j<i))):=L5 λ_ _ _ _ _ _ _ q=>gt_int q
theorem R9:Ue X (Ge .GtE) (E7 λi j=>.bl (decide (j<=i))):=L5 λ_ _ _ _ _ _ _ q=>ge_int q
theorem sY:Ue X (Ge .In) (λx y H Q=>∃i j,x=.str i/\y=.str j/\Q (.bl (!(Bg j i 0 j.length 1).isEmpty)) H):=by
 intro pins s σ H x y v u Q I rx ry h
 obtain ⟨i,j,rfl,rfl,q⟩:=h
 obtain ⟨t,rfl⟩:=rx
 obtain ⟨t',rfl⟩:=ry
 exact in_str (hZ I q rfl)
theorem wF:Ue X (Ge .Is) (λx y H Q=>y=.non/\Q (.bl (decide (x=.non))) H):=by
 intro pins s σ H x y v u Q I rx ry h
 obtain ⟨rfl,q⟩:=h
 cases ry
 refine is_none_gen (hZ I q ?_)
 cases x <;> first
  | (cases rx; rfl)
  | (obtain ⟨t,rfl⟩:=rx; rfl)
theorem C9:Ue X (Ge .IsNot) (λx y H Q=>y=.non/\Q (.bl (!decide (x=.non))) H):=by
 intro pins s σ H x y v u Q I rx ry h
 obtain ⟨rfl,q⟩:=h
 cases ry
 refine isnot_none_gen (hZ I q ?_)
 cases x <;> first
  | (cases rx; rfl)
  | (obtain ⟨t,rfl⟩:=rx; rfl)
theorem iX:Ue X (Ge .NotIn) (λx y H Q=>∃i j,x=.str i/\y=.str j/\Q (.bl (!(!(Bg j i 0 j.length 1).isEmpty))) H):=by
 intro pins s σ H x y v u Q I rx ry h
 obtain ⟨i,j,rfl,rfl,q⟩:=h
 obtain ⟨t,rfl⟩:=rx
 obtain ⟨t',rfl⟩:=ry
 exact notIn_str (hZ I q rfl)
theorem Ku(b:Expr){op:CmpOp}(h:op≠.In:=by decide)(h2:op≠.NotIn:=by decide):Fm op b=false:=by
 have e1:(op == CmpOp.In)=false:=by cases op <;> first | rfl | exact absurd rfl h
 have e2:(op == CmpOp.NotIn)=false:=by cases op <;> first | rfl | exact absurd rfl h2
 cases b <;> simp [Fm,e1,e2]
theorem qL{op:CmpOp}{r:R2}(ho:Ue X (Ge op) r)(ha:PE X a ta)(hb:PE X b tb)(hm:Fm op b=false):PE X (.Compare a [op] [b] pos) (BP r ta tb):=by
 intro pins s σ H Q I h
 exact wpAny_Compare1 (U6 ha hb I h λv u s2 x y H2 I2 rx ry q=>ho pins s2 σ H2 x y v u Q I2 rx ry q) hm
def DH(t:TE):TT:=λσ H Q=>t σ H λx H'=>∃k,x=.bl k/\Q k H'
theorem qT{op:CmpOp}{r:R2}(ho:Ue X (Ge op) r)(ha:PE X a ta)(hb:PE X b tb)(hm:Fm op b=false):PT X (.Compare a [op] [b] pos) (DH (BP r ta tb)):=by
 intro pins s σ H Q I h
 refine wpAny_isTrue_Compare1 (Gh (ha pins s σ H _ I h) λv s1 ⟨x,H1,I1,r1,q1⟩=>Gh (hb pins s1 σ H1 _ I1 q1) λu s2 ⟨y,H2,I2,r2,q2⟩ =>
  Gh (ho pins s2 σ H2 x y v u _ I2 r1 r2 q2) λc s3 ⟨z,H3,I3,r3,k,e,q3⟩=>?_) hm
 subst e
 cases r3
 exact Ht ⟨H3,I3,q3⟩
def GR(K:PySem.W.Frag)(x:V)(H:Hp)(k:Bool):Prop :=
 match x with
 | .non=>k=false
 | .bl b=>k=b
 | .int i=>k=(i != 0)
 | .str y=>y.length<=Ax/\k=((y.length:Int) != 0)
 | .byt y=>y.size<=Ax/\k=((y.size:Int) != 0)
 | .ref p=>(∃xs,Za K H p xs/\k = !xs.isEmpty)\/(∃xs,Vi K H p xs/\k = !xs.isEmpty)\/∃kvs,H p=some (.dK kvs)/\k = !kvs.isEmpty
 | _=>False
theorem nY{κ:Type}{kvs:List (κ×V)}{vs:List (κ×Value)}(r:KV kvs vs):(!vs.isEmpty) = !kvs.isEmpty:=by
 cases r <;> rfl
theorem bG{xs:List V}{its:List Value}(r:Fq xs its):(!its.toArray.isEmpty) = !xs.isEmpty:=by
 cases r <;> simp
theorem Xe:(Ax:Nat)<2 ^ 63:=by rw[Hg]; decide
theorem GP:HF X (λx H Q=>∃k,GR X.K x H k/\Q k H):=by
 intro pins s σ H x v Q I rx h
 obtain ⟨k,e,q⟩:=h
 have hl:=Xe
 have hs:Ax=16777216:=Hg
 cases x with
 | non =>
  cases rx
  have e':k=false:=e
  subst e'
  exact truthy_none ⟨H,I,q⟩
 | bl b =>
  cases rx
  have e':k=b:=e
  subst e'
  exact Ht ⟨H,I,q⟩
 | int i =>
  obtain ⟨t,rfl⟩:=rx
  have e':k=(i != 0):=e
  subst e'
  exact PySem.P.truthy_int ⟨H,I,q⟩
 | str y =>
  obtain ⟨t,rfl⟩:=rx
  obtain ⟨hy,e'⟩ : y.length<=Ax/\k=((y.length:Int) != 0):=e
  subst e'
  exact PySem.P.truthy_str (by omega) ⟨H,I.tok _,q⟩
 | byt y =>
  obtain ⟨t,rfl⟩:=rx
  obtain ⟨hy,e'⟩ : y.size<=Ax/\k=((y.size:Int) != 0):=e
  subst e'
  exact PySem.W.truthy_bytes (by omega) ⟨H,I.tok _,q⟩
 | ref p =>
  cases rx
  have e':(∃xs,Za X.K H p xs/\k = !xs.isEmpty)\/(∃xs,Vi X.K H p xs/\k = !xs.isEmpty)\/∃kvs,H p=some (.dK kvs)/\k = !kvs.isEmpty:=e
  rcases e' with ⟨xs,hx,e'⟩ | ⟨xs,hx,e'⟩ | ⟨kvs,hx,e'⟩
  ·subst e'
   obtain ⟨its,r,pl,hz⟩:=I.list hx
   have hlen:=r.length
   exact wpAny_truthy_list pl.isList (by simp only[Aq]; omega) ⟨H,I.tok _,by rw[bG r]; exact q⟩
  ·subst e'
   obtain ⟨its,r,pl,hz⟩:=I.tuple hx
   have hlen:=r.length
   exact truthy_tuple pl (by simp only[Aq]; omega) ⟨H,I.tok _,by rw[bG r]; exact q⟩
  ·subst e'
   obtain ⟨hz,hS,vs,r,m⟩ : kvs.length<=Ax/\(p == sysModules)=false/\∃vs,KV kvs vs/\s.heap.DictOf (jH X.prog X.w) p vs:=I.hok p _ hx
   have hlen:kvs.length=vs.length:=Paired.length r
   exact wpAny_truthy_dict hS m (by omega) ⟨H,I.tok _,by rw[nY r]; exact q⟩
 | _=>exact (show False from e).elim
theorem pJ:Ue X (Jj .Add) (λx y H Q=>∃i j,x=.str i/\y=.str j/\i.length+j.length<=Ax/\Q (.str (i++j)) H):=by
 intro pins s σ H x y v u Q I rx ry h
 obtain ⟨i,j,rfl,rfl,hz,q⟩:=h
 obtain ⟨t,rfl⟩:=rx
 obtain ⟨t',rfl⟩:=ry
 exact add_str (λt' tk=>⟨.str (i++j),H,I.tok _,⟨_,rfl⟩,q⟩) hz
theorem vals1{x:V}{us:List Value}(r:Fq [x] us):∃u,us=[u]/\RelV x u:=by
 cases r with
 | cons r1 r2=>cases r2; exact ⟨_,rfl,r1⟩
theorem vals2{x y:V}{us:List Value}(r:Fq [x,y] us):∃u w',us=[u,w']/\RelV x u/\RelV y w':=by
 cases r with
 | cons r1 r2 =>
  cases r2 with
  | cons r3 r4=>cases r4; exact ⟨_,_,rfl,r1,r3⟩
theorem Td:Kb X (.type "int") (λxs H Q=>(∃i,xs=[.int i]/\Q (.int i) H)\/∃k,xs=[.bl k]/\Q (.int (if k then 1 else 0)) H):=by
 intro pins s σ H xs us Q I r h
 rcases h with ⟨i,rfl,q⟩ | ⟨k,rfl,q⟩
 ·obtain ⟨u,rfl,t,rfl⟩:=vals1 r
  exact call_int_int ⟨.int i,H,I,⟨_,rfl⟩,q⟩
 ·obtain ⟨u,rfl,r1⟩:=vals1 r
  cases r1
  exact call_int_bool ⟨.int (if k then 1 else 0),H,I.tok _,⟨_,rfl⟩,q⟩
def BU(K:PySem.W.Frag)(x:V)(H:Hp)(n:Nat):Prop :=
 match x with
 | .str y=>y.length<=Ax/\n=y.length
 | .byt y=>y.size<=Ax/\n=y.size
 | .ref p=>(∃xs,Za K H p xs/\n=xs.length)\/∃xs,Vi K H p xs/\n=xs.length
 | _=>False
theorem Kk:Kb X (.builtin "len") (λxs H Q=>∃x n,xs=[x]/\BU X.K x H n/\Q (.int n) H):=by
 intro pins s σ H xs us Q I r h
 obtain ⟨x,n,rfl,e,q⟩:=h
 obtain ⟨u,rfl,rx⟩:=vals1 r
 have hl:=Xe
 have hs:Ax=16777216:=Hg
 cases x with
 | str y =>
  obtain ⟨t,rfl⟩:=rx
  obtain ⟨hy,e'⟩ : y.length<=Ax/\n=y.length:=e
  subst e'
  exact len_str (by omega) ⟨.int _,H,I.tok _,⟨_,rfl⟩,q⟩
 | byt y =>
  obtain ⟨t,rfl⟩:=rx
  obtain ⟨hy,e'⟩ : y.size<=Ax/\n=y.size:=e
  subst e'
  exact PySem.W.len_bytes (by omega) ⟨.int _,H,I.tok _,⟨_,rfl⟩,q⟩
 | ref p =>
  cases rx
  have e':(∃xs,Za X.K H p xs/\n=xs.length)\/∃xs,Vi X.K H p xs/\n=xs.length:=e
  rcases e' with ⟨xs,hx,e'⟩ | ⟨xs,hx,e'⟩
  ·subst e'
   obtain ⟨its,r',pl,hz⟩:=I.list hx
   have hlen:=r'.length
   exact Calls.call_len_list pl.isList (by simp only[Aq]; omega) ⟨.int xs.length,H,I.tok _,⟨_,by simp only[Aq]; rw[hlen]⟩,q⟩
  ·subst e'
   obtain ⟨its,r',pl,hz⟩:=I.tuple hx
   have hlen:=r'.length
   exact len_tuple pl (by simp only[Aq]; omega) ⟨.int xs.length,H,I.tok _,⟨_,by simp only[Aq]; rw[hlen]⟩,q⟩
 | _=>exact (show False from e).elim
end
structure ObjM(h:Heap)(x dx C:Addr)(mA:Str->Option Value):Prop where
 obj:h.get? x=some (PySem.W.instObj C dx)
 ns:h.Ns1 dx mA
 ne:dx≠x
theorem uO{h:Heap}{dx:Addr}{mA:Str->Option Value}(n:h.Ns1 dx mA):∃od,h.get? dx=some od/\∀name,PySem.W.lookIn name od=some (mA name):=by
 obtain ⟨o,es,ep,ho,hd,hk,_,hm⟩:=n
 refine ⟨o,ho,λname=>?_⟩
 have e:=hm name
 unfold nsFind findBy at e
 rw[<- Array.find?_toList] at e
 unfold PySem.W.lookIn
 rw[hd]
 dsimp only
 split
 ·rename_i y q
  rw[q] at e
  exact congrArg some e
 ·rename_i q
  rw[q] at e
  have a:es.toList.any (·.refKey)=false:=by
   rw[List.any_eq_false]
   intro y hy
   obtain ⟨z,t,hkey⟩:=hk y (Array.mem_toList_iff.mp hy)
   simp [DictEntry.refKey,hkey]
  have a':¬ es.toList.any (·.refKey)=true:=by rw[a]; exact Hb
  rw[if_neg a']
  exact congrArg some e
theorem ObjM.look{h:Heap}{x dx C:Addr}{mA:Str->Option Value}(I:ObjM h x dx C mA):∃od,PySem.W.InstAt h x (PySem.W.instObj C dx) C (some od)/\∀name,PySem.W.lookIn name od=some (mA name) :=
 let ⟨od,ho,hl⟩:=uO I.ns
 ⟨od,⟨I.obj,rfl,rfl,ho⟩,hl⟩
section
variable{P:Bh}{w:World}{H H':Hp}{h h':Heap}{a C dx:Addr}{fs fs':List (Str×V)}
theorem G8(hok:Xg P w H h)(e:H a=some (.ins C dx fs)):∃mA,ObjM h a dx C mA/\(∀f,U5 (fs.lookup f) (mA f))/\PySem.Within mA (fs.map (·.1))/\fs.length<=1000/\H dx=some (.own a):=by
 obtain ⟨d,z,ne,ob,mA,n,r,q⟩:=(show Io P w H h a (.ins C dx fs) from hok a _ e)
 exact ⟨mA,⟨ob,n,ne⟩,r,q,z,d⟩
end
structure Cls(K:PySem.W.Frag)(C:Addr):Prop where
 pg:PySem.W.plainGet K C Jv=true
 hd:PySem.W.hasDictIn K C=true
 po:PySem.W.plainOver K C=true
 sa:PySem.W.findIn K (.ref C) "__setattr__" = some (some (.builtin "object.__setattr__"))
theorem Cls.get{K:PySem.W.Frag}{C:Addr}(c:Cls K C)(f:Str):PySem.W.plainGet K C f=true:=c.pg
section
variable{X:Cx}{pins:List (Addr×Obj)}{σ:St}{H:Hp}{s:Ah}{A:Cr}{E:Value->Ah->Prop}{Q:Value->Ah->Prop}{c:Value}{b:Bool}
inductive TyOf (K:PySem.W.Frag) (H:Hp):V->Value->Prop where
 | non:TyOf K H .non (.type "NoneType")
 | bl (x:Bool):TyOf K H (.bl x) (.type "bool")
 | int (i:Int):TyOf K H (.int i) (.type "int")
 | str (x:Str):TyOf K H (.str x) (.type "str")
 | flt (x:UInt64):TyOf K H (.flt x) (.type "float")
 | lst {a:Addr} {xs:List V} (e:H a=some (.lst xs)):TyOf K H (.ref a) (.type "list")
 | frz {a:Addr} {o:Obj} {xs:List V} (e:H a=some (.frz o (.lst xs))):TyOf K H (.ref a) (.type "list")
 | tup {a:Addr} {xs:List V} (e:H a=some (.tup xs)):TyOf K H (.ref a) (.type "tuple")
 | dK {a:Addr} {kvs:List (Zv×V)} (e:H a=some (.dK kvs)):TyOf K H (.ref a) (.type "dict")
 | dT {a:Addr} {kvs:List (List Zv×V)} (e:H a=some (.dT kvs)):TyOf K H (.ref a) (.type "dict")
 | ins {a C dx:Addr} {fs:List (Str×V)} (e:H a=some (.ins C dx fs)) (cl:Cls K C) (ha:PySem.W.findIn K (.ref C) "__class__" = some (some (.builtin "object.__class__")))
   (hn:PySem.W.specialIn K (.builtin "object.__class__") "__get__" = some (some (.builtin "getset_descriptor.__get__"))) (htk:PySem.W.takesIn K (.builtin "object.__class__")=some true)
   (hm:PySem.W.mroIn K C (.type "object")=some true):TyOf K H (.ref a) (.ref C)
theorem sS{x:V}{u t:Value}(I:Inv X pins σ H s)(rx:RelV x u)(ty:TyOf X.K H x t)(e:PySem.W.kitOne X.K t c=some b)(h:∀tk,Q (.bool b) { s with toks:=tk }):wpAny (model X.prog X.w) A (call (.builtin "isinstance") [u,c]) Q E s:=by
 cases ty with
 | non=>cases (show u=Ly from rx); exact PySem.W.kia_one PySem.W.kitx_none I.kIn Xx e (λz=>nomatch z) h
 | bl y=>cases (show u=Value.bool y from rx); exact PySem.W.kia_one PySem.W.kitx_bool I.kIn Xx e (λz=>nomatch z) h
 | int i=>obtain ⟨t,q⟩:=(show ∃t,u=Value.int i t from rx); cases q; exact PySem.W.kia_one PySem.W.kitx_int I.kIn Xx e (λz=>nomatch z) h
 | str y=>obtain ⟨t,q⟩:=(show ∃t,u=Value.str y t from rx); cases q; exact PySem.W.kia_one PySem.W.kitx_str I.kIn Xx e (λz=>nomatch z) h
 | flt y=>obtain ⟨t,q⟩:=(show ∃t,u=Value.float y t from rx); cases q; exact PySem.W.kia_one PySem.W.kitx_float I.kIn Xx e (λz=>nomatch z) h
 | @lst a xs ea =>
  cases (show u=Cf a from rx)
  obtain ⟨_,_,n,_,h1⟩:=(show Io X.prog X.w H s.heap a (.lst xs) from I.hok a _ ea)
  exact PySem.W.kia_one PySem.W.kitx_list I.kIn ⟨_,h1,rfl⟩ e (λz=>nomatch z) h
 | @frz a ob xs ea =>
  cases (show u=Cf a from rx)
  obtain ⟨_,_,_,n,_,h1⟩:=(show Io X.prog X.w H s.heap a (.frz ob (.lst xs)) from I.hok a _ ea)
  exact PySem.W.kia_one PySem.W.kitx_list I.kIn ⟨_,h1,rfl⟩ e (λz=>nomatch z) h
 | @tup a xs ea =>
  cases (show u=Cf a from rx)
  obtain ⟨_,_,_,p⟩:=(show Io X.prog X.w H s.heap a (.tup xs) from I.hok a _ ea)
  obtain ⟨o,h1,h2,_⟩:=p
  exact PySem.W.kia_one PySem.W.kitx_tuple I.kIn ⟨o,h1,h2⟩ e (λz=>nomatch z) h
 | @dK a kvs ea =>
  cases (show u=Cf a from rx)
  obtain ⟨_,_,vs,_,p⟩:=(show Io X.prog X.w H s.heap a (.dK kvs) from I.hok a _ ea)
  obtain ⟨o,es,ep,h1,h2,_⟩:=p
  exact PySem.W.kia_one PySem.W.kitx_dict I.kIn ⟨o,h1,h2.1⟩ e (λz=>nomatch z) h
 | @dT a kvs ea =>
  cases (show u=Cf a from rx)
  obtain ⟨_,_,xs,_,o,es,ep,h1,h2,_⟩:=(show Io X.prog X.w H s.heap a (.dT kvs) from I.hok a _ ea)
  exact PySem.W.kia_one PySem.W.kitx_dict I.kIn ⟨o,h1,h2.1⟩ e (λz=>nomatch z) h
 | @ins a C dx fs ea cl ha hn htk hm =>
  cases (show u=Cf a from rx)
  obtain ⟨mA,O,_⟩:=G8 I.hok ea
  obtain ⟨od,J,_⟩:=O.look
  exact PySem.W.kia_one (PySem.W.kitx_own (cl.get _) cl.hd ha hn htk hm) I.kIn J e (λz=>nomatch z) h
end
structure Room(k:Nat)(A:Cr):Prop where
 hd:A.handled=none
 dp:A.depth+3 * k+5<recursionLimit
 un:A.units+16 * k+200<cLine
 gd:A.guards=some []
theorem Room.mono{j k:Nat}{A:Cr}(r:Room k A)(h:j<=k):Room j A:=⟨r.hd,by have:=r.dp; omega,by have:=r.un; omega,r.gd⟩
theorem Room.deeper{k:Nat}{A:Cr}(r:Room (k+1) A)(env:Env):Room k (A.deeper env) :=
 ⟨r.hd,by have:=r.dp; show A.depth+1+3 * k+5<_; omega,by have:=r.un; show A.units+3+16 * k+200<_; omega,r.gd⟩
theorem Room.depth{k:Nat}{A:Cr}(r:Room k A):A.depth<recursionLimit:=by have:=r.dp; omega
theorem Room.units{k:Nat}{A:Cr}(r:Room k A):A.units+64<cLine:=by have:=r.un; omega
def DX:TA:=λ_ H Q=>Q [] H
def BQ(ta:TE)(tr:TA):TA:=λσ H Q=>ta σ H λx H1=>tr σ H1 λxs H2=>Q (x::xs) H2
section
variable{X:Cx}{e:Expr}{es:List Expr}{te:TE}{t:TA}{pos:Pos}
theorem Jk:PA X [] DX:=λ_ _ _ _ H Q I h=>Calls.spliced_nil ⟨[],H,I,.nil,h⟩
theorem Eb(ha:PE X e te)(hr:PA X es t)(hs:Bf (e::es) X.env=(false,eval e X.env)::Bf es X.env:=by rfl):PA X (e::es) (BQ te t):=by
 intro pos pins s σ H Q I h
 rw[hs]
 show wpAny _ _ (spliced ((false,eval e X.env)::Gn pos (Bf es X.env))) _ _ s
 refine Calls.spliced_cons (Gh (ha pins s σ H _ I h) λu s1 q0_ => ?_)
 obtain ⟨x,H1,I1,r1,q1⟩ := q0_
 exact Gh (hr pos pins s1 σ H1 _ I1 q1) λus s2 ⟨xs,H2,I2,r2,q2⟩=>⟨x::xs,H2,I2,.cons r1 r2,q2⟩
def HK(t:TA):TE:=λσ H Q=>t σ H λxs H1=>xs.length<=Ax/\∀p,H1 p=none->Q (.ref p) (upd H1 p (.tup xs))
def GI(t:TA):TE:=λσ H Q=>t σ H λxs H1=>xs.length<=Ax/\∀p,H1 p=none->Q (.ref p) (upd H1 p (.lst xs))
theorem o9{x1}(h:PA X es t):PE X (.Tuple es x1 pos) (HK t):=by
 intro pins s σ H Q I hq
 refine wpAny_Tuple_spliced (Gh (h pos pins s σ H _ I hq) λus s1 ⟨xs,H1,I1,r,z,q⟩=>⟨by rw[<- r.length]; exact z,?_⟩)
 have hf:H1 s1.heap.objs.size=none:=I1.hok.fresh (Al _)
 refine ⟨.ref s1.heap.objs.size,upd H1 s1.heap.objs.size (.tup xs),I1.laid (t':=s1.toks) (λb u e=>Aj _ e) (Al _) ?_,rfl,q _ hf⟩
 exact ⟨z,us,r,⟨_,Bi _ rfl,rfl,_,rfl⟩⟩
theorem zV(h:PA X es t):PE X (.List es pos) (GI t):=by
 intro pins s σ H Q I hq
 refine wpAny_List_spliced (Gh (h pos pins s σ H _ I hq) λus s1 ⟨xs,H1,I1,r,z,q⟩=>⟨by rw[<- r.length]; exact z,?_⟩)
 have hf:H1 s1.heap.objs.size=none:=I1.hok.fresh (Al _)
 refine ⟨.ref s1.heap.objs.size,upd H1 s1.heap.objs.size (.lst xs),I1.laid (t':=s1.toks) (λb u e=>Aj _ e) (Al _) ?_,rfl,q _ hf⟩
 exact ⟨z,us,0,r,Bi _ rfl⟩
end
abbrev Sp:=List V->Hp->VK->XK->Prop
abbrev nA:=List Env->Hp->Ah->XK->Value->Ah->Prop
structure Env0(P:Bh)(w:World)(K:PySem.W.Frag)(mg:Str->Option Value)(base:Heap)(A:Cr)(outer:List Env)(s:Ah)(H:Hp):Prop where
 frames:A.frames=some outer
 mod:Mod K mg base
 bs:∀b o,base.get? b=some o->s.heap.get? b=some o/\H b=none
 bsz:base.objs.size<=s.heap.objs.size
 funs:s.heap.FunFrames base outer
 frf:∀b∈Ot outer,H b=none
 hok:Xg P w H s.heap
 bare:Py s.gens
 tab:wC K mg base H
def CE(outer:List Env)(P:Bh)(w:World)(H:Hp)(s:Ah)(Q:VK)(u:Value)(s':Ah):Prop :=
 ∃v H',s'.os=s.os/\Py s'.gens/\Un (Ot outer) [] H H' s.heap s'.heap/\Xg P w H' s'.heap/\RelV v u/\Q v H'
def CR(CX:nA)(outer:List Env)(P:Bh)(w:World)(H:Hp)(s:Ah)(Q:VK)(E:XK)(r:Result)(s':Ah):Prop :=
 match r with
 | .ok (.ret u)=>CE outer P w H s Q u s'
 | .ok _=>False
 | .error e=>CX outer H s E e s'
structure FnOk(P:Bh)(w:World)(K:PySem.W.Frag)(mg:Str->Option Value)(base:Heap)(CX:nA)(k:Nat)(f:Addr)(fd:Bz)(ps:List Str)(sp:Sp):Prop where
 len:∀vs H Q E,sp vs H Q E->vs.length=ps.length
 run:∀(A:Cr) (outer:List Env) (s:Ah) (H:Hp) (args:Args) (us:List Value) (vs:List V) (Q:VK) (E:XK),Room k A->Env0 P w K mg base A outer s H->BindsTo s fd args (ps.zip us)->Fq vs us->sp vs H Q E ->
  Hv (model P w) A (.call (.ref f) args) (CR CX outer P w H s Q E) s
theorem FnOk.imp{P:Bh}{w:World}{K:PySem.W.Frag}{mg:Str->Option Value}{base:Heap}{CX:nA}{k:Nat}{f:Addr}{fd:Bz}{ps:List Str}{sp sp':Sp}(F:FnOk P w K mg base CX k f fd ps sp)(h:∀vs H Q E,sp' vs H Q E->sp vs H Q E):FnOk P w K mg base CX k f fd ps sp' :=
 ⟨λvs H Q E q=>F.len vs H Q E (h _ _ _ _ q),λA outer s H args us vs Q E hr he hb hv hs=>F.run A outer s H args us vs Q E hr he hb hv (h _ _ _ _ hs)⟩
section
variable{X:Cx}{pins:List (Addr×Obj)}{σ:St}{H:Hp}{s s':Ah}
theorem Inv.env0(I:Inv X pins σ H s):Env0 X.prog X.w X.K X.mg X.base X.A X.stack s H :=
 ⟨I.ok.frames,I.ok.mod,I.bs,Ba I.ok.bsz I.sz,I.stack,I.stkFree,I.hok,I.bare,I.ok.tab.un I.base⟩
theorem Inv.after{Q:VK}{u:Value}(I:Inv X pins σ H s)(h:CE X.stack X.prog X.w H s Q u s'):EP X pins σ Q u s':=by
 obtain ⟨v,H',os,bare,un,hok,r,q⟩:=h
 obtain ⟨hh,g,d,t,os'⟩:=s'
 obtain rfl:os'=s.os:=os
 exact ⟨v,H',I.call (h':=hh) (g':=g) (d':=d) (t':=t) (ch:=[]) un hok bare (λb z=>absurd z (by simp)),r,q⟩
end
def T5(sp:Sp)(dvs:List V)(E:XK)(t:TA):TE:=λσ H Q=>t σ H λvs H1=>sp (vs++dvs) H1 Q E
def Binds(K:PySem.W.Frag)(fd:Bz)(ps:List Str)(ds:List Value):Prop :=
 ∀(s:Ah) (us:List Value),K.In s.heap->(us++ds).length=ps.length->BindsTo s fd ⟨us,[]⟩ (ps.zip (us++ds))
theorem Binds.all{K:PySem.W.Frag}{fd:Bz}{ps:List Str}(h:∀us:List Value,us.length=ps.length->bindArgs fd ⟨us,[]⟩=pure (ps.zip us)):Binds K fd ps []:=λs us _ hl=>by
 rw[El] at hl ⊢
 exact .of_eq (h us hl)
def Mc(CX:nA)(X:Cx)(E:XK):Prop:=∀(pins:List (Addr×Obj)) (σ:St) (H:Hp) (s:Ah) (e:Value) (s':Ah),Inv X pins σ H s->CX X.stack H s E e s'->X.xe e s'
section
variable{X:Cx}{CX:nA}{k:Nat}{f C:Addr}{fd:Bz}{ps:List Str}{sp:Sp}{dvs:List V}{ds:List Value}{E:XK}{x m:Str}{p pos apos:Pos}{e o:Expr}{es:List Expr}{ta:TE}{t:TA}
theorem wM{pins:List (Addr×Obj)}{σ:St}{H:Hp}{s:Ah}{Q:VK}{us:List Value}{vs:List V}(F:FnOk X.prog X.w X.K X.mg X.base CX k f fd ps sp)(hr:Room k X.A)(hb:Binds X.K fd ps ds)(hd:Fq dvs ds)(hx:Mc CX X E)(I:Inv X pins σ H s)(r:Fq vs us)(h:sp (vs++dvs) H Q E):wpAny (model X.prog X.w) X.A (call (.ref f) us) (EP X pins σ Q) X.xe s:=by
 have r2:Fq (vs++dvs) (us++ds):=r.append hd
 have hl:(us++ds).length=ps.length:=by rw[<- r2.length]; exact F.len _ _ _ _ h
 refine wpAny_call (Je (F.run X.A X.stack s H ⟨us,[]⟩ (us++ds) (vs++dvs) Q E hr I.env0 (hb s us I.kIn hl) r2 h) λr s' hq=>?_)
 cases r with
 | error e=>exact hx pins σ H s e s' I hq
 | ok fl =>
  cases fl with
  | ret u=>exact I.after hq
  | next=>exact Fv hq
  | brk=>exact Fv hq
  | cont=>exact Fv hq
theorem Vx(F:FnOk X.prog X.w X.K X.mg X.base CX k f fd ps sp)(hr:Room k X.A)(hg:Gl X x)(hm:X.mg x=some (.ref f))(hk:PySem.W.keepIn X.K (.ref f)=true)(hb:Binds X.K fd ps ds)(hd:Fq dvs ds)(hx:Mc CX X E)(ha:PA X (e::es) t)(hdb:(x == ("__debug__" : Str))=false:=by decide)(he:Bf (e::es) X.env=(false,eval e X.env)::Bf es X.env:=by rfl)(hpl:(Gn pos (Bf es X.env)).any (·.1)=false:=by rfl):PE X (.Call (.Name x p) (e::es) [] pos) (T5 sp dvs E t):=by
 intro pins s σ H Q I h
 refine Lk (Sy I hg hm ?_ hdb)
 refine PySem.W.callWith_K (h₀:=X.base) I.ok.mod.kin hk (Gh (ha pos pins s σ H _ I h) λus s1 ⟨vs,H1,I1,r,q⟩=>⟨I1.kIn,?_⟩) he hpl
 exact wM F hr hb hd hx I1 r q
theorem vQ(F:FnOk X.prog X.w X.K X.mg X.base CX k f fd ps sp)(hr:Room k X.A)(hg:Gl X x)(hm:X.mg x=some (.ref f))(hk:PySem.W.keepIn X.K (.ref f)=true)(hb:Binds X.K fd ps ds)(hd:Fq dvs ds)(hx:Mc CX X E)(hdb:(x == ("__debug__" : Str))=false:=by decide):PE X (.Call (.Name x p) [] [] pos) (T5 sp dvs E DX):=by
 intro pins s σ H Q I h
 refine Lk (Sy I hg hm ?_ hdb)
 exact PySem.W.callWith_K0 I.kIn hk (wM (us:=[]) F hr hb hd hx I .nil h)
end
structure FnScope(N P:List Str)(sc:Scope):Prop where
 kind:sc.kind=.function
 co:sc.isCoroutine=false
 gen:sc.isGenerator=false
 nd:N.Nodup
 pre:N.take P.length=P
 par:∀x∈P,sc.names.lookup x=some .local\/sc.names.lookup x=some .cell
 nofree:∀y∈sc.names,y.2≠.free
theorem eG{kindOf:Str->Option Oj}{x:Str}:∀{binds:List (Str×Value)} {m:Str->Option Value},(∀v,(x,v)∉binds)->bindL kindOf binds m x=m x
 | [],_,_=>rfl
 | (n,v)::r,m,h=>by
  unfold bindL
  rw[eG λw hw=>h w (Ae _ hw)]
  split
  ·have : x≠n:=by rintro rfl; exact h v Aa
   simp [this]
  ·rfl
theorem eJ{kindOf:Str->Option Oj}{x:Str}:∀{binds:List (Str×Value)} {m:Str->Option Value},(∀v,(x,v)∉binds)->bindC kindOf binds m x=m x
 | [],_,_=>rfl
 | (n,v)::r,m,h=>by
  unfold bindC
  rw[eJ λw hw=>h w (Ae _ hw)]
  split
  ·rfl
  ·have : x≠n:=by rintro rfl; exact h v Aa
   simp [this]
theorem dZ{kindOf:Str->Option Oj}{x:Str}{v:Value}:∀{P:List Str} {vs:List Value} {i:Nat} {m:Str->Option Value},P.Nodup->P[i]? = some x->vs[i]? = some v->kindOf x=some .local->bindL kindOf (P.zip vs) m x=some v
 | [],_,_,_,_,h,_,_=>by simp at h
 | _::_,[],_,_,_,_,h,_=>by simp at h
 | p::P,w::vs,0,m,nd,h1,h2,hk=>by
  simp at h1 h2; subst h1; subst h2
  show bindL kindOf ((p,w)::P.zip vs) m p=_
  unfold bindL
  rw[eG λv hv=>(Cd.mp nd).1 (List.of_mem_zip hv).1,if_pos hk]
  simp
 | p::P,w::vs,i+1,m,nd,h1,h2,hk=>by
  show bindL kindOf ((p,w)::P.zip vs) m x=_
  unfold bindL
  exact dZ (i:=i) (Cd.mp nd).2 (by simpa using h1) (by simpa using h2) hk
theorem eS{kindOf:Str->Option Oj}{x:Str}{v:Value}:∀{P:List Str} {vs:List Value} {i:Nat} {m:Str->Option Value},P.Nodup->P[i]? = some x->vs[i]? = some v->kindOf x≠some .local->bindC kindOf (P.zip vs) m x=some v
 | [],_,_,_,_,h,_,_=>by simp at h
 | _::_,[],_,_,_,_,h,_=>by simp at h
 | p::P,w::vs,0,m,nd,h1,h2,hk=>by
  simp at h1 h2; subst h1; subst h2
  show bindC kindOf ((p,w)::P.zip vs) m p=_
  unfold bindC
  rw[eJ λv hv=>(Cd.mp nd).1 (List.of_mem_zip hv).1,if_neg hk]
  simp
 | p::P,w::vs,i+1,m,nd,h1,h2,hk=>by
  show bindC kindOf ((p,w)::P.zip vs) m x=_
  unfold bindC
  exact eS (i:=i) (Cd.mp nd).2 (by simpa using h1) (by simpa using h2) hk
def start(N:List Str)(vs:List V):St:=vs.map some++Ib (N.length - vs.length) none
def Hq(CX:nA)(P:Bh)(w:World)(K:PySem.W.Frag)(mg:Str->Option Value)(base:Heap)(N:List Str)(qual:Str)(scope:Scope)(f:Addr)(cd:Value)(A:Cr)(outer:List Env)(s:Ah)(H:Hp)(E:XK):Cx where
 prog:=P
 w:=w
 K:=K
 mg:=mg
 base:=base
 A:=A.deeper (Ed qual scope s.heap.objs.size f cd)
 N:=N
 s₀:=s
 H₀:=H
 env:=Ed qual scope s.heap.objs.size f cd
 outer:=outer
 stack:=Ed qual scope s.heap.objs.size f cd::outer
 ex:=[]
 calm:=true
 fn:=λ_=>true
 pn:=[]
 xe:=λe s'=>wpAny (model P w) (A.deeper (Ed qual scope s.heap.objs.size f cd)) (leaving (Ed qual scope s.heap.objs.size f cd) e) (λ_ s''=>CX outer H s E e s'') (λe' s''=>CX outer H s E e' s'') s'
theorem mC{sc:Scope}{n:Nat}{x:Str}(h:sc.names.lookup x=some .cell):∃c,(Ea n sc.names []).lookup x=some c:=by
 have q:=PySem.W.cellsFrom_some sc.names n [] (.inl h)
 exact Pq.mp q
theorem sV{CX:nA}{P:Bh}{w:World}{K:PySem.W.Frag}{mg:Str->Option Value}{base:Heap}{N ps:List Str}{qual:Str}{scope:Scope}{f:Addr}{cd:Value}{A:Cr}{outer:List Env}{s s1:Ah}{H:Hp}{E:XK}{us:List Value}{vs:List V}(S:FnScope N ps scope)(hd:A.handled=none)(e0:Env0 P w K mg base A outer s H)(hl:vs.length=ps.length)(r:Fq vs us)(x:InCallC s s.heap.objs.size (bindL (Ed qual scope s.heap.objs.size f cd).kindOf (ps.zip us) λ_=>none) (Ea (s.heap.objs.size+1) scope.names []) (bindC (Ed qual scope s.heap.objs.size f cd).kindOf (ps.zip us) λ_=>none) s1):Inv (Hq CX P w K mg base N qual scope f cd A outer s H E) [] (start N vs) H s1:=by
 have hpl:ps.length<=N.length:=by have:=congrArg Fs S.pre; rw[Da] at this; omega
 obtain ⟨h1,tk,rfl,hk⟩:=x.done
 have noA:∀b:Addr,b∉(Hq CX P w K mg base N qual scope f cd A outer s H E).ex:=λb z=>absurd (show b∈([]:List Addr) from z) (by simp)
 refine ⟨⟨e0.mod,S.kind,rfl,rfl,Al _,λy z c h1 h2=>?_,λy hy=>?_,λy c _ h=>?_,λ_=>hd,Around.frames_deeper e0.frames,.inr ⟨rfl,rfl⟩,λb z=>absurd z (noA b),e0.bs,e0.bsz,λb _ _=>noA b,λb z=>absurd z (noA b),e0.funs,e0.frf,e0.tab⟩,
  rfl,e0.bare,Un.kept hk,⟨_,x.toInCall.ns,λi y v h1 h2 h3=>?_⟩,λy c h=>⟨_,x.cell y c h⟩,e0.hok.fresh (Al _),λy c h=>?_,λp hp=>absurd (show p∈([]:List (Addr×Obj)) from hp) (by simp),e0.hok.kept hk,?_⟩
 ·exact name_of_addr x.apart (PySem.mem_of_lookup h1) (PySem.mem_of_lookup h2)
 ·have hy:scope.names.lookup y=some .cell\/scope.names.lookup y=some .free:=hy
  rcases hy with hy | hy
  ·exact mC hy
  ·exact absurd rfl (S.nofree _ (PySem.mem_of_lookup hy))
 ·exact Iy (x.above y c (PySem.mem_of_lookup h))
 ·have hi:i<vs.length:=by
   unfold start at h2
   by_cases hi:i<vs.length
   ·exact hi
   ·rw[Jl (by simpa using hi)] at h2
    rw[List.getElem?_replicate] at h2
    split at h2 <;> cases h2
  have ha:vs[i]? = some v:=by
   unfold start at h2
   rw[Jx (by simpa using hi),Cn] at h2
   cases e:vs[i]? with
   | none=>rw[e] at h2; cases h2
   | some a=>rw[e] at h2; cases h2; rfl
  obtain ⟨u,hu,rv⟩:=r.get ha
  have hp:ps[i]? = some y:=by
   rw[<- S.pre,mZ (by omega)]; exact h1
  have ndP:ps.Nodup:=by rw[<- S.pre]; exact S.nd.sublist (Gj _ _)
  refine ⟨u,rv,?_⟩
  rcases S.par y (Ay hp) with k | k
  ·exact .inl ⟨k,dZ ndP hp hu k⟩
  ·obtain ⟨c,e⟩:=mC (n:=s.heap.objs.size+1) k
   refine .inr ⟨.inl k,c,e,?_⟩
   have q:=x.cell y c e
   rw[eS ndP hp hu (by show scope.names.lookup y≠_; rw[k]; decide)] at q
   exact q
 ·exact e0.hok.fresh (Iy (x.above y c (PySem.mem_of_lookup h)))
 ·unfold start
  show _=N.length
  rw[Be,Ab,List.length_replicate]
  omega
theorem Q9{CX:nA}{P:Bh}{w:World}{K:PySem.W.Frag}{mg:Str->Option Value}{base:Heap}{k:Nat}{f:Addr}{name qual:Str}{params:Arguments}{body:List Stmt}{scope:Scope}{dV kV doc pm cdv ct oc:Value}{an od:Option Addr}{osl:Array (Option Value)}{N ps:List Str}{sp:Sp}(lk:K.lookup f=some ⟨oc,od,.func (PySem.W.fnOf name qual params body scope dV kV doc pm an cdv ct),osl⟩)(hcd:PySem.W.codeIn K cdv qual=true)(S:FnScope N ps scope)(len:∀vs H Q E,sp vs H Q E->vs.length=ps.length)(hbody:∀(A:Cr) (outer:List Env) (s:Ah) (H:Hp) (vs:List V) (Q:VK) (E:XK),Room k (A.deeper (Ed qual scope s.heap.objs.size f cdv))->sp vs H Q E->∃t,cM (Hq CX P w K mg base N qual scope f cdv A outer s H E) body t/\t { nx:=λ_ H'=>Q .non H',rt:=Q } (start N vs) H):FnOk P w K mg base CX (k+1) f (PySem.W.fnOf name qual params body scope dV kV doc pm an cdv ct) ps sp:=by
 refine ⟨len,λA outer s H args us vs Q E hr e0 hb r hsp=>?_⟩
 have hl:=len _ _ _ _ hsp
 have KX:K.In s.heap:=e0.mod.kin.keeps λb o e=>(e0.bs b o e).1
 have lim:s.heap.NoLimit:=e0.mod.nolimit.keeps λb o e=>(e0.bs b o e).1
 have hkind:∀y∈ps.zip us,scope.names.lookup y.1=some .local\/(scope.names.lookup y.1=some .cell/\((Ea (s.heap.objs.size+1) scope.names []).lookup y.1).isSome=true):=λ⟨n,v⟩ hy=>by
  rcases S.par n (List.of_mem_zip hy).1 with q | q
  ·exact .inl q
  ·exact .inr ⟨q,PySem.W.cellsFrom_some _ _ _ (.inl q)⟩
 refine codeAny_call_function hr.depth (KX _ _ lk) rfl S.co S.gen rfl (PySem.W.codeRec_of KX hcd) (hb _ _ _ _ ?_)
 refine wpAny_newFunctionEnv_cells S.kind hkind λenv he s1 x=>?_
 subst he
 refine ⟨lim.keeps x.toInCall.keep,codeAny_func ?_⟩
 obtain ⟨t,ht,hq⟩:=hbody A outer s H vs Q E (hr.deeper _) hsp
 have I:Inv (Hq CX P w K mg base N qual scope f cdv A outer s H E) [] (start N vs) H s1:=sV S hr.hd e0 hl r x
 refine Dn (ht [] s1 (start N vs) H _ I hq) (λfl s' hs=>?_) λe s' hs=>hs
 have fin:∀{σ':St} {H':Hp} {v:V} {u:Value},Inv (Hq CX P w K mg base N qual scope f cdv A outer s H E) [] σ' H' s'->RelV v u->Q v H'->CE outer P w H s Q u s' :=
  λ{σ' H' v u} J rv q=>⟨v,H',J.os,J.bare,J.base,J.hok,rv,q⟩
 cases fl with
 | ret u =>
  obtain ⟨v,σ',H',J,rv,q⟩:=hs
  exact fin J rv q
 | next =>
  obtain ⟨σ',H',J,q⟩:=hs
  exact fin (v:=V.non) (u:=Ly) J rfl q
 | brk =>
  obtain ⟨_,_,_,q⟩:=hs
  exact Fv q
 | cont =>
  obtain ⟨_,_,_,q⟩:=hs
  exact Fv q
section
variable{X:Cx}{x:Str}{p pos:Pos}{e:Expr}{es:List Expr}{t:TA}{id T:String}{r:List V->Hp->VK->Prop}
def FQ(r:List V->Hp->VK->Prop)(t:TA):TE:=λσ H Q=>t σ H λvs H1=>r vs H1 Q
theorem Pf(hc:Kb X (.builtin id) r)(hg:Gl X x)(hm:X.mg x=none)(hv:Hw x=some (.builtin id))(ha:PA X (e::es) t)(hn:x ≠ "__name__" := by decide)(hdb:(x == ("__debug__" : Str))=false:=by decide)(he:Bf (e::es) X.env=(false,eval e X.env)::Bf es X.env:=by rfl)(hpl:(Gn pos (Bf es X.env)).any (·.1)=false:=by rfl):PE X (.Call (.Name x p) (e::es) [] pos) (FQ r t):=by
 intro pins s σ H Q I h
 refine Lk (gG I hg hm hv ?_ hn hdb)
 exact PyProof.Rows.callWith_builtin1 (Gh (ha pos pins s σ H _ I h) λus s1 ⟨vs,H1,I1,r1,q1⟩=>hc pins s1 σ H1 vs us Q I1 r1 q1) he hpl
theorem Su(hc:Kb X (.type T) r)(hg:Gl X x)(hm:X.mg x=none)(hv:Hw x=some (.type T))(ha:PA X (e::es) t)(hn:x ≠ "__name__" := by decide)(hdb:(x == ("__debug__" : Str))=false:=by decide)(he:Bf (e::es) X.env=(false,eval e X.env)::Bf es X.env:=by rfl)(hpl:(Gn pos (Bf es X.env)).any (·.1)=false:=by rfl):PE X (.Call (.Name x p) (e::es) [] pos) (FQ r t):=by
 intro pins s σ H Q I h
 refine Lk (gG I hg hm hv ?_ hn hdb)
 exact Wp (Gh (ha pos pins s σ H _ I h) λus s1 ⟨vs,H1,I1,r1,q1⟩=>hc pins s1 σ H1 vs us Q I1 r1 q1) he hpl
end
end L2
namespace HT
open PySem PyProof.Rows
def lexLt:List Int->List Int->Bool
 | [],[]=>false
 | [],_::_=>true
 | _::_,[]=>false
 | x::xs,y::ys=>if x=y then lexLt xs ys else decide (x<y)
theorem lexLt_cons(x y:Int)(xs ys:List Int):lexLt (x::xs) (y::ys)=if x=y then lexLt xs ys else decide (x<y):=rfl
section
variable{prog:Bh}{w:World}{A:Cr}{E:Value->Ah->Prop}{s:Ah}
theorem cat_tup{t b:Addr}{vs ws:List Value}{Q:Value->Ah->Prop}(ht:IsTup s.heap t vs.toArray)(hb:IsTup s.heap b ws.toArray)(hv:vs≠[])(h1:ws=[]->Q (.ref t) s)(h2:ws≠[]->Q (.ref s.heap.objs.size) { s with heap:=s.heap.push { cls:=.type "tuple",data:=.seq (vs++ws).toArray } })(hsz:vs.length+ws.length<=Ax):wpAny (model prog w) A (Jj .Add (.ref t) (.ref b)) Q E s:=by
 obtain ⟨⟨cls,dd,data,sl⟩,ho,hc,n,hd⟩:=id ht
 obtain ⟨⟨cls2,dd2,data2,sl2⟩,ho2,hc2,n2,hd2⟩:=id hb
 simp only at hc hd hc2 hd2
 subst hc hd hc2 hd2
 have e:vs.toArray++ws.toArray=(vs++ws).toArray:=by simp
 by_cases hw:ws=[]
 ·exact concat_meets ⟨_,ho,rfl⟩ ⟨_,ho2,rfl⟩ jL seq_tuple_add PySem.F.slot_tuple_add PySem.F.entry_tuple_add (PySem.F.args_tuple_add_2 _ _)
   (tuple_addW1 t b vs.toArray ws.toArray n n2 dd dd2 sl sl2 (by simpa using hv) (by simp [hw])) ⟨ho,ho2,h1 hw⟩
 ·refine concat_meets ⟨_,ho,rfl⟩ ⟨_,ho2,rfl⟩ jL seq_tuple_add PySem.F.slot_tuple_add PySem.F.entry_tuple_add (PySem.F.args_tuple_add_2 _ _)
   (tuple_addW2 t b vs.toArray ws.toArray n n2 dd dd2 sl sl2 (by simpa using hv) (by simpa using hw) (by rw[Aq,Aq]; exact hsz)) ⟨ho,ho2,?_⟩
  rw[e]
  exact h2 hw
def sIx(n d:Nat):Option Int->Nat
 | none=>d
 | some v=>if v<0 then (v+(n:Int)).toNat else min v.toNat n
theorem sIx_none(n d:Nat):sIx n d none=d:=rfl
theorem sIx_nat(n d k:Nat):sIx n d (some (k:Int))=min k n:=by
 show (if (k:Int)<0 then ((k:Int)+(n:Int)).toNat else min (k:Int).toNat n)=min k n
 rw[if_neg (by omega),Qs]
theorem AM(n d:Nat)(hd:d<=n)(o:Option Int):sIx n d o<=n:=by
 cases o with
 | none=>exact hd
 | some v =>
  show (if v<0 then (v+(n:Int)).toNat else min v.toNat n)<=n
  by_cases hv:v<0
  ·rw[if_pos hv]; omega
  ·rw[if_neg hv]; exact Nat.min_le_right _ _
theorem rZ(v:Int)(n d:Nat):(if v<0 then max (v+(n:Int)) 0 else min v (n:Int))=((sIx n d (some v):Nat):Int):=by
 show (if v<0 then max (v+(n:Int)) 0 else min v (n:Int))=(((if v<0 then (v+(n:Int)).toNat else min v.toNat n):Nat):Int)
 by_cases hv:v<0
 ·simp only[if_pos hv]; omega
 ·simp only[if_neg hv]; omega
theorem nK(lo hi:Option Int)(n:Nat):Mn lo hi 1 (n:Int)=(((sIx n 0 lo:Nat):Int),((sIx n n hi:Nat):Int)):=by
 have h1:¬ ((1:Int)<0):=by omega
 unfold Mn
 simp only[h1,if_false]
 refine Prod.ext ?_ ?_
 ·cases lo with
  | none=>rfl
  | some v=>exact rZ v n 0
 ·cases hi with
  | none=>rfl
  | some v=>exact rZ v n n
theorem oD(i j:Nat):Iz (i:Int) (j:Int) 1=j - i:=by
 unfold Iz
 have h1:(1:Int) > 0:=by omega
 simp only[h1,if_true,Int.ediv_one]
 split <;> omega
theorem aG{v:Value}{o:Option Int}{Q:Option Int->Ah->Prop}(p:Yw v o)(h:Q o s):wpAny (model prog w) A (Builtin.Slice.slicePartIndex v) Q E s:=by
 cases p with
 | none=>exact slicePart_none h
 | int i t=>exact slicePart_int h
theorem sliceApplied_gen{sl:Addr}{vl vu:Value}{lo hi:Option Int}{n:Nat}{Q:Int×Int×Nat->Ah->Prop}(hs:s.heap.IsSliceOf sl vl vu .none)(pl:Yw vl lo)(pu:Yw vu hi)(h:Q (((sIx n 0 lo:Nat):Int),1,sIx n n hi - sIx n 0 lo) s):wpAny (model prog w) A (Wu (.ref sl) (pure (n:Int))) Q E s:=by
 obtain ⟨os,hos,hcs,hds⟩:=id hs
 unfold Wu Builtin.Slice.sliceFields
 refine Ac (Ac (Yp hos hds (x:=vl) rfl (Ac (Yp hos hds (x:=vu) rfl (Ac (Yp hos hds (x:=.none) rfl (Ao ?_)))))))
 refine Ac (slicePart_none ?_)
 show wpAny _ _ (if ((1:Int) == 0)=true then _ else _) _ _ s
 rw[if_neg (by decide)]
 refine Ac (aG pl (Ac (aG pu (Ac (Ao ?_)))))
 show wpAny _ _ (match Mn lo hi 1 (n:Int) with | (lo,hi)=>pure (lo,(1:Int),Iz lo hi 1)) _ _ s
 rw[nK lo hi n]
 show wpAny _ _ (pure (((sIx n 0 lo:Nat):Int),(1:Int),Iz ((sIx n 0 lo:Nat):Int) ((sIx n n hi:Nat):Int) 1)) _ _ s
 rw[oD]
 exact Ao h
theorem zH(xs:Array Value)(i k:Nat):((Cc k).filterMap λ(m:Nat)=>xs[((i:Int)+(m:Int) * 1).toNat]?).toArray=((xs.toList.drop i).take k).toArray:=by
 have e:(λ(m:Nat)=>xs[((i:Int)+(m:Int) * 1).toNat]?)=λm=>xs[i+m]?:=by
  funext m
  have : ((i:Int)+(m:Int) * 1).toNat=i+m:=by omega
  rw[this]
 rw[e]
 have:=pick_run xs i k
 rw[List.filterMap_map] at this
 have e2:((λx=>xs[x]?) ∘ λx=>i+x)=λm=>xs[i+m]?:=rfl
 rw[e2] at this
 rw[this]
theorem getItem_tuple_cut{t sl:Addr}{items:Array Value}{vl vu:Value}{lo hi:Option Int}{Q:Value->Ah->Prop}(ht:IsTup s.heap t items)(hs:s.heap.IsSliceOf sl vl vu .none)(pl:Yw vl lo)(pu:Yw vu hi)(hw:¬ (sIx items.size 0 lo=0/\sIx items.size items.size hi=items.size))(h:Q (.ref s.heap.objs.size) { s with heap:=s.heap.push { cls:=.type "tuple",data:=.seq ((items.toList.drop (sIx items.size 0 lo)).take (sIx items.size items.size hi - sIx items.size 0 lo)).toArray } })(hsz:items.size<=Ax):wpAny (model prog w) A (getItem (.ref t) (.ref sl)) Q E s:=by
 have htake:sizeOk (.seq ((items.toList.drop (sIx items.size 0 lo)).take (sIx items.size items.size hi - sIx items.size 0 lo)).toArray):=by
  show ((items.toList.drop (sIx items.size 0 lo)).take (sIx items.size items.size hi - sIx items.size 0 lo)).toArray.size<=Ax
  rw[Aq,Da,Rc,Ag]
  omega
 have hj:sIx items.size items.size hi<=items.size:=AM _ _ (Al _) hi
 obtain ⟨os,hos,hcs,hds⟩:=id hs
 have hTs:s.TypeIs (.ref sl) "slice" := ⟨os,hos,hcs⟩
 unfold getItem
 try with_reducible refine Dq ?_
 first | refine Ac (Ao ?_) | skip
 refine Ac (wpAny_sequenceKey ht.typeIs (by decide) ?_)
 refine Ac (Lw (name:=Ju "__getitem__") ht.typeIs Eo
  (Iq Eo ht.typeIs entry_tuple_getitem ?_ (args_tuple_getitem _ _)))
 show wpAny _ _ (Ws (.ref t) >>= _) _ _ s
 refine Ac (tupleItemsOf_ ht ?_)
 refine Ac (Vb hTs ?_)
 rw[if_pos (by decide)]
 refine Ac (sliceApplied_gen hs pl pu ?_)
 have hno:¬ ((((sIx items.size 0 lo:Nat):Int) == 0 && (1:Int) == 1 && (sIx items.size items.size hi - sIx items.size 0 lo) == items.size)=true):=by
  intro q
  rw[Di,Di] at q
  have q1:((sIx items.size 0 lo:Nat):Int)=0:=Qp q.1.1
  have q2:sIx items.size items.size hi - sIx items.size 0 lo=items.size:=Qp q.2
  exact hw ⟨by omega,by omega⟩
 show wpAny _ _ (if (((sIx items.size 0 lo:Nat):Int) == 0 && (1:Int) == 1 && (sIx items.size items.size hi - sIx items.size 0 lo) == items.size)=true then _ else _) _ _ s
 rw[if_neg hno,zH]
 first
  | exact Ac (m:=Jf _) (Ey (Ao ⟨_,rfl,Ao h⟩) htake)
  | exact Ac (m:=Jf _) (Ey (Ac (Ao (Ao ⟨_,rfl,Ao h⟩))) htake)
  | exact Ac (Ac (m:=Jf _) (Ey (Ao (Ao ⟨_,rfl,Ao h⟩)) htake))
  | exact Ac (Ac (m:=Jf _) (Ey (Ao ⟨_,rfl,Ao h⟩) htake))
end
end HT
namespace L2
open PySem PySem.Spec PyProof.Rows
abbrev TO:=St->Hp->(Option Int->Hp->Prop)->Prop
def PO(X:Cx)(e:Option Expr)(t:TO):Prop :=
 ∀(pins:List (Addr×Obj)) (s:Ah) (σ:St) (H:Hp) (Q:Option Int->Hp->Prop),Inv X pins σ H s->t σ H Q ->
  wpAny (model X.prog X.w) X.A (evalPart e X.env) (λu s'=>∃o H',Inv X pins σ H' s'/\Yw u o/\Q o H') X.xe s
def N5:TO:=λ_ H Q=>Q none H
def EO(t:TE):TO:=λσ H Q=>t σ H λx H1=>∃i,x=.int i/\Q (some i) H1
theorem intsAre_of{ns:List Int}:∀{us:List Value},Fq (ns.map V.int) us->Nw us ns:=by
 induction ns with
 | nil=>intro us r; rw[List.map_nil] at r; cases r; exact .nil
 | cons n ns ih =>
  intro us r
  rw[Ar] at r
  cases r with
  | cons r1 r2 =>
   obtain ⟨t,e⟩:=r1
   subst e
   exact .cons n t (ih r2)
section
variable{X:Cx}{e:Expr}{te:TE}{lo hi:Option Expr}{tl th:TO}{pos p2:Pos}
theorem E5:PO X none N5:=by
 intro pins s σ H Q I h
 rw[evalPart_none]
 exact Ao ⟨none,H,I,.none,h⟩
theorem A0(h:PE X e te):PO X (some e) (EO te):=by
 intro pins s σ H Q I hw
 rw[evalPart_some]
 refine Gh (h pins s σ H _ I hw) λu s1 q0_ => ?_
 obtain ⟨x,H1,I1,r1,q1⟩ := q0_
 obtain ⟨i,rfl,q⟩:=q1
 obtain ⟨t,rfl⟩:=r1
 exact ⟨some i,H1,I1,.int i t,q⟩
def AF(X:Cx)(r:V->Option Int->Option Int->Hp->VK->Prop):Prop :=
 ∀(pins:List (Addr×Obj)) (s:Ah) (σ:St) (H:Hp) (x:V) (v vl vu:Value) (lo hi:Option Int) (sl:Addr) (Q:VK),Inv X pins σ H s->RelV x v->s.heap.IsSliceOf sl vl vu .none->Yw vl lo->Yw vu hi->r x lo hi H Q ->
  ∃T id,typeLookup (.type T) "__getitem__" = pure (some (.builtin id))/\s.TypeIs v T/\wpAny (model X.prog X.w) X.A (getItem v (.ref sl)) (EP X pins σ Q) X.xe s
theorem AF.or{r r':V->Option Int->Option Int->Hp->VK->Prop}(h:AF X r)(h':AF X r'):AF X (λx lo hi H Q=>r x lo hi H Q\/r' x lo hi H Q):=by
 intro pins s σ H x v vl vu lo hi sl Q I rx hs pl pu q
 rcases q with q | q
 ·exact h pins s σ H x v vl vu lo hi sl Q I rx hs pl pu q
 ·exact h' pins s σ H x v vl vu lo hi sl Q I rx hs pl pu q
def IL(r:V->Option Int->Option Int->Hp->VK->Prop)(te:TE)(tl th:TO):TE:=λσ H Q=>te σ H λx H1=>tl σ H1 λl H2=>th σ H2 λu H3=>r x l u H3 Q
theorem jQ{r:V->Option Int->Option Int->Hp->VK->Prop}(hr:AF X r)(he:PE X e te)(hl:PO X lo tl)(hu:PO X hi th):PE X (.Subscript e (.Slice lo hi none p2) pos) (IL r te tl th):=by
 intro pins s σ H Q I h
 refine Subscript_ (Gh (he pins s σ H _ I h) λv s1 q0_ => ?_)
 obtain ⟨x,H1,I1,r1,q1⟩ := q0_
 refine wpAny_Slice (Gh (hl pins s1 σ H1 _ I1 q1) λvl s2 ⟨l,H2,I2,pl,q2⟩=>Gh (hu pins s2 σ H2 _ I2 q2) λvu s3 q0_ => ?_)
 obtain ⟨u,H3,I3,pu,q3⟩ := q0_
 rw[evalPart_none]
 refine Ao ?_
 have I4:Inv X pins σ H3 { s3 with heap:=s3.heap.push { cls:=.type "slice",data:=.fields #[vl,vu,.none] } }:=I3.kept (t':=s3.toks) λb ob q=>Aj _ q
 obtain ⟨T,id,hT,ht,hg⟩:=hr pins { s3 with heap:=s3.heap.push { cls:=.type "slice",data:=.fields #[vl,vu,.none] } } σ H3 x v vl vu l u s3.heap.objs.size Q I4 r1 (Heap.IsSliceOf.new ..) pl pu q3
 show wpAny (model X.prog X.w) X.A (subscriptTail e (.Slice lo hi none p2) v (.ref s3.heap.objs.size)) (EP X pins σ Q) X.xe { s3 with heap:=s3.heap.push { cls:=.type "slice",data:=.fields #[vl,vu,.none] } }
 exact tail_any (ops:=[.ref s3.heap.objs.size,v]) ht hT hg (by with_unfolding_all rfl)
def bV(xs:List V)(lo hi:Option Int):List V:=(xs.drop (HT.sIx xs.length 0 lo)).take (HT.sIx xs.length xs.length hi - HT.sIx xs.length 0 lo)
theorem Yg(xs:List V)(lo hi:Option Int):(bV xs lo hi).length<=xs.length:=by
 unfold bV
 rw[Da,Rc]
 omega
def GW(K:PySem.W.Frag):V->Option Int->Option Int->Hp->VK->Prop:=λx lo hi H Q=>∃a xs,x=.ref a/\Vi K H a xs /\
 ¬ (HT.sIx xs.length 0 lo=0/\HT.sIx xs.length xs.length hi=xs.length)/\∀p,H p=none->Q (.ref p) (upd H p (.tup (bV xs lo hi)))
theorem Y2:AF X (GW X.K):=by
 intro pins s σ H x v vl vu lo hi sl Q I rx hs pl pu h
 obtain ⟨a,xs,rfl,hx,hw,q⟩:=h
 cases rx
 obtain ⟨its,r,ht,hz⟩:=I.tuple hx
 have hlen:its.toArray.size=xs.length:=by rw[Aq]; exact r.length.symm
 refine ⟨"tuple",_,Eo.lookup,ht.typeIs,?_⟩
 refine HT.getItem_tuple_cut ht hs pl pu (by rw[hlen]; exact hw) ?_ (by rw[hlen]; exact hz)
 rw[hlen]
 refine ⟨.ref s.heap.objs.size,_,I.laid (t':=s.toks) (o:=.tup (bV xs lo hi)) (λb ob q=>Aj _ q) (Al _) ?_,rfl,q _ (I.hok.fresh (Al _))⟩
 exact ⟨Ba (Yg xs lo hi) hz,_,(r.drop (HT.sIx xs.length 0 lo)).take (HT.sIx xs.length xs.length hi - HT.sIx xs.length 0 lo),IsTup.new _ _⟩
def ES(K:PySem.W.Frag):R2:=λx y H Q=>∃a b xs ys,x=.ref a/\y=.ref b/\Vi K H a xs/\Vi K H b ys/\xs≠[]/\xs.length+ys.length<=Ax /\
 (ys=[]->Q (.ref a) H)/\(ys≠[]->∀p,H p=none->Q (.ref p) (upd H p (.tup (xs++ys))))
theorem Fq.nil_iff{xs:List V}{us:List Value}(r:Fq xs us):us=[]↔xs=[]:=by
 cases r with
 | nil=>simp
 | cons _ _=>simp
theorem E8:Ue X (Jj .Add) (ES X.K):=by
 intro pins s σ H x y v u Q I rx ry h
 obtain ⟨a,b,xs,ys,rfl,rfl,ha,hb,hx,hz,q1,q2⟩:=h
 cases rx
 cases ry
 obtain ⟨its,r1,p1,_⟩:=I.tuple ha
 obtain ⟨its2,r2,p2,_⟩:=I.tuple hb
 refine HT.cat_tup p1 p2 (λz=>hx (r1.nil_iff.mp z)) (λz=>⟨.ref a,H,I,rfl,q1 (r2.nil_iff.mp z)⟩) (λz=>?_) (by rw[<- r1.length,<- r2.length]; exact hz)
 refine ⟨.ref s.heap.objs.size,_,I.laid (t':=s.toks) (o:=.tup (xs++ys)) (λb ob q=>Aj _ q) (Al _) ?_,rfl,q2 (λw=>z (r2.nil_iff.mpr w)) _ (I.hok.fresh (Al _))⟩
 exact ⟨by rw[Be]; exact hz,_,r1.append r2,IsTup.new _ _⟩
end
def oH(n:Nat)(i:Int):Option Nat:=if 0<=i then (if i<n then some i.toNat else none) else if -(n:Int)<=i then some (i+n).toNat else none
def Re{α:Type}(xs:List α)(i:Int):Option α:=(oH xs.length i).bind λj=>xs[j]?
theorem qS{n:Nat}{i:Int}{j:Nat}(h:oH n i=some j):seqIndex? i n=some j/\j<n /\ -(n:Int)<=i/\i<n:=by
 unfold oH at h
 by_cases h0:0<=i
 ·rw[if_pos h0] at h
  by_cases h1:i<n
  ·rw[if_pos h1] at h
   have e:i.toNat=j:=Br h
   exact ⟨by rw[seqIndex_of h0 h1,e],by omega,by omega,h1⟩
  ·rw[if_neg h1] at h; cases h
 ·rw[if_neg h0] at h
  by_cases h1:-(n:Int)<=i
  ·rw[if_pos h1] at h
   have e:(i+n).toNat=j:=Br h
   exact ⟨by rw[seqIndex_neg (by omega) h1,e],by omega,h1,by omega⟩
  ·rw[if_neg h1] at h; cases h
theorem iB{α:Type}{xs:List α}{i:Int}{v:α}(h:Re xs i=some v):∃j,seqIndex? i xs.length=some j/\xs[j]? = some v/\j<xs.length /\ -(xs.length:Int)<=i/\i<xs.length:=by
 unfold Re at h
 cases e:oH xs.length i with
 | none=>rw[e] at h; cases h
 | some j =>
  rw[e] at h
  obtain ⟨h1,h2,h3,h4⟩:=qS e
  exact ⟨j,h1,h,h2,h3,h4⟩
theorem Zf{α:Type}{xs:List α}{j:Nat}{v:α}(h:xs[j]? = some v):Re xs (j:Int)=some v:=by
 have hj:j<xs.length:=(Av.mp h).1
 have e:oH xs.length (j:Int)=some j:=by
  unfold oH
  rw[if_pos (by omega),if_pos (by omega)]; simp
 unfold Re; rw[e]; exact h
theorem mW{α:Type}(xs:List α)(v:α):Re (xs++[v]) (-1)=some v:=by
 have hl:(xs++[v]).length=xs.length+1:=by simp
 have e:oH (xs++[v]).length (-1)=some xs.length:=by
  unfold oH
  rw[hl,if_neg (by decide),if_pos (by omega)]
  congr 1
  omega
 unfold Re
 rw[e]
 show (xs++[v])[xs.length]? = some v
 simp
def iS(b:Expr):Prop:=∀o i,subscripted b false o i=operate [o,i] (getItem o i)
def L4(X:Cx)(r:R2):Prop :=
 ∀(value slice:Expr) (pins:List (Addr×Obj)) (s:Ah) (σ:St) (H:Hp) (x y:V) (v u:Value) (Q:VK),Inv X pins σ H s->RelV x v->RelV y u->r x y H Q ->
  subscripted slice false v u=operate [v,u] (getItem v u)->wpAny (model X.prog X.w) X.A (subscriptTail value slice v u) (EP X pins σ Q) X.xe s
def IX(X:Cx)(id:String)(r:V->List V->Hp->VK->Prop):Prop :=
 ∀(pins:List (Addr×Obj)) (s:Ah) (σ:St) (H:Hp) (x:V) (xs:List V) (v:Value) (us:List Value) (Q:VK),Inv X pins σ H s->RelV x v->Fq xs us->r x xs H Q ->
  wpAny (model X.prog X.w) X.A (call (.builtin id) (v::us)) (EP X pins σ Q) X.xe s
section
variable{X:Cx}{a b:Expr}{ta tb:TE}{pos:Pos}
theorem L4.or{r r':R2}(h:L4 X r)(h':L4 X r'):L4 X (λx y H Q=>r x y H Q\/r' x y H Q):=by
 intro value slice pins s σ H x y v u Q I rx ry q hs
 rcases q with q | q
 ·exact h value slice pins s σ H x y v u Q I rx ry q hs
 ·exact h' value slice pins s σ H x y v u Q I rx ry q hs
theorem cF{r:R2}(hr:L4 X r)(ha:PE X a ta)(hb:PE X b tb)(hs:iS b):PE X (.Subscript a b pos) (BP r ta tb):=by
 intro pins s σ H Q I h
 exact Subscript_ (U6 ha hb I h λv u s2 x y H2 I2 rx ry q=>hr a b pins s2 σ H2 x y v u Q I2 rx ry q (hs _ _))
def EL(K:PySem.W.Frag):R2:=λx y H Q=>∃p xs i v,x=.ref p/\y=.int i/\Za K H p xs/\Re xs i=some v/\Q v H
def CZ(K:PySem.W.Frag):R2:=λx y H Q=>∃p xs i v,x=.ref p/\y=.int i/\Vi K H p xs/\Re xs i=some v/\Q v H
def DM:R2:=λx y H Q=>∃z i c,x=.str z/\y=.int i/\z.length<=Ax/\Re z.cps.toList i=some c/\Q (.str ⟨#[c]⟩) H
theorem Tc:L4 X (EL X.K):=by
 intro value slice pins s σ H x y v u Q I rx ry h hs
 obtain ⟨p,xs,i,z,rfl,rfl,hq,he,q⟩:=h
 cases rx
 obtain ⟨t,rfl⟩:=ry
 obtain ⟨its,r,pl,hz⟩:=I.list hq
 obtain ⟨j,h1,h2,h3,h4,h5⟩:=iB he
 obtain ⟨w,ew,rw'⟩:=r.get h2
 have hl:=r.length
 have hn:=Xe
 have fin:EP X pins σ Q w s:=⟨z,H,I,rw',q⟩
 by_cases h0:0<=i
 ·have hj:i.toNat=j:=by
   rw[seqIndex_of h0 h5] at h1
   exact Br h1
  exact item_listR pl.isList h0 (by omega) (by rw[hj]; simpa using ew) fin hs
 ·have hj:(i+(its.toArray.size:Int)).toNat=j:=by
   rw[seqIndex_neg (by omega) h4] at h1
   rw[Aq,<- hl]
   exact Br h1
  exact x8 (x:=w) pl.isList.typeIs FD.lookup
   (wpAny_getItem_list_neg (Q:=λr s'=>r=w/\EP X pins σ Q r s') pl.isList (by omega) (by rw[Aq] <;> omega) (by omega) (by rw[hj]; simpa using ew) ⟨rfl,fin⟩) hs
theorem GN:L4 X (CZ X.K):=by
 intro value slice pins s σ H x y v u Q I rx ry h hs
 obtain ⟨p,xs,i,z,rfl,rfl,hq,he,q⟩:=h
 cases rx
 obtain ⟨t,rfl⟩:=ry
 obtain ⟨its,r,pl,hz⟩:=I.tuple hq
 obtain ⟨j,h1,h2,h3,h4,h5⟩:=iB he
 obtain ⟨w,ew,rw'⟩:=r.get h2
 have hl:=r.length
 have hn:=Xe
 have fin:EP X pins σ Q w s:=⟨z,H,I,rw',q⟩
 exact x8 (x:=w) pl.typeIs slot_tuple_getitem.lookup
  (getItem_tuple (j:=j) (Q:=λr s'=>r=w/\EP X pins σ Q r s') pl (by omega) (by omega) (by rw[Aq,<- hl]; exact h1) (by simpa using ew) ⟨rfl,fin⟩) hs
theorem X8:L4 X DM:=by
 intro value slice pins s σ H x y v u Q I rx ry h hs
 obtain ⟨z,i,c,rfl,rfl,hz,he,q⟩:=h
 obtain ⟨t,rfl⟩:=rx
 obtain ⟨t',rfl⟩:=ry
 obtain ⟨j,h1,h2,h3,h4,h5⟩:=iB he
 have hl:z.cps.toList.length=z.length:=by simp [Ho]
 rw[hl] at h1 h4 h5
 have hn:=Xe
 exact tail_any (typeIs_str s z t) slot_str_getitem.lookup (getItem_str (c:=c) (by
  have e1:decide (i < -(2 ^ 63:Int))=false:=decide_eq_false (by omega)
  have e2:decide (i ≥ 2 ^ 63)=false:=decide_eq_false (by omega)
  rw[e1,e2,Qt]) (by rw[h1]; simpa using h2) ⟨.str ⟨#[c]⟩,H,I.tok _,⟨_,rfl⟩,q⟩) hs
def IC(K:PySem.W.Frag):R2:=λx y H Q=>EL K x y H Q\/CZ K x y H Q\/DM x y H Q
theorem X0:L4 X (IC X.K):=Tc.or (GN.or X8)
theorem oX(its:List Value)(n j:Nat)(u:Value):Yt (·.setIfInBounds j u) { cls:=.type "list",data:=.seq its.toArray n }={ cls:=.type "list",data:=.seq (its.set j u).toArray n }:=by
 simp [Yt]
theorem Inv.lst{pins:List (Addr×Obj)}{σ:St}{H:Hp}{s:Ah}{p:Addr}{xs:List V}(I:Inv X pins σ H s)(h:H p=some (.lst xs)):∃(its:List Value) (n:Nat),Fq xs its/\s.heap.get? p=some { cls:=.type "list",data:=.seq its.toArray n }/\xs.length<=Ax:=by
 obtain ⟨z,its,n,r,e⟩:=I.hok p _ h
 exact ⟨its,n,r,e,z⟩
theorem Inv.lstUpd{pins:List (Addr×Obj)}{σ:St}{H:Hp}{s:Ah}{p:Addr}{xs ys:List V}{its its':List Value}{n n':Nat}{f:Obj->Obj}(I:Inv X pins σ H s)(h:H p=some (.lst xs))(ho:s.heap.get? p=some { cls:=.type "list",data:=.seq its.toArray n })(hf:f { cls:=.type "list",data:=.seq its.toArray n }={ cls:=.type "list",data:=.seq its'.toArray n' })(r:Fq ys its')(hz:ys.length<=Ax)(t:Nat):Inv X pins σ (upd H p (.lst ys)) { s with heap:=s.heap.update p f,toks:=t }:=by
 have e:(s.heap.update p f).get? p=some { cls:=.type "list",data:=.seq its'.toArray n' }:=by
  rw[Jc f ho (by rw[hf] <;> rfl),hf]
 refine I.write (x:=p) (e:=p) (by rw[h]; trivial) (.inl rfl) (λb u hb q=>(Sn _ _ (Kl hb)).trans q) ⟨_,e⟩ ?_
 exact ⟨hz,its',n',r,e⟩
def DK:V->V->V->Hp->(Hp->Prop)->Prop:=λo i v H Q=>∃p xs k j,o=.ref p/\i=.int k/\H p=some (.lst xs)/\oH xs.length k=some j/\Q (upd H p (.lst (xs.set j v)))
theorem bE:EK X DK:=by
 intro pins s σ H o i v ov iv u Q I ro ri rv h
 obtain ⟨p,xs,k,j,rfl,rfl,hp,hj,q⟩:=h
 cases ro
 obtain ⟨t,rfl⟩:=ri
 obtain ⟨its,n,r,ho,hz⟩:=I.lst hp
 obtain ⟨h1,h2,h3,h4⟩:=qS hj
 have hl:=r.length
 have hn:=Xe
 have I':Inv X pins σ (upd H p (.lst (xs.set j v))) { s with heap:=s.heap.update p (Yt (·.setIfInBounds j u)) } :=
  I.lstUpd hp ho (oX its n j u) (r.set rv j) (by rw[List.length_set]; exact hz) s.toks
 by_cases h0:0<=k
 ·have hk:k.toNat=j:=by
   rw[seqIndex_of h0 h4] at h1
   exact Br h1
  exact PySem.W.ki_setAt ho h0 (by omega) (by rw[Aq,<- hl]; exact h4) (by rw[hk]; exact ⟨_,I',q⟩)
 ·have hk:(k+(its.toArray.size:Int)).toNat=j:=by
   rw[seqIndex_neg (by omega) h3] at h1
   rw[Aq,<- hl]
   exact Br h1
  exact PySem.W.ki_setBack ho (by omega) (by rw[Aq,<- hl]; exact h3) (by omega) (by rw[hk]; exact ⟨_,I',q⟩)
theorem iD(lo hi:Option Int)(n:Nat):(Oe lo hi none n).1=((HT.sIx n 0 lo:Nat):Int)/\(Oe lo hi none n).2.1=((HT.sIx n n hi:Nat):Int)/\(Oe lo hi none n).2.2=1:=by
 refine ⟨?_,?_,rfl⟩
 ·cases lo with
  | none=>simp [Oe,HT.sIx]
  | some i =>
   simp only[Oe,HT.sIx,Option.getD_none,show (1:Int) > 0 by decide,if_true]
   by_cases h:i<0
   ·simp only[h,if_true] <;> omega
   ·simp only[h,if_false] <;> omega
 ·cases hi with
  | none=>simp [Oe,HT.sIx]
  | some i =>
   simp only[Oe,HT.sIx,Option.getD_none,show (1:Int) > 0 by decide,if_true]
   by_cases h:i<0
   ·simp only[h,if_true] <;> omega
   ·simp only[h,if_false] <;> omega
theorem dG(its:List Value)(lo hi:Option Int):slicePick its.toArray lo hi none=((its.drop (HT.sIx its.length 0 lo)).take (HT.sIx its.length its.length hi - HT.sIx its.length 0 lo)).toArray:=by
 obtain ⟨h1,h2,h3⟩:=iD lo hi its.toArray.size
 unfold slicePick
 rw[h1,h2,h3]
 simp only[sliceRange_one,pick_run,Aq] <;> rfl
def Z0(K:PySem.W.Frag):V->Option Int->Option Int->Hp->VK->Prop:=λx lo hi H Q=>∃a xs,x=.ref a/\Za K H a xs/\∀p,H p=none->Q (.ref p) (upd H p (.lst (bV xs lo hi)))
theorem B3:AF X (Z0 X.K):=by
 intro pins s σ H x v vl vu lo hi sl Q I rx hs pl pu h
 obtain ⟨a,xs,rfl,hx,q⟩:=h
 cases rx
 obtain ⟨its,r,ht,hz⟩:=I.list hx
 have hlen:=r.length
 refine ⟨"list",_,FD.lookup,ht.isList.typeIs,?_⟩
 refine wpAny_getItem_list_slice ht.isList hs pl pu .none (by simp) ?_ (by rw[Aq] <;> omega)
 rw[dG,<- hlen]
 refine ⟨.ref s.heap.objs.size,_,I.laid (t':=s.toks) (o:=.lst (bV xs lo hi)) (λb ob q=>Aj _ q) (Al _) ?_,rfl,q _ (I.hok.fresh (Al _))⟩
 exact ⟨Ba (Yg xs lo hi) hz,_,0,(r.drop (HT.sIx xs.length 0 lo)).take (HT.sIx xs.length xs.length hi - HT.sIx xs.length 0 lo),Bi _ rfl⟩
theorem dD:Kb X (.type "tuple") (λxs H Q=>∃p ys,xs=[.ref p]/\((Za X.K H p ys/\∀l,H l=none->Q (.ref l) (upd H l (.tup ys)))\/(Vi X.K H p ys/\Q (.ref p) H))):=by
 intro pins s σ H xs us Q I r h
 obtain ⟨p,ys,rfl,h⟩:=h
 obtain ⟨u,rfl,rx⟩:=vals1 r
 cases rx
 rcases h with ⟨hq,q⟩ | ⟨hq,q⟩
 ·obtain ⟨its,r',pl,hz⟩:=I.list hq
  have hlen:=r'.length
  refine call_tuple_list pl.isList (λh' kp=>?_) (by simp only[Aq] <;> omega)
  have I1:Inv X pins σ H { s with heap:=h' }:=I.kept (t':=s.toks) kp
  have I2:Inv X pins σ (upd H h'.objs.size (.tup ys)) { s with heap:=h'.push { cls:=.type "tuple",data:=.seq its.toArray } } :=
   I1.laid (t':=s.toks) (λb o e=>Aj _ e) (Al _) (show Io X.prog X.w _ _ _ (.tup ys) from ⟨hz,its,r',IsTup.new _ _⟩)
  exact ⟨.ref h'.objs.size,_,I2,rfl,q _ (I1.hok.fresh (Al _))⟩
 ·obtain ⟨its,r',pl,hz⟩:=I.tuple hq
  exact call_tuple_same pl ⟨.ref p,H,I,rfl,q⟩
def IB(K:PySem.W.Frag)(T:String)(x:V)(H:Hp):Prop:=match x with
 | .str _=>T = "str"
 | .int _=>T = "int"
 | .ref p=>(T = "list" /\ ∃xs,Za K H p xs)\/(T = "tuple" /\ ∃o,K.lookup p=some o/\o.cls=.type "tuple" /\ o.dict=none) \/
   (T = "dict" /\ ((∃kvs,H p=some (.dK kvs))\/∃kvs,H p=some (.dT kvs)))\/(T = "set" /\ ∃S n,H p=some (.set S n))
 | _=>False
theorem AO{pins:List (Addr×Obj)}{σ:St}{H:Hp}{s:Ah}{T:String}{x:V}{v:Value}(I:Inv X pins σ H s)(r:RelV x v)(ty:IB X.K T x H):s.TypeIs v T/\∀a,v=.ref a->∃ob,s.heap.get? a=some ob/\ob.dict=none:=by
 cases x with
 | str z =>
  obtain ⟨t,rfl⟩:=r
  cases (show T = "str" from ty)
  exact ⟨typeIs_str s z t,λ_ e=>nomatch e⟩
 | int i =>
  obtain ⟨t,rfl⟩:=r
  cases (show T = "int" from ty)
  exact ⟨typeIs_int s i t,λ_ e=>nomatch e⟩
 | ref p =>
  cases r
  rcases ty with ⟨rfl,xs,hq⟩ | ⟨rfl,o,hk,hc,hd⟩ | ⟨rfl,hk⟩ | ⟨rfl,S,n,hk⟩
  ·obtain ⟨its,_,pl,_⟩:=I.list hq
   refine ⟨pl.isList.typeIs,λa e=>?_⟩
   cases e
   obtain ⟨o,n,e,c,hd,_⟩:=pl
   exact ⟨o,e,hd⟩
  ·refine ⟨⟨o,I.kIn p o hk,hc⟩,λa e=>?_⟩
   cases e
   exact ⟨o,I.kIn _ o hk,hd⟩
  ·have z:∃o,s.heap.get? p=some o/\o.ExactDict:=by
    rcases hk with ⟨kvs,hk⟩ | ⟨kvs,hk⟩
    ·obtain ⟨_,_,_,_,o,_,_,e,ex,_⟩:=I.hok p _ hk
     exact ⟨o,e,ex⟩
    ·obtain ⟨_,_,_,_,o,_,_,e,ex,_⟩:=I.hok p _ hk
     exact ⟨o,e,ex⟩
   obtain ⟨o,e,ex⟩:=z
   refine ⟨⟨o,e,ex.1⟩,λa e2=>?_⟩
   cases e2
   exact ⟨o,e,ex.2.1⟩
  ·obtain ⟨o,_,_,_,e,ex,_⟩:=I.hok p _ hk
   refine ⟨⟨o,e,ex.1⟩,λa e2=>?_⟩
   cases e2
   exact ⟨o,e,ex.2.1⟩
 | _=>exact Fv ty
def IT(K:PySem.W.Frag)(T:String)(r:V->List V->Hp->VK->Prop)(to:TE)(t:TA):TE:=λσ H Q=>to σ H λx H1=>IB K T x H1/\t σ H1 λxs H2=>r x xs H2 Q
variable{o e:Expr}{es:List Expr}{to:TE}{t:TA}{name:Str}{apos cpos:Pos}{T id:String}{r:V->List V->Hp->VK->Prop}
theorem mL(pa:PlainAttrs T)(slot:Slot T name id)(hty:typeOf (.builtin id)=pure (.type "method_descriptor"))(hm:IX X id r)(ho:PE X o to)(ha:PA X (e::es) t)
  (hbase:Nu o name X.env (eval o X.env)=eval o X.env:=by rfl)
  (hfew:((Gn cpos (Bf (e::es) X.env)).all (λx=>!x.1) && (backToKw cpos (Sj [] X.env)).all (λx=>x.1.isSome)
   && decide ((e::es).length+([]:List Nv).length+(if ([]:List Nv).isEmpty then 0 else 1)<30))=true:=by rfl)
  (hline:(apos.endLine == cpos.line)=true:=by rfl) (hs:Bf (e::es) X.env=(false,eval e X.env)::Bf es X.env:=by rfl) (hplain:(Gn cpos (Bf es X.env)).any (·.1)=false:=by rfl) :
  PE X (.Call (.Attribute o name apos) (e::es) [] cpos) (IT X.K T r to t):=by
 intro pins s σ H Q I h
 refine wpAny_Call_method_late hbase hfew hline rfl (Gh (ho pins s σ H _ I h) λv s1 q0_ => ?_)
 obtain ⟨x,H1,I1,r1,ty,q1⟩ := q0_
 obtain ⟨h1,h2⟩:=AO I1 r1 ty
 refine ⟨T,id,pa,slot,hty,h1,h2,?_⟩
 have hA:=ha cpos pins s1 σ H1 _ I1 q1
 rw[hs] at hA ⊢
 refine Calls.callWith_builtin (by show (false || (Gn cpos (Bf es X.env)).any (·.1))=false; rw[hplain] <;> rfl) (Calls.evalArgs_plain ?_)
 exact Gh hA λus s2 ⟨vs,H2,I2,r2,q2⟩=>hm pins s2 σ H2 x vs v us Q I2 r1 r2 q2
end
def BA(X:Cx)(id:String)(r:V->List V->Hp->VK->Prop):Prop :=
 ∀(pins:List (Addr×Obj)) (s:Ah) (σ:St) (H:Hp) (x:V) (xs:List V) (v:Value) (us:List Value) (Q:VK),Inv X pins σ H s->RelV x v->Fq xs us->r x xs H Q ->
  wpAny (model X.prog X.w) X.A (call (.builtin id) (v::us)) (EP X pins σ Q) X.xe s
theorem Fq.one:∀{x:V} {us:List Value},Fq [x] us->∃u,us=[u]/\RelV x u
 | _,_,.cons r .nil=>⟨_,rfl,r⟩
section
variable{X:Cx}{pins:List (Addr×Obj)}{σ:St}{H:Hp}{s:Ah}{l b:Addr}{xs ys zs:List V}
theorem Inv.lset{its its':List Value}{n:Nat}{f:Array Value->Array Value}{t':Nat}(I:Inv X pins σ H s)(hH:H l=some (.lst xs))(e:s.heap.get? l=some { cls:=.type "list",data:=.seq its.toArray n })(hf:f its.toArray=its'.toArray)(hv:Fq ys its')(hz:ys.length<=Ax):Inv X pins σ (upd H l (.lst ys)) { s with heap:=s.heap.update l (Yt f),toks:=t' }:=by
 have q:=PySem.IsL.update e f
 rw[hf] at q
 refine I.write (x:=l) (e:=l) (by rw[hH]; exact trivial) (.inl rfl) (λb' u hb hu=>(Sn s.heap (Yt f) (Kl hb)).trans hu) ⟨_,q⟩ ?_
 exact ⟨hz,its',_,hv,q⟩
theorem Inv.lnew{its:List Value}{t':Nat}(I:Inv X pins σ H s)(hv:Fq ys its)(hz:ys.length<=Ax):Inv X pins σ (upd H s.heap.objs.size (.lst ys)) { s with heap:=s.heap.push { cls:=.type "list",data:=.seq its.toArray },toks:=t' } :=
 I.laid (λ_ _ q=>Aj _ q) (Al _) ⟨hz,its,0,hv,Bi _ rfl⟩
theorem Inv.fresh(I:Inv X pins σ H s):H s.heap.objs.size=none:=I.hok.fresh (Al _)
theorem Inv.lstM(I:Inv X pins σ H s)(hH:H l=some (.lst xs)):xs.length<=Ax/\∃(its:List Value) (n:Nat),Fq xs its/\xs.length=its.length/\s.heap.get? l=some { cls:=.type "list",data:=.seq its.toArray n }:=by
 obtain ⟨z,its,n,r,e⟩:=I.hok l _ hH
 exact ⟨z,its,n,r,r.length,e⟩
theorem xB{n:Nat}(h:n<=Ax):Np n=false:=by
 unfold Np
 exact decide_eq_false (by omega)
end
section
variable{X:Cx}
def B2:V->List V->Hp->VK->Prop:=λx vs H Q=>∃l xs y,x=.ref l/\vs=[y]/\H l=some (.lst xs)/\xs.length<Ax/\Q .non (upd H l (.lst (xs++[y])))
theorem Pg:BA X "list.append" B2:=by
 intro pins s σ H x vs v us Q I rx rv h
 obtain ⟨l,xs,y,rfl,rfl,hH,hz,q⟩:=h
 cases rx
 obtain ⟨u,rfl,ru⟩:=rv.one
 obtain ⟨z,its,n,r,hl,e⟩:=I.lstM hH
 refine Qy F.slot_list_append ⟨_,e,rfl⟩ F.entry_list_append (F.args_list_append_2 _ _) (PySem.list_append l its.toArray n u (by rw[Aq]; omega)) ⟨e,?_⟩
 refine ⟨.non,_,I.lset (its':=its++[u]) hH e (by simp) (r.append (.cons ru .nil)) ?_,rfl,q⟩
 rw[Be,Dl]
 omega
def I0:V->List V->Hp->VK->Prop:=λx vs H Q=>∃l b xs zs,x=.ref l/\vs=[.ref b]/\H l=some (.lst xs)/\H b=some (.lst zs)/\xs.length+zs.length<=Ax/\Q .non (upd H l (.lst (xs++zs)))
theorem AZ:BA X "list.extend" I0:=by
 intro pins s σ H x vs v us Q I rx rv h
 obtain ⟨l,b,xs,zs,rfl,rfl,hH,hB,hz,q⟩:=h
 cases rx
 obtain ⟨u,rfl,ru⟩:=rv.one
 cases ru
 obtain ⟨z,its,n,r,hl,e⟩:=I.lstM hH
 obtain ⟨z2,its2,n2,r2,hl2,e2⟩:=I.lstM hB
 have hsz:its.toArray.size+its2.toArray.size<=Ax:=by rw[Aq,Aq]; omega
 have hlong:¬ (!its.toArray.isEmpty && Np (its.toArray.size+its2.toArray.size))=true:=by
  rw[xB hsz,Fp]
  exact Hb
 refine Qy F.slot_list_extend ⟨_,e,rfl⟩ F.entry_list_extend (F.args_list_extend_2 _ _)
  (AutoSeq1.list_extend_list_list_0 l its.toArray n b its2.toArray n2 hlong (by rw[Aq]; omega) (by omega)) ⟨e,e2,?_⟩
 refine ⟨.non,_,I.lset (its':=its++its2) hH e (by simp) (r.append r2) ?_,rfl,q⟩
 rw[Be]
 omega
def AS:R2:=λx y H Q=>∃l b xs zs,x=.ref l/\y=.ref b/\H l=some (.lst xs)/\H b=some (.lst zs)/\xs.length+zs.length<=Ax/\∀p,H p=none->Q (.ref p) (upd H p (.lst (xs++zs)))
theorem yH:Ue X (Jj .Add) AS:=by
 intro pins s σ H x y v u Q I rx ry h
 obtain ⟨l,b,xs,zs,rfl,rfl,hH,hB,hz,q⟩:=h
 cases rx
 cases ry
 obtain ⟨z,its,n,r,hl,e⟩:=I.lstM hH
 obtain ⟨z2,its2,n2,r2,hl2,e2⟩:=I.lstM hB
 refine PySem.P.add_list e e2 ?_ (by rw[Aq,Aq]; omega)
 have ea:its.toArray++its2.toArray=(its++its2).toArray:=by simp
 rw[ea]
 exact ⟨.ref _,_,I.lnew (t':=s.toks) (r.append r2) (by rw[Be]; omega),rfl,q _ I.fresh⟩
end
end L2
namespace Att
open PySem PySem.W PySem.Calls PyProof.Rows
theorem Zb{P:Params}{h:Heap}:∀(ns:List Int) (vs:List Value),WellAll P h vs (ns.map WData.int)->Nw vs ns:=by
 intro ns
 induction ns with
 | nil =>
  intro vs w
  rw[List.map_nil] at w
  cases w
  exact .nil
 | cons n ns ih =>
  intro vs w
  rw[Ar] at w
  cases w with
  | cons a b =>
   cases a
   exact .cons _ _ (ih _ b)
theorem tJ{l:OpenLaw}{n:Nat}(hn:l.most=some n){P:Params}{h:Heap}{args:List WData}{vals:List Value}(hpre:l.row.toRowW.claim.pre args=true)(hwl:WellAll P h vals args):∃a vs ns,vals=[Cf a]/\args=[WData.list (ns.map WData.int)]/\h.get? a=some { cls:=.type "list",data:=.seq vs.toArray }/\Nw vs ns/\ns.length<=n:=by
 have hsh:WShape.hasAll [] args [.list .int]=true:=(pre_splitW hpre).1
 have hc:l.pre.holds [] { args:=args }=true:=(pre_splitW hpre).2
 obtain ⟨d,r,rfl,h1,h2⟩:=hasAllW_cons hsh
 obtain rfl:=hasAllW_nil h2
 obtain ⟨xs,rfl,h3⟩:=hasW_list h1
 obtain ⟨ns,rfl⟩:=items_int h3
 have hlen:ns.length<=n:=by
  unfold OpenLaw.pre at hc
  have h4:(WTm.not (.lt (.lit (.int (n:Int))) (.len (.arg 0)))).holds [] { args:=[.list (ns.map .int)] }=true:=by
   have h4:=(holds_andW hc).1
   rw[hn] at h4
   exact h4
  have h5:=condW_of h4 (w_not (w_lt w_lit (w_len_list (w_arg rfl))))
  rw[Ab] at h5
  refine Nat.le_of_not_lt λq=>?_
  have q':(n:Int)<((ns.length:Nat):Int):=by omega
  first
   | (rw[decide_eq_true q'] at h5; exact absurd h5 (by decide))
   | (simp at h5; omega)
 cases hwl with
 | cons w1 w2 =>
  cases w2
  cases w1 with
  | list ho hall=>exact ⟨_,_,ns,rfl,rfl,ho,Zb ns _ hall,hlen⟩
theorem uA(l:OpenLaw)(args:List WData):l.row.toRowW.claim.post args (.bool true) args=true :=
 postW_of (r:=l.row.toRowW) (X:=(true == true))
  (show WShape.has [] (.bool true) .bool=true by first | rfl | decide | simp [WShape.has,WShape.arms,WShape.armsAll])
  (show (WTm.eq .res (.lit (.bool true))).value [] { args:=args,res:=some (.bool true),after:=args }=some (.bool (true == true)) from w_eq_bool (w_res rfl) w_lit) rfl
theorem attach_call{l:OpenLaw}{n:Nat}{q:Bh}{loose:List Str}{XP:(Str->Option Value)->Heap->Prop}{YP:World->Heap->Prop}{d:DefRec}(hn:l.most=some n)(hdf:d.params.defaults=[])(call:∀(w:World) (s₀ s₁:Ah) (mg mb:Str->Option Value) (fa:Addr) (o:Obj) (pm cd doc:Value) (a:Addr) (vs:List Value) (ns:List Int),Ground q loose [] XP w s₀ mg mb s₁.heap->YP w s₁.heap->s₁.heap.get? fa=some o->o.data=.func (docDef d.name d.params d.body d.scope pm cd doc)->s₁.heap.CodeRec cd d.name->mg d.name=some (.ref fa)->s₁.heap.get? a=some { cls:=.type "list",data:=.seq vs.toArray }->Nw vs ns->ns.length<=n->s₁.gens=#[]->Hv (model l.prog w) Zc (.call (.ref fa) ⟨[.ref a],[]⟩) (λr s'=>r=.ok (.ret (.bool true))/\OldK s₁.heap s'.heap/\s'.os=s₁.os/\Py s'.gens) s₁):WalkO q loose XP YP l.row.toRowW d [] (λf vs=>PySem.call f vs):=by
 intro w s₀ s₁ mg mb G Y fa o pm cd doc dV kV ho hd hcd hD hmg hg args vals as hpre hlay hrd hwl hlo
 obtain rfl:dV=.none:=Dflts.none hD hdf
 obtain rfl:kV=.none:=Dflts.noKw hD
 obtain ⟨a,vs,ns,rfl,rfl,hobj,hints,hlen⟩:=tJ hn hpre hwl
 refine enter_call (Je (call w s₀ s₁ mg mb fa o pm cd doc a vs ns G Y ho (fd_plain hd) hcd hmg hobj hints hlen hg) λr s' hq=>?_)
 obtain ⟨rfl,h2,h3,h4⟩:=hq
 exact ⟨.inl ⟨.bool true,.bool true,[],rfl,λ_=>rfl,.bool true,uA l _,λ_=>⟨Fb,λ_ hm=>(nomatch hm)⟩⟩,h2,h3,h4⟩
end Att
namespace L2
open PySem PySem.Spec PyProof.Rows
theorem dR:∀{vs:List Value} {ns:List Int},Nw vs ns->Fq (ns.map V.int) vs
 | _,_,.nil=>.nil
 | _,_,.cons n t h=>.cons ⟨t,rfl⟩ (dR h)
def Ny(s:Stmt):Arguments:=match s with
 | .FunctionDef _ a _ _ _ _ _ _ _ _=>a
 | _=>{ posonlyargs:=[],args:=[],vararg:=none,kwonlyargs:=[],kw_defaults:=[],kwarg:=none,defaults:=[] }
def Hy(s:Stmt):List Stmt:=match s with
 | .FunctionDef _ _ b _ _ _ _ _ _ _=>b
 | _=>[]
def Bj(s:Stmt):Scope:=match s with
 | .FunctionDef _ _ _ _ _ _ sc _ _ _=>sc
 | _=>{ kind:=.function,names:=[],isGenerator:=false,isCoroutine:=false }
abbrev Ik:nA:=λ_ _ _ _ _ _=>False
abbrev E0:XK:=λ_ _ _=>False
theorem Fh{X:Cx}:Mc Ik X E0:=λ_ _ _ _ _ _ _ h=>h.elim
structure Fun(K:PySem.W.Frag)(x qual:Str)(st:Stmt)(f:Addr)(fd:Bz):Prop where
 ex:∃(oc:Value) (od:Option Addr) (kV doc pm:Value) (an:Option Addr) (cdv ct:Value) (osl:Array (Option Value)),
  fd=PySem.W.fnOf x qual (Ny st) (Hy st) (Bj st) .none kV doc pm an cdv ct/\K.lookup f=some ⟨oc,od,.func fd,osl⟩/\PySem.W.codeIn K cdv qual=true
 kp:PySem.W.keepIn K (.ref f)=true
section
variable{P:Bh}{w:World}{K:PySem.W.Frag}{mg:Str->Option Value}{base:Heap}
theorem Fun.ok{x qual:Str}{st:Stmt}{f:Addr}{fd:Bz}{N ps:List Str}{k:Nat}{sp:Sp}(F:Fun K x qual st f fd)(S:FnScope N ps (Bj st))(len:∀vs H Q E,sp vs H Q E->vs.length=ps.length)(hbody:∀(cdv:Value) (A:Cr) (outer:List Env) (s:Ah) (H:Hp) (vs:List V) (Q:VK) (E:XK),Room k (A.deeper (Ed qual (Bj st) s.heap.objs.size f cdv))->sp vs H Q E->∃t,cM (Hq Ik P w K mg base N qual (Bj st) f cdv A outer s H E).nox (Hy st) t/\t { nx:=λ_ H'=>Q .non H',rt:=Q } (start N vs) H):FnOk P w K mg base Ik (k+1) f fd ps sp:=by
 obtain ⟨oc,od,kV,doc,pm,an,cdv,ct,osl,rfl,lk,hcd⟩:=F.ex
 refine Q9 lk hcd S len λA outer s H vs Q E hr hsp=>?_
 obtain ⟨t,h,q⟩:=hbody cdv A outer s H vs Q E hr hsp
 exact ⟨t,h.nox,q⟩
theorem Fun.binds{x qual:Str}{st:Stmt}{f:Addr}{fd:Bz}{ps:List Str}(F:Fun K x qual st f fd)(h:∀(kV doc pm:Value) (an:Option Addr) (cdv ct:Value) (us:List Value),us.length=ps.length->bindArgs (PySem.W.fnOf x qual (Ny st) (Hy st) (Bj st) .none kV doc pm an cdv ct) ⟨us,[]⟩=pure (ps.zip us)):Binds K fd ps []:=by
 obtain ⟨oc,od,kV,doc,pm,an,cdv,ct,osl,rfl,lk,hcd⟩:=F.ex
 exact .all (h kV doc pm an cdv ct)
theorem uY{x qual:Str}{st:Stmt}{f:Addr}{oc:Value}{od an:Option Addr}{osl:Array (Option Value)}{kV doc pm cdv ct:Value}(l:K.lookup f=some ⟨oc,od,.func (PySem.W.fnOf x qual (Ny st) (Hy st) (Bj st) .none kV doc pm an cdv ct),osl⟩)(c:PySem.W.codeIn K cdv qual=true)(k:PySem.W.keepIn K (.ref f)=true):Fun K x qual st f (PySem.W.fnOf x qual (Ny st) (Hy st) (Bj st) .none kV doc pm an cdv ct):=⟨⟨oc,od,kV,doc,pm,an,cdv,ct,osl,rfl,l,c⟩,k⟩
end
theorem uL{n:Nat}(h:n<=1000):n<Ax:=Nat.lt_of_le_of_lt h (by decide)
section
variable{X:Cx}
theorem pv(i:Nat){x:Str}{pos:Pos}(hN:X.N[i]? = some x:=by rfl)(hv:FG X.env.scope x:=by first | exact Ce rfl | exact Or.inr (Ce rfl) | exact Or.inr (Or.inr rfl))(hd:(x == ("__debug__" : Str))=false:=by decide)(hcd:(x == ("__classdict__" : Str))=false:=by decide):PE X (.Name x pos) (kF i):=yI hN hv hd hcd
end
theorem Xf{A B:Prop}(h:B):if false=true then A else B:=by
 rw[if_neg Hb]
 exact h
theorem cX{A B:Prop}(h:A):if true=true then A else B:=by
 rw[if_pos rfl]
 exact h
theorem GT{c A B:Prop}[Decidable c](h1:c->A)(h2:¬ c->B):if c then A else B:=by
 by_cases h:c
 ·rw[if_pos h]
  exact h1 h
 ·rw[if_neg h]
  exact h2 h
def Nh(H H':Hp):Prop:=∀b o,H b=some o->H' b=some o
theorem Nh.refl(H:Hp):Nh H H:=λ_ _ h=>h
theorem Nh.trans{H H1 H2:Hp}(a:Nh H H1)(b:Nh H1 H2):Nh H H2:=λc o h=>b c o (a c o h)
end L2
namespace Nd
open PySem PySem.Spec PyProof.Rows L2
def Er(X:Cx)(scope:Scope)(cl:List (Str×Addr))(N:List Str)(fp:List Addr)(s:Ah)(H:Hp):Cx where
 prog:=X.prog
 w:=X.w
 K:=X.K
 mg:=X.mg
 base:=X.base
 A:=X.A
 N:=N
 s₀:=s
 H₀:=H
 env:=Qx scope (Ea (s.heap.objs.size+1) scope.names cl) s.heap.objs.size X.env
 outer:=X.stack
 stack:=X.stack
 ex:=fp
 fn:=λy=>decide (scope.names.lookup y=some Ec)
 calm:=X.calm
 pn:=[]
 xe:=λ_ _=>False
section
variable{prog:Bh}{w:World}{A:Cr}{R:Result->Ah->Prop}{s:Ah}
theorem Uw{elt tg iter:Expr}{ifs:List Expr}{scope:Scope}{pos:Pos}{it acc:Value}{env:Env}(J:Nat->Ah->Prop) (turn:∀n s,J n s->wpAny (model prog w) A (Tr it) (λr s1=>match r with
    | none=>R (.ok .next) s1
    | some v=>wpAny (model prog w) A (Ow tg it v) (λ_ s2=>wpAny (model prog w) A (Qz tg env v) (λ_ s3 =>
      wpAny (model prog w) A (forIn ifs true λc r=>if r=true then (do
        let ok <- isTrue c env (eval c env)
        pure (Jq ok)) else pure (Jq r)) (λok s4 =>
       if ok=true then
        wpAny (model prog w) A (eval elt env) (λx s5=>wpAny (model prog w) A (call (.builtin "list.append") [acc,x]) (λ_ s6=>∃m,m<n/\J m s6) (λ_ _=>False) s5) (λ_ _=>False) s4
       else ∃m,m<n/\J m s4) (λ_ _=>False) s3) (λ_ _=>False) s2) (λ_ _=>False) s1) (λ_ _=>False) s)
  (n:Nat) (h:J n s):Hv (model prog w) A (.compLoop (.ListComp elt [⟨tg,iter,ifs,0⟩] scope pos) 0 it acc env) R s:=by
 refine codeAny_loop rfl J (λn s hJ=>?_) n h
 show wpAny _ A (Sem.onRaise (compTurn (.ListComp elt [⟨tg,iter,ifs,0⟩] scope pos) 0 it acc env) (λx=>do noteFrame x env; theTreesLotGoes x)) _ _ s
 refine wpAny_noted ?_
 rw[compTurn_list]
 refine Ac (To (Ac (Dn (turn n s hJ) (λr s1 h1=>?_) λ_ _ z=>z.elim)))
 cases r with
 | none=>exact Ao h1
 | some v =>
  refine Ac (Dn h1 (λ_ s2 h2=>?_) λ_ _ z=>z.elim)
  refine Ac (Dn h2 (λ_ s3 h3=>?_) λ_ _ z=>z.elim)
  refine Ac (Dn h3 (λok s4 h4=>?_) λ_ _ z=>z.elim)
  cases ok with
  | false=>exact Ao ⟨rfl,h4⟩
  | true =>
   refine Ac (Ac (Dn h4 (λx s5 h5=>?_) λ_ _ z=>z.elim))
   exact Ac (Dn h5 (λ_ s6 h6=>Ao (Ao ⟨rfl,h6⟩)) λ_ _ z=>z.elim)
end
section
variable{X:Cx}{pins:List (Addr×Obj)}{σ:L2.St}{H:Hp}{s:Ah}{scope:Scope}{cl:List (Str×Addr)}{fp:List Addr}{N:List Str}
def yM(scope:Scope)(x:Str):Prop:=scope.names.lookup x=some .local\/scope.names.lookup x=some .cell
structure CompScope(X:Cx)(scope:Scope)(cl:List (Str×Addr))(x:Str)(ys:List Str)(js:List Nat):Prop where
 clos:closureFor scope X.env=pure cl
 oc:(∀y∈scope.names,y.2≠.cell)\/∃z:Str,(∀n,Ea n scope.names []=[(z,n)])/\scope.names.lookup z=some .cell/\∀y∈scope.names,y.2=.cell->y.1=z
 kind:scope.kind=.function
 locs:∀y∈scope.names,y.2=.local->scope.names.lookup y.1=some .local
 own:yM scope x
 sub:∀y c,cl.lookup y=some c->X.env.cells.lookup y=some c
 has_:(scope.names.all λy=>!(y.2 == Ei) || (cl.lookup y.1).isSome)=true
 nd:(x::ys).Nodup
 len:ys.length=js.length
 at_:∀(k:Nat) (y:Str) (j:Nat),ys[k]? = some y->js[k]? = some j->X.N[j]? = some y/\scope.names.lookup y=some .free/\(X.env.kindOf y=some .cell\/X.env.kindOf y=some .free)
theorem CompScope.has{x:Str}{ys:List Str}{js:List Nat}(C:CompScope X scope cl x ys js):∀y∈scope.names,y.2=.free->(cl.lookup y.1).isSome=true:=λy hy e=>by
 have h:=Jp.mp C.has_ y hy
 rw[e] at h
 simpa using h
theorem Ry{env:Env}{y:Str}{k:Oj}:∀{names:List (Str×Oj)},
  (names.map λ(n,k)=>if (k == Ei && env.scope.kind == .function && env.kindOf n == some .cell) then (n,Ec) else (n,k)).lookup y=some k ->
  ∃k0,names.lookup y=some k0/\(k=k0\/(k0=.free/\k=.cell))
 | [],h=>by simp at h
 | (n,k0)::r,h=>by
  have ih:=@Ry env y k r
  rw[Ar] at h
  by_cases hc:(k0 == Ei && env.scope.kind == .function && env.kindOf n == some .cell)=true
  ·have h':Km y ((n,Ec)::(r.map λ(n,k)=>if (k == Ei && env.scope.kind == .function && env.kindOf n == some .cell) then (n,Ec) else (n,k)))=some k:=by
    simpa [hc] using h
   cases hy:y == n with
   | true =>
    rw[Ca,hy] at h'
    have e:k=Ec:=by simpa using h'.symm
    refine ⟨k0,by rw[Ca,hy],.inr ⟨?_,e⟩⟩
    rw[Di,Di] at hc
    exact Qp hc.1.1
   | false =>
    rw[Ca,hy] at h'
    obtain ⟨q,e1,e2⟩:=ih h'
    exact ⟨q,by rw[Ca,hy]; exact e1,e2⟩
  ·have h':Km y ((n,k0)::(r.map λ(n,k)=>if (k == Ei && env.scope.kind == .function && env.kindOf n == some .cell) then (n,Ec) else (n,k)))=some k:=by
    simpa [hc] using h
   cases hy:y == n with
   | true =>
    rw[Ca,hy] at h'
    exact ⟨k0,by rw[Ca,hy],.inl (by simpa using h'.symm)⟩
   | false =>
    rw[Ca,hy] at h'
    obtain ⟨q,e1,e2⟩:=ih h'
    exact ⟨q,by rw[Ca,hy]; exact e1,e2⟩
theorem Vt{env:Env}{y:Str}:∀{names:List (Str×Oj)},names.lookup y=some .free ->
  (names.map λ(n,k)=>if (k == Ei && env.scope.kind == .function && env.kindOf n == some .cell) then (n,Ec) else (n,k)).lookup y=some .cell \/
  (names.map λ(n,k)=>if (k == Ei && env.scope.kind == .function && env.kindOf n == some .cell) then (n,Ec) else (n,k)).lookup y=some .free
 | [],h=>by simp at h
 | (n,k0)::r,h=>by
  have ih:=@Vt env y r
  show Km y ((if (k0 == Ei && env.scope.kind == .function && env.kindOf n == some .cell)=true then (n,Ec) else (n,k0))::_)=_\/Km y ((if (k0 == Ei && env.scope.kind == .function && env.kindOf n == some .cell)=true then (n,Ec) else (n,k0))::_)=_
  by_cases hc:(k0 == Ei && env.scope.kind == .function && env.kindOf n == some .cell)=true
  ·rw[if_pos hc]
   cases hy:y == n with
   | true=>exact .inl (by rw[Ca,hy])
   | false =>
    rw[Ca,hy] at h
    simp only[Ca,hy]
    exact ih h
  ·rw[if_neg hc]
   cases hy:y == n with
   | true =>
    rw[Ca,hy] at h
    exact .inr (by rw[Ca,hy]; exact h)
   | false =>
    rw[Ca,hy] at h
    simp only[Ca,hy]
    exact ih h
theorem Ka{α β:Type}[BEq α][LawfulBEq α]{y:α}{k:β}:∀{l:List (α×β)},l.lookup y=some k->(y,k)∈l
 | [],h=>by simp at h
 | (n,v)::r,h=>by
  cases hy:y == n with
  | true =>
   rw[Ca,hy] at h
   have e:=Qp hy
   subst e
   have : v=k:=by simpa using h
   subst this
   exact Aa
  | false =>
   rw[Ca,hy] at h
   exact Ae _ (Ka h)
end
theorem fW{a c:Nat}(h:c<a)(e:c=a+1):False:=by omega
theorem Ig:∀(names:List (Str×Oj)) (n:Nat) (acc:List (Str×Addr)),Ea n names acc=Ea n names []++acc
 | [],_,_=>rfl
 | (x,k)::r,n,acc=>by
  unfold Ea
  by_cases h:(k == Ec)=true
  ·rw[if_pos h,if_pos h,Ig r _ ((x,n)::acc),Ig r _ [(x,n)],Ee]; rfl
  ·rw[if_neg h,if_neg h]; exact Ig r n acc
theorem Ni:∀(names:List (Str×Oj)) (n:Nat) (acc:List (Str×Addr)),(∀y∈names,y.2≠.cell)->Ea n names acc=acc
 | [],_,_,_=>rfl
 | (x,k)::r,n,acc,h=>by
  unfold Ea
  rw[if_neg (by have:=h (x,k) Aa; simpa using this)]
  exact Ni r n acc λy hy=>h y (Ae _ hy)
theorem Vh{env:Env}{y:Str}:∀{names:List (Str×Oj)},names.lookup y=some .cell->(names.map λ(n,k)=>if (k == Ei && env.scope.kind == .function && env.kindOf n == some .cell) then (n,Ec) else (n,k)).lookup y=some .cell
 | [],h=>by simp at h
 | (n,k0)::r,h=>by
  have ih:=@Vh env y r
  show Km y ((if (k0 == Ei && env.scope.kind == .function && env.kindOf n == some .cell)=true then (n,Ec) else (n,k0))::_)=_
  by_cases hc:(k0 == Ei && env.scope.kind == .function && env.kindOf n == some .cell)=true
  ·rw[if_pos hc]
   cases hy:y == n with
   | true=>rw[Ca,hy]
   | false=>rw[Ca,hy] at h ⊢; exact ih h
  ·rw[if_neg hc]
   cases hy:y == n with
   | true=>rw[Ca,hy] at h ⊢; exact h
   | false=>rw[Ca,hy] at h ⊢; exact ih h
theorem Vg{env:Env}{scope:Scope}{x:Str}(o:yM scope x):Loc (relabel scope env) x:=o.imp Yr Vh
section
variable{X:Cx}{scope:Scope}{cl:List (Str×Addr)}{x y:Str}{ys:List Str}{js:List Nat}{n c:Nat}{N:List Str}{fp:List Addr}{s:Ah}{H:Hp}
theorem bJ(o:yM scope x):(Er X scope cl N fp s H).fn x=true\/(Er X scope cl N fp s H).env.scope.names.lookup x=some .local:=by
 rcases o with o | o
 ·exact .inr (Yr o)
 ·exact .inl (decide_eq_true o)
theorem CompScope.split(C:CompScope X scope cl x ys js)(h:(Ea n scope.names cl).lookup y=some c):cl.lookup y=some c\/(c=n/\Ea 0 scope.names []=[(y,0)]/\Ea n scope.names []=[(y,n)]/\scope.names.lookup y=some .cell):=by
 rcases C.oc with o | ⟨z,o1,o2,_⟩
 ·rw[Ni _ _ _ o] at h; exact .inl h
 ·rw[Ig,o1] at h
  have h2:Km y ((z,n)::cl)=some c:=h
  rw[Ca] at h2
  cases e:y == z with
  | true =>
   rw[e] at h2
   have ec:c=n:=(Br h2).symm
   have ey:=Qp e
   subst ey
   exact .inr ⟨ec,o1 0,o1 n,o2⟩
  | false=>rw[e] at h2; exact .inl h2
theorem CompScope.find(C:CompScope X scope cl x ys js)(h:cl.lookup y=some c)(hy:scope.names.lookup y=some .free):(Ea n scope.names cl).lookup y=some c:=by
 rcases C.oc with o | ⟨z,o1,o2,_⟩
 ·rw[Ni _ _ _ o]; exact h
 ·rw[Ig,o1]
  show Km y ((z,n)::cl)=some c
  rw[Ca]
  cases e:y == z with
  | true=>rw[Qp e,o2] at hy; cases hy
  | false=>exact h
theorem CompScope.cellAt(C:CompScope X scope cl x ys js)(hy:(y,Ec)∈scope.names):(Ea n scope.names cl).lookup y=some n:=by
 rcases C.oc with o | ⟨z,o1,o2,o3⟩
 ·exact absurd rfl (o _ hy)
 ·have ez:y=z:=o3 _ hy rfl
  subst ez
  rw[Ig,o1]
  show Km y ((y,n)::cl)=some n
  rw[Ca,beq_self_eq_true]
theorem Te{M:Model}{A:Cr}{E:Value->Ah->Prop}{Q:Env->Ah->Prop}(C:CompScope X scope cl x ys js)(hQ:∀h4,h4.Ns s.heap.objs.size (λ_=>none)->(∀b u,s.heap.get? b=some u->h4.get? b=some u)->(∀z n,Ea (s.heap.objs.size+1) scope.names []=[(z,n)]->h4.IsCell n none)->Q (newEnv scope s.heap.objs.size X.env.globals (Ea (s.heap.objs.size+1) scope.names cl) X.env.qual none .none (some X.env) Vc) { s with heap:=h4,toks:=s.toks+([]:List (Str×Value)).length }):wpAny M A (Kd scope X.env.globals cl [] X.env.qual none .none (some X.env)) Q E s:=by
 simp only[Kd,Option.isSome_some,if_true]
 refine Ac (wpAny_alloc (Ac (wpAny_layCells _ (λx k cs=>by cases e:k == Ec <;> simp [e]) _ _ _ _ ?_)))
 have hsz:({ s with heap:=s.heap.push { cls:=.type "dict",data:=.dict #[] } }:Ah).heap.objs.size=s.heap.objs.size+1:=Heap.size_push ..
 rw[hsz]
 refine Ac (Ao (Ao (hQ _ ((Heap.Ns.new s.heap (.type "dict")).keeps (pushCells_keeps _ _)) (λb u e=>pushCells_keeps _ _ b u (Aj _ e)) λz n e=>?_)))
 have ok:=(cellsFrom_ok scope.names (s.heap.push { cls:=.type "dict",data:=.dict #[] }) 0 [] ⟨λ_ _ hm=>(nomatch hm),Fb⟩ (Dm _)).empty z n
 rw[show (s.heap.push { cls:=.type "dict",data:=.dict #[] }).objs.size=s.heap.objs.size+1 from hsz,e] at ok
 exact (ok (Af.mpr rfl)).1
end
section
variable{X:Cx}{pins:List (Addr×Obj)}{σ:L2.St}{H:Hp}{s:Ah}{scope:Scope}{cl:List (Str×Addr)}{fp:List Addr}{N:List Str}
theorem J2{x:Str}{ys:List Str}{js:List Nat}(C:CompScope X scope cl x ys js)(I:Inv X pins σ H s)(hf:∀b∈fp,Pp X pins H b)(ho:∀b∈fp,∃o,s.heap.get? b=some o):(Er X scope cl N fp s H).Ok where
 mod:=I.ok.mod
 kind:=C.kind
 glob:=I.ok.glob
 blt:=I.ok.blt
 above:=Al _
 inj:=λy z c h1 h2=>by
  have lt:∀y,cl.lookup y=some c->c<s.heap.objs.size:=λy e=>let ⟨_,q⟩:=I.cell y c (C.sub y c e); q.lt
  rcases C.split h1 with h1 | ⟨e1,a1,_⟩
  ·rcases C.split h2 with h2 | ⟨e2,_⟩
   ·exact I.ok.inj y z c (C.sub y c h1) (C.sub z c h2)
   ·exact (fW (lt y h1) e2).elim
  ·rcases C.split h2 with h2 | ⟨e2,a2,_⟩
   ·exact (fW (lt z h2) e1).elim
   ·rw[a1] at a2
    simpa using a2
 has:=λy hy=>by
  have key:∀k,(k=Ec\/k=Ei)->(Qx scope cl s.heap.objs.size X.env).kindOf y=some k->∃c,(Ea (s.heap.objs.size+1) scope.names cl).lookup y=some c:=by
   intro k hk e
   obtain ⟨k0,e0,e1⟩:=Ry (names:=scope.names) (env:=X.env) (y:=y) (k:=k) e
   have m:=Ka e0
   by_cases hk0:k0=.cell
   ·exact ⟨_,C.cellAt (hk0▸m)⟩
   have hfree:k0=.free:=by
    rcases e1 with e1 | e1
    ·subst e1
     rcases hk with hk | hk
     ·exact absurd hk hk0
     ·exact hk
    ·exact e1.1
   obtain ⟨c,hc⟩:=Pq.mp (C.has _ m hfree)
   exact ⟨c,C.find hc (hfree▸e0)⟩
  rcases hy with hy | hy
  ·exact key _ (.inl rfl) hy
  ·exact key _ (.inr rfl) hy
 cab:=λy c h e=>by
  have h:scope.names.lookup y=some .cell:=of_decide_eq_true h
  have:=(C.cellAt (n:=s.heap.objs.size+1) (Ka h)).symm.trans e
  show s.heap.objs.size<=c
  have:=Br this
  omega
 hd:=I.ok.hd
 frames:=I.ok.frames
 stk:=.inl rfl
 exf:=λb hb=>by
  obtain ⟨o,e⟩:=ho b hb
  refine ⟨Ct (Az e),λy c hc=>?_⟩
  rcases C.split hc with hc | ⟨hc,_⟩
  ·exact (hf b hb).2.2.2.2.1 y c (C.sub y c hc)
  ·exact λz=>fW (Az e) (z.symm.trans hc)
 bs:=I.bs
 bsz:=Ba I.ok.bsz I.sz
 noex:=λb o e hb=>by
  rcases (hf b hb).2.2.2.1 with z | z
  ·exact I.ok.noex b o e z
  ·exact absurd (By (Az (I.ok.bs b o e).1) z) (Ep _)
 exfs:=λb hb z=>by
  rcases Ap.mp (I.stkSub b z) with e | e
  ·exact (hf b hb).2.1 e
  ·exact (hf b hb).2.2.1 e
 funs:=I.stack
 frf:=I.stkFree
 tab:=I.ok.tab.un I.base
def Ft(σ:L2.St)(js:List Nat):L2.St:=js.map λj=>(σ[j]?).join
theorem Qb{x:Str}{pre ys:List Str}{js:List Nat}{h1:Heap}{tk:Nat}{m1:Str->Option Value}(C:CompScope X scope cl x ys js)(I:Inv X pins σ H s)(hf:∀b∈fp,Pp X pins H b)(ho:∀b∈fp,∃o,s.heap.get? b=some o)(hns:h1.Ns s.heap.objs.size m1)(keep:∀b u,s.heap.get? b=some u->h1.get? b=some u)(new:∀z n,Ea (s.heap.objs.size+1) scope.names []=[(z,n)]->h1.IsCell n none):Inv (Er X scope cl (pre++ys) fp s H) [] (pre.map (λ_=>none)++Ft σ js) H { s with heap:=h1,toks:=tk }:=by
 have cellK:∀y c,cl.lookup y=some c->∃v,s.heap.IsCell c v/\h1.IsCell c v:=λy c e=>by
  obtain ⟨v,o,q,d⟩:=I.cell y c (C.sub y c e)
  exact ⟨v,⟨o,q,d⟩,o,keep c o q,d⟩
 refine ⟨J2 C I hf ho,rfl,I.bare,Un.kept keep,⟨m1,hns,λi y v e1 e2 _=>?_⟩,λy c e=>?_,I.hok.fresh (Al _),λy c e=>?_,λp hp=>?_,I.hok.kept keep,?_⟩
 ·have e2:(pre.map (λ_=>(none:Option V))++Ft σ js)[i]? = some (some v):=e2
  have e1:(pre++ys)[i]? = some y:=e1
  by_cases hi:i<pre.length
  ·rw[Jx (by rw[Ab]; exact hi),Cn] at e2
   cases q:pre[i]? with
   | none=>rw[q] at e2; cases e2
   | some z=>rw[q] at e2; cases e2
  ·rw[Jl (by rw[Ab]; omega),Ab] at e2
   rw[Jl (by omega)] at e1
   have e1':=e1
   have e2':=e2
   generalize i - pre.length=k at e1' e2'
   unfold Ft at e2'
   rw[Cn] at e2'
   cases ej:js[k]? with
   | none=>rw[ej] at e2'; simp at e2'
   | some j =>
    rw[ej] at e2'
    have e3:(σ[j]?).join=some v:=by simpa using e2'
    have e4:σ[j]? = some (some v):=by
     cases q:σ[j]? with
     | none=>rw[q] at e3; simp at e3
     | some z=>rw[q] at e3; simp at e3; rw[e3]
    obtain ⟨a1,a2,a3⟩:=C.at_ k y j e1' ej
    obtain ⟨m0,_,hl⟩:=I.loc
    have vis:FG X.env.scope y:=a3.elim (λa3=>.inr (.inl a3)) λa3=>.inr (.inr a3)
    obtain ⟨u,r,l⟩:=hl j y v a1 e4 vis
    refine ⟨u,r,?_⟩
    rcases l with ⟨k1,_⟩ | ⟨_,c,hc,hv⟩
    ·rcases a3 with a3 | a3 <;> rw[k1] at a3 <;> cases a3
    ·obtain ⟨c',hc'⟩:=Pq.mp (C.has _ (Ka a2) rfl)
     have ec:c'=c:=by
      have:=C.sub y c' hc'
      rw[hc] at this
      exact (Br this).symm
     subst ec
     obtain ⟨o,q,d⟩:=hv
     exact .inr ⟨Vt a2,c',C.find hc' a2,o,keep c' o q,d⟩
 ·rcases C.split e with e | ⟨e,_,e',_⟩
  ·obtain ⟨v,_,z⟩:=cellK y c e
   exact ⟨v,z⟩
  ·exact ⟨_,e▸new _ _ e'⟩
 ·rcases C.split e with e | ⟨e,_⟩
  ·exact I.freeC y c (C.sub y c e)
  ·exact I.hok.fresh (by omega)
 ·cases (show p∈([]:List (Addr×Obj)) from hp)
 ·show (pre.map (λ_=>(none:Option V))++Ft σ js).length=(pre++ys).length
  simp [Ft,C.len]
end
section
variable{X:Cx}
def EA(J:It)(js:List Nat)(tc:TT)(te:TE)(σ:L2.St)(H1:Hp)(Q:VK):Prop:=∀D,H1 D=none->∃W:Nat->Nat->Hp->Prop,(∃m,W 0 m (upd H1 D (.lst [])))/\∀i m H,W i m H ->
 (J.stop i H/\Q (.ref D) H)\/(J.go i H/\∀x H',J.yld i H x H'->∃(N1:Hp->Prop) (N2:VK),(∀H2,N1 H2->∃m',m'<m/\W (i+1) m' H2) /\
  (∀y H3,N2 y H3->∃acc,H3 D=some (.lst acc)/\acc.length<Ax/\∃m',m'<m/\W (i+1) m' (upd H3 D (.lst (acc++[y])))) /\
  tc (some x::Ft σ js) H' λc H2=>if c=true then te (some x::Ft σ js) H2 N2 else N1 H2)
def bN(wi:TI)(js:List Nat)(tc:TT)(te:TE):TE:=λσ H Q=>wi σ H λJ H1=>EA J js tc te σ H1 Q
def gD:TT:=λ_ H Q=>Q true H
def pT(X:Cx)(ifs:List Expr)(t:TT):Prop :=
 ∀(pins:List (Addr×Obj)) (s:Ah) (σ:L2.St) (H:Hp) (Q:Bool->Hp->Prop),Inv X pins σ H s->t σ H Q ->
  wpAny (model X.prog X.w) X.A (forIn ifs true λc r=>if r=true then (do
   let ok <- isTrue c X.env (eval c X.env)
   pure (Jq ok)) else pure (Jq r)) (TP X pins σ Q) X.xe s
theorem yE:pT X [] gD:=λpins s σ H Q I h=>wpAny_tests_nil ⟨H,I,h⟩
theorem J1{c:Expr}{t:TT}(h:PT X c t):pT X [c] t:=λpins s σ H Q I q=>wpAny_tests_one (h pins s σ H Q I q)
theorem aI{X X':Cx}{pins:List (Addr×Obj)}{σ σ':L2.St}{H3 H6:Hp}{s3 s7:Ah}{scope:Scope}{cl:List (Str×Addr)}{N:List Str}{fp:List Addr}(hX':Er X scope cl N fp s3 H3=X')(I3:Inv X pins σ H3 s3)(f3:∀b∈fp,Pp X pins H3 b)(I7:Inv X' [] σ' H6 s7):∃m7,s7.heap.Ns s3.heap.objs.size m7/\∀h8,Fj s3.heap.objs.size s7.heap h8->Inv X pins σ H6 { s7 with heap:=h8 }:=by
 have eP:X'.prog=X.prog:=by rw[<- hX']; rfl
 have eW:X'.w=X.w:=by rw[<- hX']; rfl
 obtain ⟨m7,hn7,_⟩:=I7.loc
 have hn7':s7.heap.Ns s3.heap.objs.size m7:=by rw[<- hX'] at hn7; exact hn7
 refine ⟨m7,hn7',λh8 hs8=>?_⟩
 have I7f:H6 s3.heap.objs.size=none:=by have:=I7.free; rw[<- hX'] at this; exact this
 have b7:Un (Ot X.stack) fp H3 H6 s3.heap s7.heap:=by have:=I7.base; rw[<- hX'] at this; exact this
 have ne8:∀b o,s3.heap.get? b=some o->b≠s3.heap.objs.size:=λb o q=>Ct (Az q)
 have u8:Un (Ot X.stack) fp H3 H6 s3.heap h8:=by
  refine ⟨λb o q n hb hx=>(hs8.2 b (ne8 b o q)).trans (b7.keep b o q n hb hx),λb o q n hb hx=>?_,b7.free,λb o q hx=>?_,b7.tups,b7.frzs,b7.tbls⟩
  ·obtain ⟨sl,z⟩:=b7.slot b o q n hb hx
   exact ⟨sl,(hs8.2 b (ne8 b o q)).trans z⟩
  ·obtain ⟨o',z⟩:=b7.there b o q hx
   exact ⟨o',(hs8.2 b (ne8 b o q)).trans z⟩
 have hok8:Xg X.prog X.w H6 h8:=λb ob e=>by
  have hk7:=I7.hok
  rw[eP,eW] at hk7
  refine (hk7 b ob e).stay (λc w' hcc q=>(hs8.2 c ?_).trans q) (λ_ q=>q) λ_ _ q=>q
  rintro rfl
  rcases hcc with rfl | hcc
  ·rw[I7f] at e; cases e
  ·rw[I7f] at hcc; cases hcc
 have os7:s7.os=s3.os:=by have:=I7.os; rw[<- hX'] at this; exact this
 exact I3.call' (s':={ s7 with heap:=h8 }) (ch:=fp) os7 u8 hok8 I7.bare (λb hb=>⟨(f3 b hb).2.2.2.1,(f3 b hb).2.1,(f3 b hb).2.2.2.2.1,(f3 b hb).2.2.2.2.2⟩)
theorem Xo{X X':Cx}{σ':L2.St}{H3 H6:Hp}{s3 s7:Ah}{scope:Scope}{cl:List (Str×Addr)}{N:List Str}{fp:List Addr}(hX':Er X scope cl N fp s3 H3=X')(I4:Inv X' [] σ' H6 s7){H':Hp}(hn:∀b∈fp,H' b=none):∀b∈fp,Pp X' [] H' b:=λb hb=>by
 have ok:=I4.ok
 have hex:b∈X'.ex:=by rw[<- hX']; exact hb
 exact ⟨hn b hb,(ok.exf b hex).1,ok.exfs b hex,.inl hex,(ok.exf b hex).2,λp hp=>by rw[<- hX'] at hp; cases (show p∈([]:List (Addr×Obj)) from hp)⟩
theorem bO{X X':Cx}{H3:Hp}{s3:Ah}{scope:Scope}{cl:List (Str×Addr)}{N:List Str}{fp:List Addr}(hc:X.calm=true)(hX':Er X scope cl N fp s3 H3=X'):X'.prog=X.prog/\X'.w=X.w/\X'.K=X.K/\X'.A=X.A/\X'.calm=true:=by
 subst hX'
 exact ⟨rfl,rfl,rfl,rfl,hc⟩
theorem uF{X X':Cx}{pins:List (Addr×Obj)}{σ σ':L2.St}{H3 H6:Hp}{s3 s7:Ah}{scope:Scope}{cl:List (Str×Addr)}{N:List Str}{fp:List Addr}(hX':Er X scope cl N fp s3 H3=X')(I3:Inv X pins σ H3 s3)(f3:∀b∈fp,Pp X pins H3 b)(I7:Inv X' [] σ' H6 s7):(∃m7,s7.heap.Ns s3.heap.objs.size m7)/\H6 s3.heap.objs.size=none/\Inv X pins σ H6 s7:=by
 subst hX'
 obtain ⟨m7,hn7,_⟩:=I7.loc
 exact ⟨⟨m7,hn7⟩,I7.free,I3.call' (s':=s7) (ch:=fp) I7.os I7.base I7.hok I7.bare (λb hb=>⟨(f3 b hb).2.2.2.1,(f3 b hb).2.1,(f3 b hb).2.2.2.2.1,(f3 b hb).2.2.2.2.2⟩)⟩
theorem aC{X:Cx}{pins:List (Addr×Obj)}{σ:L2.St}{H2:Hp}{s2:Ah}{tg:Expr}{J:It}{fp:List Addr}{it:Addr}{tn:Nat->Heap->Prop}(I2:Inv X pins σ H2 s2)(T:Turn X.prog X.w X.K tg J fp it tn)(st2:tn 0 s2.heap)(f2:∀b∈fp,Pp X pins H2 b){ob:Obj}{ho:HO}(I3:Inv X pins σ (upd H2 s2.heap.objs.size ho) { s2 with heap:=s2.heap.push ob }):(∀b∈fp,Pp X pins (upd H2 s2.heap.objs.size ho) b)/\tn 0 (s2.heap.push ob)/\∀b∈fp,∃o,(s2.heap.push ob).get? b=some o:=by
 have oV:tn 0 (s2.heap.push ob):=T.keep 0 _ _ st2 λb hb o q=>Aj _ q
 refine ⟨λb hb=>⟨?_,(f2 b hb).2⟩,oV,λb hb=>?_⟩
 ·rw[Fd ?_]
  ·exact (f2 b hb).1
  ·intro z
   obtain ⟨o,q,_⟩:=T.obj _ _ st2 b hb
   have:=Az q
   rw[z] at this
   exact absurd this (Ep _)
 ·obtain ⟨o,q,_⟩:=T.obj _ _ oV b hb
  exact ⟨o,q⟩
theorem N0{elt iter:Expr}{x:Str}{px pos:Pos}{ifs:List Expr}{scope:Scope}{cl:List (Str×Addr)}{ys:List Str}{js:List Nat}{wi:TI}{tc:TT}{te:TE}(C:CompScope X scope cl x ys js)(hc:X.calm=true)(hi:PI X (.Name x px) iter wi)(ht:∀fp s H,pT (Er X scope cl (x::ys) fp s H) ifs tc)(he:∀fp s H,PE (Er X scope cl (x::ys) fp s H) elt te)(hs:∀x,Ez iter X.env x=pure x:=by intro _; rfl):PE X (.ListComp elt [⟨.Name x px,iter,ifs,0⟩] scope pos) (bN wi js tc te):=by
 intro pins s σ H Q I h
 rw[eval_ListComp]
 refine Tp (use:=none) rfl hs C.clos C.kind C.locs (Gh (hi pins s σ H _ I h) λv s1 h1=>Gh h1 λitv s2 h2=>?_)
 obtain ⟨it,fp,tn,J,H2,e,I2,T,st2,f2,q2⟩:=h2
 subst e
 have fD:H2 s2.heap.objs.size=none:=I2.hok.fresh (Al _)
 obtain ⟨W,⟨m0,w0⟩,turn⟩:=q2 s2.heap.objs.size fD
 refine Ey ?_
 have I3:Inv X pins σ (upd H2 s2.heap.objs.size (.lst [])) { s2 with heap:=s2.heap.push { cls:=.type "list",dict:=none,data:=.seq ([]:List Value).toArray } } :=
  I2.laid (t':=s2.toks) (λb u q=>Aj _ q) (Al _) ⟨Dm _,[],0,.nil,Bi _ rfl⟩
 obtain ⟨f3,st3',o3'⟩:=aC I2 T st2 f2 I3
 generalize hS3:({ s2 with heap:=s2.heap.push { cls:=.type "list",dict:=none,data:=.seq ([]:List Value).toArray } }:Ah)=s3 at I3
 have oV:tn 0 s3.heap:=by rw[<- hS3]; exact st3'
 have o3:∀b∈fp,∃o,s3.heap.get? b=some o:=by rw[<- hS3]; exact o3'
 show wpAny _ _ (Kd scope X.env.globals cl [] X.env.qual none .none (some X.env)) _ _ _
 refine Te C λh4 hns4 keep4 new4=>?_
 have I4:∀tk,Inv (Er X scope cl (x::ys) fp s3 (upd H2 s2.heap.objs.size (.lst []))) [] (none::Ft σ js) (upd H2 s2.heap.objs.size (.lst [])) { s3 with heap:=h4,toks:=tk }:=λtk=>Qb (pre:=[x]) C I3 f3 o3 hns4 keep4 new4
 have st4:tn 0 h4:=T.keep 0 _ _ oV λb hb o q=>keep4 b o q
 generalize hX':Er X scope cl (x::ys) fp s3 (upd H2 s2.heap.objs.size (.lst []))=X' at I4
 obtain ⟨eP,eW,eK,eA,eC⟩:=bO hc hX'
 have stat:∀{H':Hp},(∀b∈fp,H' b=none)->∀b∈fp,Pp X' [] H' b:=λ{H'} hn=>Xo hX' (I4 0) hn
 have loop:∀s5:Ah,s5={ s3 with heap:=h4,toks:=s3.toks+([]:List (Str×Value)).length } ->
   Hv (model X.prog X.w) X.A (.compLoop (.ListComp elt [⟨.Name x px,iter,ifs,0⟩] scope pos) 0 (.ref it) (.ref s2.heap.objs.size) (Qx scope (Ea (s3.heap.objs.size+1) scope.names cl) s3.heap.objs.size X.env))
    (compPost (model X.prog X.w) X.A X.xe none (EP X pins σ Q) (.ref s2.heap.objs.size) s3.heap.objs.size) s5:=by
  rintro s5 rfl
  refine Uw (λn s'=>∃i o H',Inv X' [] (o::Ft σ js) H' s'/\tn i s'.heap/\(∀b∈fp,H' b=none)/\W i n H') ?_ m0
   ⟨0,none,_,I4 _,st4,λb hb=>(f3 b hb).1,w0⟩
  (intro n s6 q_; obtain ⟨i,o,H6,I6,st6,fr6,w6⟩ := q_)
  rcases turn i n H6 w6 with ⟨stop,qn⟩ | ⟨go,step⟩
  ·have hd:=T.done X' eP eW eK eC i [] s6 _ H6 (λ_ _=>False) I6 (stat fr6) st6 stop
   rw[eA] at hd
   refine Gh hd λr s7 q0_ => ?_
   obtain ⟨hr,I7⟩ := q0_
   subst hr
   obtain ⟨m7,hn7,fin7⟩:=aI hX' I3 f3 I7
   exact ⟨m7,hn7,λh8 hs8=>⟨.ref s2.heap.objs.size,H6,fin7 h8 hs8,rfl,qn⟩⟩
  ·have hit:=T.item X' eP eW eK eC i [] s6 _ H6 (λ_ _=>False) I6 (stat fr6) st6 go
   rw[eA] at hit
   refine Gh hit λr s7 q0_ => ?_
   obtain ⟨u,hr,h7⟩ := q0_
   subst hr
   refine Gh h7 λ_ s8 q0_ => ?_
   obtain ⟨y,H8,I8,r8,y8,st8,fr8⟩ := q0_
   have I8':=I8.pinned (stat fr8) (T.obj _ _ st8)
   obtain ⟨N1,N2,hN1,hN2,hst⟩:=step y H8 y8
   have again:∀{H9:Hp} {s9:Ah} {m':Nat},Inv X' ([]++Rh fp s8.heap) (some y::Ft σ js) H9 s9->m'<n->W (i+1) m' H9->∃m,m<n/\∃i o H',Inv X' [] (o::Ft σ js) H' s9/\tn i s9.heap/\(∀b∈fp,H' b=none)/\W i m H':=λ{H9 s9 m'} I9 hm w9=>by
    refine ⟨m',hm,i+1,some y,H9,I9.unpinned,T.keep _ _ _ st8 λb hb o e=>(I9.pin (b,o) (Ai _ (Ai _ (Hj hb e)))).1,λb hb=>?_,w9⟩
    obtain ⟨o,e,_⟩:=T.obj _ _ st8 b hb
    exact (I9.pin (b,o) (Ai _ (Ai _ (Hj hb e)))).2.1
   subst hX'
   refine Gh (Qn (i:=0) (x:=x) (pos:=px) C.nd rfl (Vg C.own) (bJ C.own) _ s8 _ H8 y u (λσ' H'=>σ'=some y::Ft σ js/\H'=H8) I8' r8 ⟨rfl,rfl⟩) λ_ s9 q0_ => ?_
   obtain ⟨σ9,H9,I9,e9,e9'⟩ := q0_
   subst e9 e9'
   refine Gh (ht fp s3 _ _ s9 _ _ _ I9 hst) λok s10 q0_ => ?_
   obtain ⟨H10,I10,q10⟩ := q0_
   cases ok with
   | false =>
    rw[if_neg Hb] at q10 ⊢
    obtain ⟨m',hm,w10⟩:=hN1 _ q10
    exact again I10 hm w10
   | true =>
    rw[if_pos rfl] at q10 ⊢
    refine Gh (he fp s3 _ _ s10 _ _ _ I10 q10) λz s11 q0_ => ?_
    obtain ⟨vz,H11,I11,r11,q11⟩ := q0_
    obtain ⟨acc,ha,hz,m',hm,w11⟩:=hN2 _ _ q11
    refine Gh (Pg _ s11 _ H11 (.ref s2.heap.objs.size) [vz] (.ref s2.heap.objs.size) [z] (λ_ H'=>H'=upd H11 s2.heap.objs.size (.lst (acc++[vz]))) I11 rfl (.cons r11 .nil) ⟨_,acc,vz,rfl,rfl,ha,hz,rfl⟩) λ_ s12 q0_ => ?_
    obtain ⟨_,H12,I12,_,e12⟩ := q0_
    subst e12
    exact again I12 hm w11
 exact Ml (loop _ rfl) (T.self X.A 0 _ _ _ st4 (loop _ rfl))
end
theorem Gu{H:Hp}{p:Addr}(h:H p=none)(o:HO):Nh H (upd H p o):=λb u q=>by rw[Fd (Fi q h)]; exact q
theorem Gb{α:Type}{xs:List α}{i:Nat}{x:α}(h:xs[i]? = some x):xs.take (i+1)=xs.take i++[x]:=by
 rw[List.take_succ,h]; rfl
mutual
inductive RdV (K:PySem.W.Frag) (H:Hp):V->Ad->Prop
 | non:RdV K H .non .none
 | bl (b:Bool):RdV K H (.bl b) (.bool b)
 | int (i:Int):RdV K H (.int i) (.int i)
 | str (x:Str):RdV K H (.str x) (.str x)
 | lst {a:Addr} {xs:List V} {ds:List Ad}:Za K H a xs->RdVs K H xs ds->RdV K H (.ref a) (.list ds)
 | tup {a:Addr} {xs:List V} {ds:List Ad}:Vi K H a xs->RdVs K H xs ds->RdV K H (.ref a) (.tuple ds)
inductive RdVs (K:PySem.W.Frag) (H:Hp):List V->List Ad->Prop
 | nil:RdVs K H [] []
 | cons {x:V} {d:Ad} {xs:List V} {ds:List Ad}:RdV K H x d->RdVs K H xs ds->RdVs K H (x::xs) (d::ds)
end
section
variable{X:Cx}{pins:List (Addr×Obj)}{σ:L2.St}{H H':Hp}{s:Ah}{K:PySem.W.Frag}
mutual
theorem RdV.reads(I:Inv X pins σ H s):∀{v:V} {d:Ad} {u:Value},RdV X.K H v d->RelV v u->∃as,Reads s.heap u d as
 | _,_,_,.non,r=>by cases r; exact ⟨_,.none⟩
 | _,_,_,.bl b,r=>by cases r; exact ⟨_,.bool b⟩
 | _,_,_,.int i,r=>by obtain ⟨t,rfl⟩:=r; exact ⟨_,.int i t⟩
 | _,_,_,.str x,r=>by obtain ⟨t,rfl⟩:=r; exact ⟨_,.str x t⟩
 | _,_,_,.lst h hs,r=>by
  cases r
  obtain ⟨its,rv,⟨o,n,e,hc,_,hd⟩,_⟩:=I.list h
  obtain ⟨as,ra⟩:=RdVs.reads I hs rv
  exact ⟨_,.list e hc hd (by simpa using ra)⟩
 | _,_,_,.tup h hs,r=>by
  cases r
  obtain ⟨its,rv,⟨o,e,hc,n,hd⟩,_⟩:=I.tuple h
  obtain ⟨as,ra⟩:=RdVs.reads I hs rv
  exact ⟨_,.tuple e hc hd (by simpa using ra)⟩
theorem RdVs.reads(I:Inv X pins σ H s):∀{vs:List V} {ds:List Ad} {us:List Value},RdVs X.K H vs ds->Fq vs us->∃as,ReadsAll s.heap us ds as
 | _,_,_,.nil,r=>by cases r; exact ⟨_,.nil⟩
 | _,_,_,.cons h hs,r=>by
  cases r with
  | cons r rs =>
   obtain ⟨as,ra⟩:=RdV.reads I h r
   obtain ⟨bs,rb⟩:=RdVs.reads I hs rs
   exact ⟨_,.cons ra rb⟩
end
mutual
theorem RdV.noDict:∀{v:V} {d:Ad},RdV K H v d->d.hasDict=false
 | _,_,.non=>by simp only[Kq]
 | _,_,.bl b=>by simp only[Kq]
 | _,_,.int i=>by simp only[Kq]
 | _,_,.str x=>by simp only[Kq]
 | _,_,.lst h hs=>by simp only[Kq]; exact RdVs.noDict hs
 | _,_,.tup h hs=>by simp only[Kq]; exact RdVs.noDict hs
theorem RdVs.noDict:∀{vs:List V} {ds:List Ad},RdVs K H vs ds->Xy ds=false
 | _,_,.nil=>by simp only[Xy]
 | _,_,.cons h hs=>by simp only[Xy,RdV.noDict h,RdVs.noDict hs,Bool.or_self]
end
end
mutual
def Po(b:Nat):Ad->Prop
 | .none=>True
 | .bool _=>True
 | .int i=>i.natAbs<10 ^ b
 | .str x=>(reprText x).length<=b
 | .list xs=>Qm b xs
 | .tuple xs=>Qm b xs
 | .dict _=>False
def Qm(b:Nat):List Ad->Prop
 | []=>True
 | x::xs=>Po b x/\Qm b xs
end
mutual
def Mi:Ad->Nat
 | .list xs=>Pm xs+1
 | .tuple xs=>Pm xs+1
 | _=>1
def Pm:List Ad->Nat
 | []=>0
 | x::xs=>Mi x+Pm xs
end
theorem pD(ns:List Int):Bk (ns.map Bs)=0:=by
 induction ns with
 | nil=>rfl
 | cons n ns ih=>simp only[Ar,Bk,Cv,ih,Nat.max_self]
theorem Ye{m:Nat}:∀{xs:List Ad},(∀x∈xs,x.depth<=m)->Bk xs<=m
 | [],_=>by simp [Bk]
 | x::xs,h=>by
  have h1:=h x (Aa ..)
  have h2:=Ye (xs:=xs) λy hy=>h y (Ae _ hy)
  simp only[Bk]
  omega
theorem mE(ts:List Str):(listText ts).length<=piled ts+2:=by
 cases ts with
 | nil=>rw[listText_nil]; decide
 | cons t r =>
  have h:=textFrom_length_pos r 1 (("[" : Str)++(if (0:Nat) > 0 then ", " else "" : String)++t) (Iv 0)
  have e:((("[" : Str)++(if (0:Nat) > 0 then ", " else "" : String)++t)).length=1+t.length:=by
   rw[Gi,Gi]; rfl
  have hX:(listText (t::r)).length=(textFrom 0 "[" (t::r)).length+1:=by
   show (textFrom 0 "[" (t::r) ++ "]").length=_
   rw[Gi]; rfl
  have hY:(textFrom 0 "[" (t::r)).length=(textFrom 1 (("[" : Str)++(if (0:Nat) > 0 then ", " else "" : String)++t) r).length:=rfl
  rw[hX,hY,h,e,piled_cons]; omega
theorem fQ(ts:List Str):(tupleText ts).length<=piled ts+3:=by
 unfold tupleText
 rw[Gi,Gi]
 have e1:((("(" : String):Str)).length=1:=rfl
 have e3:(((if ts.length == 1 then ",)" else ")" : String):Str)).length<=2:=by split <;> decide
 rw[e1]
 by_cases h:ts=[]
 ·subst h
  have : (Str.join ", " []).length=0:=rfl
  omega
 ·have:=join_length_add ts h
  omega
mutual
theorem kW{b:Nat}:∀{d:Ad},Po b d->d.shown.length+4<=(b+12) * Mi d
 | .none,_=>by simp only[Nm,Mi]; show 4+4<=_; omega
 | .bool c,_=>by
  simp only[Nm,Mi]
  cases c
  ·show 5+4<=_; omega
  ·show 4+4<=_; omega
 | .int i,h=>by
  simp only[Nm,Mi]
  have h':i.natAbs<10 ^ b:=by simpa only [Po] using h
  have h2:i.natAbs<10 ^ (b+1):=By h' (Vd (by decide) (by omega))
  have h3:(Ju (Yq i)).length<=b+2:=by
   have h4:=int_text_length_le10 (a:=i) (k:=b+1) (by omega) h2
   have h5:(Ju (Yq i)).length=(Yq i).length:=PySem.ofString_length _
   omega
  have h6:((Yq i:String):Str).length=(Ju (Yq i)).length:=rfl
  omega
 | .str x,h=>by
  simp only[Nm,Mi]
  have h':(reprText x).length<=b:=by simpa only [Po] using h
  omega
 | .list xs,h=>by
  simp only[Nm,Mi]
  have h1:=Si (b:=b) (xs:=xs) (by simpa only [Po] using h)
  have h2:=mE (Mq xs)
  rw[Nat.mul_add]
  omega
 | .tuple xs,h=>by
  simp only[Nm,Mi]
  have h1:=Si (b:=b) (xs:=xs) (by simpa only [Po] using h)
  have h2:=fQ (Mq xs)
  rw[Nat.mul_add]
  omega
 | .dict kvs,h=>by simp only[Po] at h
theorem Si{b:Nat}:∀{xs:List Ad},Qm b xs->piled (Mq xs)<=(b+12) * Pm xs
 | [],_=>by simp only[Mq,Pm,piled_nil]; omega
 | x::xs,h=>by
  simp only[Qm] at h
  have h1:=kW h.1
  have h2:=Si h.2
  simp only[Mq,Pm,piled_cons]
  rw[Nat.mul_add]
  omega
end
theorem sU{b i:Nat}(hb:b<=400)(h:i<10 ^ b):i.log2<1920:=by
 have h1:i<2 ^ 1920:=By h (Ba (Vd (by decide) hb) (by decide +kernel))
 by_cases z:i=0
 ·subst z; decide
 ·exact (Nat.log2_lt z).mpr h1
mutual
theorem Yh{b:Nat}(hb:b<=400):∀{d:Ad},Po b d->d.showable=true
 | .none,_=>by simp only[Ii]
 | .bool c,_=>by simp only[Ii]
 | .int i,h=>by
  simp only[Ii]
  exact decide_eq_true (sU hb (by simpa only [Po] using h))
 | .str x,h=>by simp only[Ii]
 | .list xs,h=>by simp only[Ii]; exact showableAll_of hb (by simpa only [Po] using h)
 | .tuple xs,h=>by simp only[Ii]; exact showableAll_of hb (by simpa only [Po] using h)
 | .dict kvs,h=>by simp only[Po] at h
theorem showableAll_of{b:Nat}(hb:b<=400):∀{xs:List Ad},Qm b xs->Wn xs=true
 | [],_=>by simp only[Wn]
 | x::xs,h=>by
  simp only[Qm] at h
  simp only[Wn,Yh hb h.1,showableAll_of hb h.2,Bool.and_self]
end
def Ro:Ad->Str
 | .str x=>x
 | d=>d.shown
structure Tells(K:PySem.W.Frag)(H:Hp)(x:V)(d:Ad):Prop where
 rd:RdV K H x d
 fits:∃b,b<=400/\Po b d/\(b+12) * Mi d<=Ax
 depth:d.depth<=90
def EZ(K:PySem.W.Frag):List V->Hp->VK->Prop:=λxs H Q=>∃x d,xs=[x]/\Tells K H x d/\Q (.str (Ro d)) H
theorem Pc{X:Cx}(hg:X.A.guards=some [])(hu:X.A.units+100<cLine):Kb X (.type "str") (EZ X.K):=by
 intro pins s σ H xs us Q I r h
 obtain ⟨x,d,rfl,⟨hr,⟨b,hb,hf,hz⟩,hd⟩,q⟩:=h
 obtain ⟨u,rfl,ru⟩:=vals1 r
 have hs:=Yh hb hf
 have hl:d.shown.length<=Ax:=by have:=kW hf; omega
 have hnd:=hr.noDict
 obtain ⟨as,rs⟩:=hr.reads I ru
 cases hr with
 | non=>cases ru; exact PySem.P.str_of_none ⟨.str _,H,I.tok _,⟨_,rfl⟩,q⟩
 | bl c=>cases ru; exact PySem.P.str_of_bool ⟨.str _,H,I.tok _,⟨_,rfl⟩,by cases c <;> exact q⟩
 | int i =>
  obtain ⟨t,rfl⟩:=ru
  exact PySem.P.str_of_int (by simpa [Ii] using hs) ⟨.str _,H,I.tok _,⟨_,rfl⟩,q⟩
 | str y =>
  obtain ⟨t,rfl⟩:=ru
  exact PySem.P.str_of_str ⟨.str _,H,I,⟨_,rfl⟩,q⟩
 | lst h1 h2 =>
  cases ru
  exact str_of_reads rs hs (λz=>by rw[hnd] at z; cases z) hg (by omega) (λ_ _ e=>e) (λh' u tk hk=>⟨.str _,H,I.kept hk,⟨_,rfl⟩,q⟩) hl
 | tup h1 h2 =>
  cases ru
  exact str_of_reads rs hs (λz=>by rw[hnd] at z; cases z) hg (by omega) (λ_ _ e=>e) (λh' u tk hk=>⟨.str _,H,I.kept hk,⟨_,rfl⟩,q⟩) hl
theorem Fq.at'{xs:List V}{us:List Value}(r:Fq xs us){j:Nat}(h:j<us.length):∃x,xs[j]? = some x/\RelV x us[j]:=by
 have hl:=r.length
 have hj:j<xs.length:=by omega
 obtain ⟨u,hu,ru⟩:=r.get (i:=j) (x:=xs[j]) (by simp [hj])
 rw[Dg h] at hu
 cases hu
 exact ⟨xs[j],by simp [hj],ru⟩
section
variable{X:Cx}{pins:List (Addr×Obj)}{σ:L2.St}{H:Hp}{s:Ah}{A:Cr}
theorem Xn(A:Cr):A.in1.units<=A.units+1:=by
 first | exact Al _ | (simp [Around.in1]; done) | (unfold Around.in1; simp)
theorem lP:Kb X (.builtin "isinstance") (λxs H Q=>∃x n t b,xs=[x,.ty n]/\TyOf X.K H x t/\PySem.W.kitOne X.K t (.type n)=some b/\Q (.bl b) H):=by
 intro pins s σ H xs us Q I r h
 obtain ⟨x,n,t,b,rfl,ty,e,q⟩:=h
 obtain ⟨u,v,rfl,ru,rv⟩:=vals2 r
 cases rv
 exact sS I ru ty e λtk=>⟨.bl b,H,I.tok _,rfl,q⟩
theorem wO(hc:X.calm=true):Kb X (.builtin "all") (λxs H Q=>∃(p:Addr) (bs:List Bool),xs=[.ref p]/\Za X.K H p (bs.map V.bl)/\Q (.bl (bs.all id)) H):=by
 intro pins s σ H xs us Q I r h
 obtain ⟨p,bs,rfl,hp,q⟩:=h
 obtain ⟨u,rfl,ru⟩:=vals1 r
 cases ru
 obtain ⟨its,rv,pl,_⟩:=I.list hp
 have hlen:its.toArray.size=bs.length:=by
  have:=rv.length
  rw[Ab] at this
  rw[Aq]; omega
 refine call_all_walk (fK pl.isList ?_)
 have hd:X.A.in1.handled=none:=I.ok.hd hc
 have ne:p≠s.heap.objs.size:=Ct (let ⟨o,q,_⟩:=pl.isList; Az q)
 refine ⟨s.heap.objs.size,_,_,_,_,_,λi=>bs.getD i false,rfl,Walks.list hd s.heap.objs.size p ne its.toArray,⟨⟨_,Bi _ rfl,rfl,rfl⟩,pl.isList.push _⟩,?_,?_⟩
 ·intro i v s' Q' E' hv hq
  have hv':its[i]? = some v:=by simpa using hv
  have hi:i<its.length:=(Av.mp hv').1
  obtain ⟨x,e1,q1⟩:=Fq.at' rv hi
  rw[Dg hi] at hv'
  have hv'':its[i]=v:=Br hv'
  rw[hv''] at q1
  rw[Cn] at e1
  cases eb:bs[i]? with
  | none=>rw[eb] at e1; cases e1
  | some b =>
   rw[eb] at e1
   cases e1
   cases q1
   have : bs.getD i false=b:=by simp [List.getD_eq_getElem?_getD,eb]
   have hq':Q' (bs.getD i false) s':=hq
   rw[this] at hq'
   exact Ht hq'
 ·intro h' tk hk
  have e:((Cc its.toArray.size).all λi=>bs.getD i false)=bs.all id:=by
   rw[hlen]
   have : bs=(Cc bs.length).map (λj=>bs.getD j false):=(range_getD bs false).symm
   conv=>rhs; rw[this]
   rw[List.all_map]
   rfl
  rw[e]
  refine ⟨.bl _,H,I.kept (h':=h') (t':=tk) (λb o qq=>hk b o ?_ (Aj _ qq)),rfl,q⟩
  intro z
  have e2:b=s.heap.objs.size:=by simpa using z
  have e3:=Az qq
  rw[e2] at e3
  exact absurd e3 (Ep _)
end
section
variable{prog:Bh}{w:World}{A:Cr}{E:Value->Ah->Prop}{s:Ah}
theorem Tx{t sl:Addr}{items:Array Value}{vl vu:Value}{lo hi:Option Int}{Q:Value->Ah->Prop}(ht:IsTup s.heap t items)(hs:s.heap.IsSliceOf sl vl vu .none)(pl:Yw vl lo)(pu:Yw vu hi)(hw:HT.sIx items.size 0 lo=0/\HT.sIx items.size items.size hi=items.size)(h:Q (.ref t) s):wpAny (model prog w) A (getItem (.ref t) (.ref sl)) Q E s:=by
 obtain ⟨os,hos,hcs,hds⟩:=id hs
 have hTs:s.TypeIs (.ref sl) "slice" := ⟨os,hos,hcs⟩
 unfold getItem
 try with_reducible refine Dq ?_
 first | refine Ac (Ao ?_) | skip
 refine Ac (wpAny_sequenceKey ht.typeIs (by decide) ?_)
 refine Ac (Lw (name:=Ju "__getitem__") ht.typeIs Eo
  (Iq Eo ht.typeIs entry_tuple_getitem ?_ (args_tuple_getitem _ _)))
 show wpAny _ _ (Ws (.ref t) >>= _) _ _ s
 refine Ac (tupleItemsOf_ ht ?_)
 refine Ac (Vb hTs ?_)
 rw[if_pos (by decide)]
 refine Ac (HT.sliceApplied_gen hs pl pu ?_)
 rw[hw.1,hw.2]
 have hyes:(((0:Nat):Int) == 0 && (1:Int) == 1 && (items.size - 0) == items.size)=true:=by simp
 show wpAny _ _ (if (((0:Nat):Int) == 0 && (1:Int) == 1 && (items.size - 0) == items.size)=true then _ else _) _ _ s
 rw[if_pos hyes]
 have hex:∀{R:Bool->Ah->Prop},R true s->wpAny (model prog w) A.in1 (Wt (.ref t)) R E s:=λ{R} hR=>by
  unfold Wt
  refine Ac (Vb ht.typeIs (Ao ?_))
  rw[beq_self_eq_true]
  exact hR
 refine Ac (hex ?_)
 rw[if_pos rfl]
 exact Ac (wpAny_rule (Ao ⟨_,rfl,Ao h⟩))
end
mutual
def Ds:Ad->Ad->Bool
 | .none,.none=>true
 | .bool a,.bool b=>a == b
 | .bool a,.int b=>(if a then 1 else 0) == b
 | .int a,.bool b=>a == (if b then 1 else 0)
 | .int a,.int b=>a == b
 | .str a,.str b=>a == b
 | .list xs,.list ys=>Ko xs ys
 | .tuple xs,.tuple ys=>Ko xs ys
 | _,_=>false
def Ko:List Ad->List Ad->Bool
 | [],[]=>true
 | x::xs,y::ys=>Ds x y && Ko xs ys
 | _,_=>false
end
theorem Nk:∀ds es:List Ad,(((Cc (min ds.length es.length)).all λj=>Ds (ds.getD j .none) (es.getD j .none)) && ds.length == es.length)=Ko ds es
 | [],[]=>by simp [Ko]
 | [],_::_=>by simp [Ko]
 | _::_,[]=>by simp [Ko]
 | d::ds,e::es=>by
  have ih:=Nk ds es
  rw[Ko,<- ih]
  have h1:min (d::ds).length (e::es).length=min ds.length es.length+1:=by simp only[Bq]; omega
  rw[h1,List.range_succ_eq_map,List.all_cons,List.all_map]
  have h2:((d::ds).length == (e::es).length)=(ds.length == es.length):=by
   rw[Bool.eq_iff_iff]; simp
  rw[h2,Bool.and_assoc]
  rfl
section
variable{X:Cx}{pins:List (Addr×Obj)}{σ:L2.St}{H:Hp}{s:Ah}{K:PySem.W.Frag}
mutual
theorem RdV.eqD_self:∀{v:V} {d:Ad},RdV K H v d->Ds d d=true
 | _,_,.non=>by simp [Ds]
 | _,_,.bl b=>by simp [Ds]
 | _,_,.int i=>by simp [Ds]
 | _,_,.str x=>by simp [Ds]
 | _,_,.lst _ h=>by rw[Ds]; exact RdVs.eqDs_self h
 | _,_,.tup _ h=>by rw[Ds]; exact RdVs.eqDs_self h
theorem RdVs.eqDs_self:∀{vs:List V} {ds:List Ad},RdVs K H vs ds->Ko ds ds=true
 | _,_,.nil=>by simp [Ko]
 | _,_,.cons h t=>by rw[Ko,RdV.eqD_self h,RdVs.eqDs_self t]; rfl
end
theorem kY(I:Inv X pins σ H s){a:Addr}{xs ys:List V}(h1:Za X.K H a xs)(h2:Vi X.K H a ys):False:=by
 obtain ⟨us,_,p1,_⟩:=I.list h1
 obtain ⟨vs,_,p2,_⟩:=I.tuple h2
 exact SeqAt.ne_of_list_tuple p1.isList p2 rfl
mutual
theorem RdV.det(I:Inv X pins σ H s):∀{v:V} {d e:Ad},RdV X.K H v d->RdV X.K H v e->d=e
 | _,_,_,.non,h=>by cases h; rfl
 | _,_,_,.bl b,h=>by cases h; rfl
 | _,_,_,.int i,h=>by cases h; rfl
 | _,_,_,.str x,h=>by cases h; rfl
 | _,_,_,.lst q r,h=>by
  cases h with
  | lst q' r' =>
   have e:=I.list_inj q q'
   subst e
   rw[RdVs.det I r r']
  | tup q' r'=>exact (kY I q q').elim
 | _,_,_,.tup q r,h=>by
  cases h with
  | lst q' r'=>exact (kY I q' q).elim
  | tup q' r' =>
   have e:=I.tuple_inj q q'
   subst e
   rw[RdVs.det I r r']
theorem RdVs.det(I:Inv X pins σ H s):∀{vs:List V} {ds es:List Ad},RdVs X.K H vs ds->RdVs X.K H vs es->ds=es
 | _,_,_,.nil,h=>by cases h; rfl
 | _,_,_,.cons r t,h=>by
  cases h with
  | cons r' t'=>rw[RdV.det I r r',RdVs.det I t t']
end
theorem RdVs.length:∀{vs:List V} {ds:List Ad},RdVs K H vs ds->vs.length=ds.length
 | _,_,.nil=>rfl
 | _,_,.cons _ t=>by rw[Bq,Bq,RdVs.length t]
theorem Xb{A:Cr}{n:Nat}(h:A.units+(n+1)<cLine):A.in1.units+n<cLine:=by
 have:=Xn A
 omega
theorem mX{A:Cr}{a b:Addr}{us vs:List Value}{ds es:List Ad}(p1:PlainL s.heap a us.toArray)(p2:PlainL s.heap b vs.toArray)(l1:us.length=ds.length)(l2:vs.length=es.length)(hu:A.units<cLine)(he:∀j (h1:j<us.length) (h2:j<vs.length),Og A.in1 s us[j] vs[j] (Ds (ds.getD j .none) (es.getD j .none))):SeqAt.RcAt A s (.ref a) (.ref b) (Ko ds es):=by
 rw[<- Nk]
 by_cases hl:ds.length=es.length
 ·have hs:us.toArray.size=vs.toArray.size:=by rw[Aq,Aq,l1,l2,hl]
  have h:=SeqAt.RcAt.lists (A:=A) (e:=λj=>Ds (ds.getD j .none) (es.getD j .none)) p1.isList p2.isList hs hu (λj h1 h2=>by simpa using he j (by simpa using h1) (by simpa using h2))
  rw[Aq,l1] at h
  rw[hl,Nat.min_self,beq_self_eq_true,Bool.and_true,<- hl]
  exact h
 ·have hs:(us.toArray.size != vs.toArray.size)=true:=by rw[Aq,Aq,l1,l2]; simpa using hl
  have h:=SeqAt.RcAt.lists_lengths (A:=A) p1.isList p2.isList hs hu
  have e0:(ds.length == es.length)=false:=by simpa using hl
  rw[e0,Fp]
  exact h
theorem eB{A:Cr}{a b:Addr}{us vs:List Value}{ds es:List Ad}(p1:IsTup s.heap a us.toArray)(p2:IsTup s.heap b vs.toArray)(l1:us.length=ds.length)(l2:vs.length=es.length)(hu:A.units<cLine)(he:∀j (h1:j<us.length) (h2:j<vs.length),Og A.in1 s us[j] vs[j] (Ds (ds.getD j .none) (es.getD j .none))):SeqAt.RcAt A s (.ref a) (.ref b) (Ko ds es):=by
 rw[<- Nk]
 have h:=SeqAt.RcAt.tuples (A:=A) (e:=λj=>Ds (ds.getD j .none) (es.getD j .none)) (show s.heap.IsTuple a us.toArray from p1) (show s.heap.IsTuple b vs.toArray from p2) hu (λj h1 h2=>by simpa using he j (by simpa using h1) (by simpa using h2))
 rw[Aq,Aq,l1,l2] at h
 exact h
mutual
theorem xM(I:Inv X pins σ H s):∀{A:Cr} {x y:V} {d e:Ad} {u v:Value},RdV X.K H x d->RdV X.K H y e->RelV x u->RelV y v->A.units+d.depth<cLine->Og A s u v (Ds d e)
 | A,_,_,_,_,_,_,.non,h,ru,rv,hu=>by
  cases ru
  have hu':A.units<cLine:=by omega
  cases h with
  | non=>cases rv; rw[Ds]; exact SeqAt.EqAt.same _
  | bl b=>cases rv; rw[Ds]; exact SeqAt.EqAt.none_bool b; all_goals simp
  | int b=>obtain ⟨t,rfl⟩:=rv; rw[Ds]; exact SeqAt.EqAt.none_int b t; all_goals simp
  | str b=>obtain ⟨t,rfl⟩:=rv; rw[Ds]; exact SeqAt.EqAt.none_str b t; all_goals simp
  | lst q r=>cases rv; obtain ⟨us,_,p,_⟩:=I.list q; rw[Ds]; exact SeqAt.EqAt.none_list p.isList hu'; all_goals simp
  | tup q r=>cases rv; obtain ⟨us,_,p,_⟩:=I.tuple q; rw[Ds]; exact SeqAt.EqAt.none_tuple p hu'; all_goals simp
 | A,_,_,_,_,_,_,.bl a,h,ru,rv,hu=>by
  cases ru
  have hu':A.units<cLine:=by omega
  cases h with
  | non=>cases rv; rw[Ds]; exact SeqAt.EqAt.bool_none a; all_goals simp
  | bl b=>cases rv; rw[Ds]; exact SeqAt.EqAt.bool_bool a b
  | int b=>obtain ⟨t,rfl⟩:=rv; rw[Ds]; exact SeqAt.EqAt.bool_int a b t
  | str b=>obtain ⟨t,rfl⟩:=rv; rw[Ds]; exact SeqAt.EqAt.bool_str a b t; all_goals simp
  | lst q r=>cases rv; obtain ⟨us,_,p,_⟩:=I.list q; rw[Ds]; exact SeqAt.EqAt.bool_list a p.isList hu'; all_goals simp
  | tup q r=>cases rv; obtain ⟨us,_,p,_⟩:=I.tuple q; rw[Ds]; exact SeqAt.EqAt.bool_tuple a p hu'; all_goals simp
 | A,_,_,_,_,_,_,.int a,h,ru,rv,hu=>by
  obtain ⟨t',rfl⟩:=ru
  have hu':A.units<cLine:=by omega
  cases h with
  | non=>cases rv; rw[Ds]; exact SeqAt.EqAt.int_none a t'; all_goals simp
  | bl b=>cases rv; rw[Ds]; exact SeqAt.EqAt.int_bool a t' b
  | int b=>obtain ⟨t,rfl⟩:=rv; rw[Ds]; exact SeqAt.EqAt.int_int a t' b t
  | str b=>obtain ⟨t,rfl⟩:=rv; rw[Ds]; exact SeqAt.EqAt.int_str a t' b t; all_goals simp
  | lst q r=>cases rv; obtain ⟨us,_,p,_⟩:=I.list q; rw[Ds]; exact SeqAt.EqAt.int_list a t' p.isList hu'; all_goals simp
  | tup q r=>cases rv; obtain ⟨us,_,p,_⟩:=I.tuple q; rw[Ds]; exact SeqAt.EqAt.int_tuple a t' p hu'; all_goals simp
 | A,_,_,_,_,_,_,.str a,h,ru,rv,hu=>by
  obtain ⟨t',rfl⟩:=ru
  have hu':A.units<cLine:=by omega
  cases h with
  | non=>cases rv; rw[Ds]; exact SeqAt.EqAt.str_none a t'; all_goals simp
  | bl b=>cases rv; rw[Ds]; exact SeqAt.EqAt.str_bool a t' b; all_goals simp
  | int b=>obtain ⟨t,rfl⟩:=rv; rw[Ds]; exact SeqAt.EqAt.str_int a t' b t; all_goals simp
  | str b=>obtain ⟨t,rfl⟩:=rv; rw[Ds]; exact SeqAt.EqAt.str_str a t' b t
  | lst q r=>cases rv; obtain ⟨us,_,p,_⟩:=I.list q; rw[Ds]; exact SeqAt.EqAt.str_list a t' p.isList hu'; all_goals simp
  | tup q r=>cases rv; obtain ⟨us,_,p,_⟩:=I.tuple q; rw[Ds]; exact SeqAt.EqAt.str_tuple a t' p hu'; all_goals simp
 | A,_,_,_,_,_,_,@RdV.lst _ _ a xs ds q r,h,ru,rv,hu=>by
  cases ru
  have hu':A.units<cLine:=by omega
  obtain ⟨us,r1,p,_⟩:=I.list q
  cases h with
  | non=>cases rv; rw[Ds]; exact SeqAt.EqAt.list_none p.isList hu'; all_goals simp
  | bl b=>cases rv; rw[Ds]; exact SeqAt.EqAt.list_bool b p.isList hu'; all_goals simp
  | int b=>obtain ⟨t,rfl⟩:=rv; rw[Ds]; exact SeqAt.EqAt.list_int b t p.isList hu'; all_goals simp
  | str b=>obtain ⟨t,rfl⟩:=rv; rw[Ds]; exact SeqAt.EqAt.list_str b t p.isList hu'; all_goals simp
  | @lst b ys es q2 rr2 =>
   cases rv
   obtain ⟨vs,r2,p2,_⟩:=I.list q2
   rw[Ds]
   by_cases hab:a=b
   ·subst hab
    have e:=I.list_inj q q2
    subst e
    rw[<- RdVs.det I r rr2,RdVs.eqDs_self r]
    exact SeqAt.EqAt.same _
   ·refine SeqAt.EqAt.of_refs hab (mX p p2 (r1.length.symm.trans r.length) (r2.length.symm.trans rr2.length) hu' λj h1 h2=>?_)
    exact Qi I r rr2 r1 r2 (Xb (by simpa only [Cv] using hu)) j h1 h2
  | tup q2 rr2=>cases rv; obtain ⟨vs,_,p2,_⟩:=I.tuple q2; rw[Ds]; exact SeqAt.EqAt.list_tuple p.isList p2 hu'; all_goals simp
 | A,_,_,_,_,_,_,@RdV.tup _ _ a xs ds q r,h,ru,rv,hu=>by
  cases ru
  have hu':A.units<cLine:=by omega
  obtain ⟨us,r1,p,_⟩:=I.tuple q
  cases h with
  | non=>cases rv; rw[Ds]; exact SeqAt.EqAt.tuple_none p hu'; all_goals simp
  | bl b=>cases rv; rw[Ds]; exact SeqAt.EqAt.tuple_bool b p hu'; all_goals simp
  | int b=>obtain ⟨t,rfl⟩:=rv; rw[Ds]; exact SeqAt.EqAt.tuple_int b t p hu'; all_goals simp
  | str b=>obtain ⟨t,rfl⟩:=rv; rw[Ds]; exact SeqAt.EqAt.tuple_str b t p hu'; all_goals simp
  | lst q2 rr2=>cases rv; obtain ⟨vs,_,p2,_⟩:=I.list q2; rw[Ds]; exact SeqAt.EqAt.tuple_list p p2.isList hu'; all_goals simp
  | @tup b ys es q2 rr2 =>
   cases rv
   obtain ⟨vs,r2,p2,_⟩:=I.tuple q2
   rw[Ds]
   by_cases hab:a=b
   ·subst hab
    have e:=I.tuple_inj q q2
    subst e
    rw[<- RdVs.det I r rr2,RdVs.eqDs_self r]
    exact SeqAt.EqAt.same _
   ·refine SeqAt.EqAt.of_refs hab (eB p p2 (r1.length.symm.trans r.length) (r2.length.symm.trans rr2.length) hu' λj h1 h2=>?_)
    exact Qi I r rr2 r1 r2 (Xb (by simpa only [Cv] using hu)) j h1 h2
theorem Qi(I:Inv X pins σ H s):∀{A:Cr} {xs ys:List V} {ds es:List Ad} {us vs:List Value},RdVs X.K H xs ds->RdVs X.K H ys es->Fq xs us->Fq ys vs->A.units+Bk ds<cLine->∀j (h1:j<us.length) (h2:j<vs.length),Og A s us[j] vs[j] (Ds (ds.getD j .none) (es.getD j .none))
 | _,_,_,_,_,_,_,.nil,_,r1,_,_=>λj h1 h2=>by cases r1; exact absurd h1 (Fc _)
 | A,_,_,_,_,_,_,@RdVs.cons _ _ x d xs ds r t,h,r1,r2,hu=>λj h1 h2=>by
  cases h with
  | nil=>cases r2; exact absurd h2 (Fc _)
  | cons r' t' =>
   cases r1 with
   | cons ra ta =>
    cases r2 with
    | cons rb tb =>
     have hm:A.units+d.depth<cLine/\A.units+Bk ds<cLine:=by
      simp only[Bk] at hu
      omega
     cases j with
     | zero=>simpa using xM I r r' ra rb hm.1
     | succ j=>simpa using Qi I t t' ta tb hm.2 j (by simpa using h1) (by simpa using h2)
end
end
section
variable{X:Cx}{pins:List (Addr×Obj)}{σ:L2.St}{H:Hp}{s:Ah}{K:PySem.W.Frag}
theorem sL{A:Cr}{a b:Addr}{us vs:List Value}{ds es:List Ad}(p1:PlainL s.heap a us.toArray)(p2:PlainL s.heap b vs.toArray)(l1:us.length=ds.length)(l2:vs.length=es.length)(hu:A.units<cLine)(he:∀j (h1:j<us.length) (h2:j<vs.length),Og A.in1 s us[j] vs[j] (Ds (ds.getD j .none) (es.getD j .none))):SeqAt.RcNeAt A s (.ref a) (.ref b) (!Ko ds es):=by
 rw[<- Nk]
 by_cases hl:ds.length=es.length
 ·have hs:us.toArray.size=vs.toArray.size:=by rw[Aq,Aq,l1,l2,hl]
  have h:=SeqAt.RcNeAt.lists (A:=A) (e:=λj=>Ds (ds.getD j .none) (es.getD j .none)) p1.isList p2.isList hs hu (λj h1 h2=>by simpa using he j (by simpa using h1) (by simpa using h2))
  rw[Aq,l1] at h
  rw[hl,Nat.min_self,beq_self_eq_true,Bool.and_true,<- hl]
  exact h
 ·have hs:(us.toArray.size != vs.toArray.size)=true:=by rw[Aq,Aq,l1,l2]; simpa using hl
  have h:=SeqAt.RcNeAt.lists_lengths (A:=A) p1.isList p2.isList hs hu
  have e0:(ds.length == es.length)=false:=by simpa using hl
  rw[e0,Fp]
  exact h
theorem nR{A:Cr}{a b:Addr}{us vs:List Value}{ds es:List Ad}(p1:IsTup s.heap a us.toArray)(p2:IsTup s.heap b vs.toArray)(l1:us.length=ds.length)(l2:vs.length=es.length)(hu:A.units<cLine)(he:∀j (h1:j<us.length) (h2:j<vs.length),Og A.in1 s us[j] vs[j] (Ds (ds.getD j .none) (es.getD j .none))):SeqAt.RcNeAt A s (.ref a) (.ref b) (!Ko ds es):=by
 rw[<- Nk]
 have h:=SeqAt.RcNeAt.tuples (A:=A) (e:=λj=>Ds (ds.getD j .none) (es.getD j .none)) (show s.heap.IsTuple a us.toArray from p1) (show s.heap.IsTuple b vs.toArray from p2) hu (λj h1 h2=>by simpa using he j (by simpa using h1) (by simpa using h2))
 rw[Aq,Aq,l1,l2] at h
 exact h
end
section
variable{X:Cx}
def CJ(K:PySem.W.Frag):R2:=λx y H Q=>∃d e,RdV K H x d/\RdV K H y e/\d.depth<=60/\Q (.bl (Ds d e)) H
def EU(K:PySem.W.Frag):R2:=λx y H Q=>∃d e,RdV K H x d/\RdV K H y e/\d.depth<=60/\Q (.bl (!Ds d e)) H
theorem xU(hu:X.A.units+64<cLine):Ue X (Ge .Eq) (CJ X.K):=by
 intro pins s σ H x y v u Q I rx ry h
 obtain ⟨d,e,h1,h2,hd,q⟩:=h
 have hu':X.A.units<cLine:=by omega
 cases h1 with
 | non =>
  cases rx
  cases h2 with
  | non=>cases ry; rw[Ds] at q; exact SeqAt.RcAt.none_none _ _ _ _ ⟨.bl _,H,I,rfl,q⟩
  | bl b=>cases ry; rw[Ds] at q; exact SeqAt.RcAt.none_bool b _ _ _ _ ⟨.bl _,H,I,rfl,q⟩; all_goals simp
  | int b=>obtain ⟨t,rfl⟩:=ry; rw[Ds] at q; exact SeqAt.RcAt.none_int b t _ _ _ _ ⟨.bl _,H,I,rfl,q⟩; all_goals simp
  | str b=>obtain ⟨t,rfl⟩:=ry; rw[Ds] at q; exact SeqAt.RcAt.none_str b t _ _ _ _ ⟨.bl _,H,I,rfl,q⟩; all_goals simp
  | @lst b ys es q2 rr2=>cases ry; obtain ⟨vs,r2,p2,_⟩:=I.list q2; rw[Ds] at q; exact SeqAt.RcAt.none_list p2.isList hu' _ _ _ _ ⟨.bl _,H,I,rfl,q⟩; all_goals simp
  | @tup b ys es q2 rr2=>cases ry; obtain ⟨vs,r2,p2,_⟩:=I.tuple q2; rw[Ds] at q; exact SeqAt.RcAt.none_tuple p2 hu' _ _ _ _ ⟨.bl _,H,I,rfl,q⟩; all_goals simp
 | bl a =>
  cases rx
  cases h2 with
  | non=>cases ry; rw[Ds] at q; exact SeqAt.RcAt.bool_none a _ _ _ _ ⟨.bl _,H,I,rfl,q⟩; all_goals simp
  | bl b=>cases ry; rw[Ds] at q; exact SeqAt.RcAt.bool_bool a b _ _ _ _ ⟨.bl _,H,I,rfl,q⟩
  | int b=>obtain ⟨t,rfl⟩:=ry; rw[Ds] at q; exact SeqAt.RcAt.bool_int a b t _ _ _ _ ⟨.bl _,H,I,rfl,q⟩
  | str b=>obtain ⟨t,rfl⟩:=ry; rw[Ds] at q; exact SeqAt.RcAt.bool_str a b t _ _ _ _ ⟨.bl _,H,I,rfl,q⟩; all_goals simp
  | @lst b ys es q2 rr2=>cases ry; obtain ⟨vs,r2,p2,_⟩:=I.list q2; rw[Ds] at q; exact SeqAt.RcAt.bool_list a p2.isList hu' _ _ _ _ ⟨.bl _,H,I,rfl,q⟩; all_goals simp
  | @tup b ys es q2 rr2=>cases ry; obtain ⟨vs,r2,p2,_⟩:=I.tuple q2; rw[Ds] at q; exact SeqAt.RcAt.bool_tuple a p2 hu' _ _ _ _ ⟨.bl _,H,I,rfl,q⟩; all_goals simp
 | int a =>
  obtain ⟨t',rfl⟩:=rx
  cases h2 with
  | non=>cases ry; rw[Ds] at q; exact SeqAt.RcAt.int_none a t' _ _ _ _ ⟨.bl _,H,I,rfl,q⟩; all_goals simp
  | bl b=>cases ry; rw[Ds] at q; exact SeqAt.RcAt.int_bool a t' b _ _ _ _ ⟨.bl _,H,I,rfl,q⟩
  | int b=>obtain ⟨t,rfl⟩:=ry; rw[Ds] at q; exact SeqAt.RcAt.int_int a t' b t _ _ _ _ ⟨.bl _,H,I,rfl,q⟩
  | str b=>obtain ⟨t,rfl⟩:=ry; rw[Ds] at q; exact SeqAt.RcAt.int_str a t' b t _ _ _ _ ⟨.bl _,H,I,rfl,q⟩; all_goals simp
  | @lst b ys es q2 rr2=>cases ry; obtain ⟨vs,r2,p2,_⟩:=I.list q2; rw[Ds] at q; exact SeqAt.RcAt.int_list a t' p2.isList hu' _ _ _ _ ⟨.bl _,H,I,rfl,q⟩; all_goals simp
  | @tup b ys es q2 rr2=>cases ry; obtain ⟨vs,r2,p2,_⟩:=I.tuple q2; rw[Ds] at q; exact SeqAt.RcAt.int_tuple a t' p2 hu' _ _ _ _ ⟨.bl _,H,I,rfl,q⟩; all_goals simp
 | str a =>
  obtain ⟨t',rfl⟩:=rx
  cases h2 with
  | non=>cases ry; rw[Ds] at q; exact SeqAt.RcAt.str_none a t' _ _ _ _ ⟨.bl _,H,I,rfl,q⟩; all_goals simp
  | bl b=>cases ry; rw[Ds] at q; exact SeqAt.RcAt.str_bool a t' b _ _ _ _ ⟨.bl _,H,I,rfl,q⟩; all_goals simp
  | int b=>obtain ⟨t,rfl⟩:=ry; rw[Ds] at q; exact SeqAt.RcAt.str_int a t' b t _ _ _ _ ⟨.bl _,H,I,rfl,q⟩; all_goals simp
  | str b=>obtain ⟨t,rfl⟩:=ry; rw[Ds] at q; exact SeqAt.RcAt.str_str a t' b t _ _ _ _ ⟨.bl _,H,I,rfl,q⟩
  | @lst b ys es q2 rr2=>cases ry; obtain ⟨vs,r2,p2,_⟩:=I.list q2; rw[Ds] at q; exact SeqAt.RcAt.str_list a t' p2.isList hu' _ _ _ _ ⟨.bl _,H,I,rfl,q⟩; all_goals simp
  | @tup b ys es q2 rr2=>cases ry; obtain ⟨vs,r2,p2,_⟩:=I.tuple q2; rw[Ds] at q; exact SeqAt.RcAt.str_tuple a t' p2 hu' _ _ _ _ ⟨.bl _,H,I,rfl,q⟩; all_goals simp
 | @lst a xs ds qa r =>
  cases rx
  obtain ⟨us,r1,p,_⟩:=I.list qa
  cases h2 with
  | non=>cases ry; rw[Ds] at q; exact SeqAt.RcAt.list_none p.isList hu' _ _ _ _ ⟨.bl _,H,I,rfl,q⟩; all_goals simp
  | bl b=>cases ry; rw[Ds] at q; exact SeqAt.RcAt.list_bool b p.isList hu' _ _ _ _ ⟨.bl _,H,I,rfl,q⟩; all_goals simp
  | int b=>obtain ⟨t,rfl⟩:=ry; rw[Ds] at q; exact SeqAt.RcAt.list_int b t p.isList hu' _ _ _ _ ⟨.bl _,H,I,rfl,q⟩; all_goals simp
  | str b=>obtain ⟨t,rfl⟩:=ry; rw[Ds] at q; exact SeqAt.RcAt.list_str b t p.isList hu' _ _ _ _ ⟨.bl _,H,I,rfl,q⟩; all_goals simp
  | @lst b ys es q2 rr2=>cases ry; obtain ⟨vs,r2,p2,_⟩:=I.list q2; rw[Ds] at q; exact mX p p2 (r1.length.symm.trans r.length) (r2.length.symm.trans rr2.length) hu' (λj h1 h2=>Qi I r rr2 r1 r2 (Xb (by simp only[Cv] at hd; omega)) j h1 h2) _ _ _ _ ⟨.bl _,H,I,rfl,q⟩
  | @tup b ys es q2 rr2=>cases ry; obtain ⟨vs,r2,p2,_⟩:=I.tuple q2; rw[Ds] at q; exact SeqAt.RcAt.list_tuple p.isList p2 hu' _ _ _ _ ⟨.bl _,H,I,rfl,q⟩; all_goals simp
 | @tup a xs ds qa r =>
  cases rx
  obtain ⟨us,r1,p,_⟩:=I.tuple qa
  cases h2 with
  | non=>cases ry; rw[Ds] at q; exact SeqAt.RcAt.tuple_none p hu' _ _ _ _ ⟨.bl _,H,I,rfl,q⟩; all_goals simp
  | bl b=>cases ry; rw[Ds] at q; exact SeqAt.RcAt.tuple_bool b p hu' _ _ _ _ ⟨.bl _,H,I,rfl,q⟩; all_goals simp
  | int b=>obtain ⟨t,rfl⟩:=ry; rw[Ds] at q; exact SeqAt.RcAt.tuple_int b t p hu' _ _ _ _ ⟨.bl _,H,I,rfl,q⟩; all_goals simp
  | str b=>obtain ⟨t,rfl⟩:=ry; rw[Ds] at q; exact SeqAt.RcAt.tuple_str b t p hu' _ _ _ _ ⟨.bl _,H,I,rfl,q⟩; all_goals simp
  | @lst b ys es q2 rr2=>cases ry; obtain ⟨vs,r2,p2,_⟩:=I.list q2; rw[Ds] at q; exact SeqAt.RcAt.tuple_list p p2.isList hu' _ _ _ _ ⟨.bl _,H,I,rfl,q⟩; all_goals simp
  | @tup b ys es q2 rr2=>cases ry; obtain ⟨vs,r2,p2,_⟩:=I.tuple q2; rw[Ds] at q; exact eB p p2 (r1.length.symm.trans r.length) (r2.length.symm.trans rr2.length) hu' (λj h1 h2=>Qi I r rr2 r1 r2 (Xb (by simp only[Cv] at hd; omega)) j h1 h2) _ _ _ _ ⟨.bl _,H,I,rfl,q⟩
theorem AK(hu:X.A.units+64<cLine):Ue X (Ge .NotEq) (EU X.K):=by
 intro pins s σ H x y v u Q I rx ry h
 obtain ⟨d,e,h1,h2,hd,q⟩:=h
 have hu':X.A.units<cLine:=by omega
 cases h1 with
 | non =>
  cases rx
  cases h2 with
  | non=>cases ry; rw[Ds] at q; exact SeqAt.RcNeAt.none_none _ _ _ _ ⟨.bl _,H,I,rfl,q⟩
  | bl b=>cases ry; rw[Ds] at q; exact SeqAt.RcNeAt.none_bool b _ _ _ _ ⟨.bl _,H,I,rfl,q⟩; all_goals simp
  | int b=>obtain ⟨t,rfl⟩:=ry; rw[Ds] at q; exact SeqAt.RcNeAt.none_int b t _ _ _ _ ⟨.bl _,H,I,rfl,q⟩; all_goals simp
  | str b=>obtain ⟨t,rfl⟩:=ry; rw[Ds] at q; exact SeqAt.RcNeAt.none_str b t _ _ _ _ ⟨.bl _,H,I,rfl,q⟩; all_goals simp
  | @lst b ys es q2 rr2=>cases ry; obtain ⟨vs,r2,p2,_⟩:=I.list q2; rw[Ds] at q; exact SeqAt.RcNeAt.none_list p2.isList hu' _ _ _ _ ⟨.bl _,H,I,rfl,q⟩; all_goals simp
  | @tup b ys es q2 rr2=>cases ry; obtain ⟨vs,r2,p2,_⟩:=I.tuple q2; rw[Ds] at q; exact SeqAt.RcNeAt.none_tuple p2 hu' _ _ _ _ ⟨.bl _,H,I,rfl,q⟩; all_goals simp
 | bl a =>
  cases rx
  cases h2 with
  | non=>cases ry; rw[Ds] at q; exact SeqAt.RcNeAt.bool_none a _ _ _ _ ⟨.bl _,H,I,rfl,q⟩; all_goals simp
  | bl b=>cases ry; rw[Ds] at q; exact SeqAt.RcNeAt.bool_bool a b _ _ _ _ ⟨.bl _,H,I,rfl,q⟩
  | int b=>obtain ⟨t,rfl⟩:=ry; rw[Ds] at q; exact SeqAt.RcNeAt.bool_int a b t _ _ _ _ ⟨.bl _,H,I,rfl,q⟩
  | str b=>obtain ⟨t,rfl⟩:=ry; rw[Ds] at q; exact SeqAt.RcNeAt.bool_str a b t _ _ _ _ ⟨.bl _,H,I,rfl,q⟩; all_goals simp
  | @lst b ys es q2 rr2=>cases ry; obtain ⟨vs,r2,p2,_⟩:=I.list q2; rw[Ds] at q; exact SeqAt.RcNeAt.bool_list a p2.isList hu' _ _ _ _ ⟨.bl _,H,I,rfl,q⟩; all_goals simp
  | @tup b ys es q2 rr2=>cases ry; obtain ⟨vs,r2,p2,_⟩:=I.tuple q2; rw[Ds] at q; exact SeqAt.RcNeAt.bool_tuple a p2 hu' _ _ _ _ ⟨.bl _,H,I,rfl,q⟩; all_goals simp
 | int a =>
  obtain ⟨t',rfl⟩:=rx
  cases h2 with
  | non=>cases ry; rw[Ds] at q; exact SeqAt.RcNeAt.int_none a t' _ _ _ _ ⟨.bl _,H,I,rfl,q⟩; all_goals simp
  | bl b=>cases ry; rw[Ds] at q; exact SeqAt.RcNeAt.int_bool a t' b _ _ _ _ ⟨.bl _,H,I,rfl,q⟩
  | int b=>obtain ⟨t,rfl⟩:=ry; rw[Ds] at q; exact SeqAt.RcNeAt.int_int a t' b t _ _ _ _ ⟨.bl _,H,I,rfl,q⟩
  | str b=>obtain ⟨t,rfl⟩:=ry; rw[Ds] at q; exact SeqAt.RcNeAt.int_str a t' b t _ _ _ _ ⟨.bl _,H,I,rfl,q⟩; all_goals simp
  | @lst b ys es q2 rr2=>cases ry; obtain ⟨vs,r2,p2,_⟩:=I.list q2; rw[Ds] at q; exact SeqAt.RcNeAt.int_list a t' p2.isList hu' _ _ _ _ ⟨.bl _,H,I,rfl,q⟩; all_goals simp
  | @tup b ys es q2 rr2=>cases ry; obtain ⟨vs,r2,p2,_⟩:=I.tuple q2; rw[Ds] at q; exact SeqAt.RcNeAt.int_tuple a t' p2 hu' _ _ _ _ ⟨.bl _,H,I,rfl,q⟩; all_goals simp
 | str a =>
  obtain ⟨t',rfl⟩:=rx
  cases h2 with
  | non=>cases ry; rw[Ds] at q; exact SeqAt.RcNeAt.str_none a t' _ _ _ _ ⟨.bl _,H,I,rfl,q⟩; all_goals simp
  | bl b=>cases ry; rw[Ds] at q; exact SeqAt.RcNeAt.str_bool a t' b _ _ _ _ ⟨.bl _,H,I,rfl,q⟩; all_goals simp
  | int b=>obtain ⟨t,rfl⟩:=ry; rw[Ds] at q; exact SeqAt.RcNeAt.str_int a t' b t _ _ _ _ ⟨.bl _,H,I,rfl,q⟩; all_goals simp
  | str b=>obtain ⟨t,rfl⟩:=ry; rw[Ds] at q; exact SeqAt.RcNeAt.str_str a t' b t _ _ _ _ ⟨.bl _,H,I,rfl,q⟩
  | @lst b ys es q2 rr2=>cases ry; obtain ⟨vs,r2,p2,_⟩:=I.list q2; rw[Ds] at q; exact SeqAt.RcNeAt.str_list a t' p2.isList hu' _ _ _ _ ⟨.bl _,H,I,rfl,q⟩; all_goals simp
  | @tup b ys es q2 rr2=>cases ry; obtain ⟨vs,r2,p2,_⟩:=I.tuple q2; rw[Ds] at q; exact SeqAt.RcNeAt.str_tuple a t' p2 hu' _ _ _ _ ⟨.bl _,H,I,rfl,q⟩; all_goals simp
 | @lst a xs ds qa r =>
  cases rx
  obtain ⟨us,r1,p,_⟩:=I.list qa
  cases h2 with
  | non=>cases ry; rw[Ds] at q; exact SeqAt.RcNeAt.list_none p.isList hu' _ _ _ _ ⟨.bl _,H,I,rfl,q⟩; all_goals simp
  | bl b=>cases ry; rw[Ds] at q; exact SeqAt.RcNeAt.list_bool b p.isList hu' _ _ _ _ ⟨.bl _,H,I,rfl,q⟩; all_goals simp
  | int b=>obtain ⟨t,rfl⟩:=ry; rw[Ds] at q; exact SeqAt.RcNeAt.list_int b t p.isList hu' _ _ _ _ ⟨.bl _,H,I,rfl,q⟩; all_goals simp
  | str b=>obtain ⟨t,rfl⟩:=ry; rw[Ds] at q; exact SeqAt.RcNeAt.list_str b t p.isList hu' _ _ _ _ ⟨.bl _,H,I,rfl,q⟩; all_goals simp
  | @lst b ys es q2 rr2=>cases ry; obtain ⟨vs,r2,p2,_⟩:=I.list q2; rw[Ds] at q; exact sL p p2 (r1.length.symm.trans r.length) (r2.length.symm.trans rr2.length) hu' (λj h1 h2=>Qi I r rr2 r1 r2 (Xb (by simp only[Cv] at hd; omega)) j h1 h2) _ _ _ _ ⟨.bl _,H,I,rfl,q⟩
  | @tup b ys es q2 rr2=>cases ry; obtain ⟨vs,r2,p2,_⟩:=I.tuple q2; rw[Ds] at q; exact SeqAt.RcNeAt.list_tuple p.isList p2 hu' _ _ _ _ ⟨.bl _,H,I,rfl,q⟩; all_goals simp
 | @tup a xs ds qa r =>
  cases rx
  obtain ⟨us,r1,p,_⟩:=I.tuple qa
  cases h2 with
  | non=>cases ry; rw[Ds] at q; exact SeqAt.RcNeAt.tuple_none p hu' _ _ _ _ ⟨.bl _,H,I,rfl,q⟩; all_goals simp
  | bl b=>cases ry; rw[Ds] at q; exact SeqAt.RcNeAt.tuple_bool b p hu' _ _ _ _ ⟨.bl _,H,I,rfl,q⟩; all_goals simp
  | int b=>obtain ⟨t,rfl⟩:=ry; rw[Ds] at q; exact SeqAt.RcNeAt.tuple_int b t p hu' _ _ _ _ ⟨.bl _,H,I,rfl,q⟩; all_goals simp
  | str b=>obtain ⟨t,rfl⟩:=ry; rw[Ds] at q; exact SeqAt.RcNeAt.tuple_str b t p hu' _ _ _ _ ⟨.bl _,H,I,rfl,q⟩; all_goals simp
  | @lst b ys es q2 rr2=>cases ry; obtain ⟨vs,r2,p2,_⟩:=I.list q2; rw[Ds] at q; exact SeqAt.RcNeAt.tuple_list p p2.isList hu' _ _ _ _ ⟨.bl _,H,I,rfl,q⟩; all_goals simp
  | @tup b ys es q2 rr2=>cases ry; obtain ⟨vs,r2,p2,_⟩:=I.tuple q2; rw[Ds] at q; exact nR p p2 (r1.length.symm.trans r.length) (r2.length.symm.trans rr2.length) hu' (λj h1 h2=>Qi I r rr2 r1 r2 (Xb (by simp only[Cv] at hd; omega)) j h1 h2) _ _ _ _ ⟨.bl _,H,I,rfl,q⟩
theorem vY{z z':V}{v:Value}(h:RelV z v)(h':RelV z' v):z=z':=by
 cases z <;> cases z' <;> simp only[L2.RelV] at h h' <;> first | rfl | (subst h; cases h'; rfl) | (subst h; cases h'; done) | (obtain ⟨t,rfl⟩:=h; obtain ⟨t',e⟩:=h'; cases e; rfl) | (obtain ⟨t,rfl⟩:=h; obtain ⟨t',e⟩:=h'; cases e; done) | (obtain ⟨t,rfl⟩:=h; cases h'; done) | (subst h; obtain ⟨t',e⟩:=h'; cases e)
open Classical in
noncomputable def Mg(K:PySem.W.Frag)(H:Hp)(d:Ad)(v:Value):Bool:=if h:∃e z,RdV K H z e/\RelV z v then Ds h.choose d else false
theorem mJ{pins:List (Addr×Obj)}{σ:L2.St}{H:Hp}{s:Ah}(I:Inv X pins σ H s){d e:Ad}{z:V}{v:Value}(h:RdV X.K H z e)(r:RelV z v):Mg X.K H d v=Ds e d:=by
 unfold Mg
 have hx:∃e z,RdV X.K H z e/\RelV z v:=⟨e,z,h,r⟩
 rw[dif_pos hx]
 obtain ⟨z',h',r'⟩:=hx.choose_spec
 have ez:=vY r' r
 subst ez
 rw[RdV.det I h' h]
theorem Ox{pins:List (Addr×Obj)}{σ:L2.St}{H:Hp}{s:Ah}(I:Inv X pins σ H s){d:Ad}:∀{xs:List V} {ds:List Ad} {us:List Value},RdVs X.K H xs ds->Fq xs us->us.any (Mg X.K H d)=ds.any λe=>Ds e d
 | _,_,_,.nil,r=>by cases r; rfl
 | _,_,_,.cons h t,r=>by
  cases r with
  | cons r1 r2=>rw[Mm,Mm,mJ I h r1,Ox I t r2]
theorem Pk{pins:List (Addr×Obj)}{σ:L2.St}{H:Hp}{s:Ah}(I:Inv X pins σ H s){A:Cr}{x:V}{d:Ad}{u:Value}(hx:RdV X.K H x d)(rx:RelV x u):∀{xs:List V} {ds:List Ad} {us:List Value},RdVs X.K H xs ds->Fq xs us->A.units+Bk ds<cLine->∀v∈us,Og A s v u (Mg X.K H d v)
 | _,_,_,.nil,r,_=>λv hv=>by cases r; cases hv
 | _,_,_,@RdVs.cons _ _ y e ys es h t,r,hu=>λv hv=>by
  have hm:A.units+e.depth<cLine/\A.units+Bk es<cLine:=by
   simp only[Bk] at hu
   omega
  cases r with
  | cons r1 r2 =>
   rcases Ap.mp hv with rfl | hv
   ·rw[mJ I h r1]; exact xM I h hx r1 rx hm.1
   ·exact Pk I hx rx t r2 hm.2 v hv
def AL(K:PySem.W.Frag)(neg:Bool):R2:=λx y H Q=>∃p xs d ds,y=.ref p/\(Za K H p xs\/Vi K H p xs)/\RdV K H x d/\RdVs K H xs ds/\Bk ds<=60/\Q (.bl (if neg then !(ds.any λe=>Ds e d) else ds.any λe=>Ds e d)) H
theorem W6(hu:X.A.units+64<cLine):Ue X (Ge .In) (AL X.K false):=by
 intro pins s σ H x y v u Q I rx ry h
 obtain ⟨p,xs,d,ds,rfl,hq,hx,hs,hd,q⟩:=h
 cases ry
 have hu1:X.A.in1.units+Bk ds<cLine:=by have:=Xn X.A; omega
 rcases hq with hq | hq
 ·obtain ⟨its,r,pl,hz⟩:=I.list hq
  refine SeqAt.in_listAt (Mg X.K H d) pl.isList (λw hw=>Pk I hx rx hs r hu1 w (by simpa using hw)) ⟨.bl _,H,I,rfl,?_⟩
  rw[show its.toArray.any (Mg X.K H d)=its.any (Mg X.K H d) by simp,Ox I hs r]
  exact q
 ·obtain ⟨its,r,pl,hz⟩:=I.tuple hq
  refine SeqAt.in_tupleAt (Mg X.K H d) pl (λw hw=>Pk I hx rx hs r hu1 w (by simpa using hw)) ⟨.bl _,H,I,rfl,?_⟩
  rw[show its.toArray.any (Mg X.K H d)=its.any (Mg X.K H d) by simp,Ox I hs r]
  exact q
theorem uU(hu:X.A.units+64<cLine):Ue X (Ge .NotIn) (AL X.K true):=by
 intro pins s σ H x y v u Q I rx ry h
 obtain ⟨p,xs,d,ds,rfl,hq,hx,hs,hd,q⟩:=h
 cases ry
 have hu1:X.A.in1.units+Bk ds<cLine:=by have:=Xn X.A; omega
 rcases hq with hq | hq
 ·obtain ⟨its,r,pl,hz⟩:=I.list hq
  refine SeqAt.notIn_listAt (Mg X.K H d) pl.isList (λw hw=>Pk I hx rx hs r hu1 w (by simpa using hw)) ⟨.bl _,H,I,rfl,?_⟩
  rw[show its.toArray.any (Mg X.K H d)=its.any (Mg X.K H d) by simp,Ox I hs r]
  exact q
 ·obtain ⟨its,r,pl,hz⟩:=I.tuple hq
  refine SeqAt.notIn_tupleAt (Mg X.K H d) pl (λw hw=>Pk I hx rx hs r hu1 w (by simpa using hw)) ⟨.bl _,H,I,rfl,?_⟩
  rw[show its.toArray.any (Mg X.K H d)=its.any (Mg X.K H d) by simp,Ox I hs r]
  exact q
end
section
variable{X:Cx}{pins:List (Addr×Obj)}{σ:L2.St}{H:Hp}{s:Ah}{h':Heap}
theorem J5{t':Nat}{fp:List Addr}(I:Inv X pins σ H s)(k:∀b o,b∉fp->s.heap.get? b=some o->h'.get? b=some o)(hf:∀b∈fp,Pp X pins H b):Inv X pins σ H { s with heap:=h',toks:=t' }:=by
 have nit:∀b u,H b=some u->b∉fp:=λb u e z=>by rw[(hf b z).1] at e; cases e
 refine I.step (g':=s.gens) (d':=s.drawn) (ch:=fp) (λb hb=>?_) (λb o _ _ hc e _=>k b o hc e) (λb o _ _ hc e _=>⟨o.slots,k b o hc e⟩) (λ_ _ _ _ n=>n)
  (λb o hc e=>⟨o,k b o hc e⟩) (λ_ _ e=>e) (λ_ _ _ e=>e) (λb ps e=>⟨#[],by rw[e]; simp⟩) (λm hm=>?_) (λb u e=>?_) I.bare
 ·obtain ⟨_,f1,_,f3,f4,f5⟩:=hf b hb
  exact ⟨f3,f1,f4,f5⟩
 ·obtain ⟨o,es,ep,ho,r⟩:=hm
  exact ⟨o,es,ep,k _ o (λz=>(hf _ z).2.1 rfl) ho,r⟩
 ·refine (I.hok b u e).stay (λc v hc q=>k c v ?_ q) (λ_ q=>q) λ_ _ q=>q
  rcases hc with z | z
  ·rw[z]; exact nit b u e
  ·exact nit c _ z
end
section
variable{X:Cx}
def Y8(K:PySem.W.Frag)(J:It)(js:List Nat)(tc:TT)(te:TE)(σ:L2.St)(H1:Hp)(Q:VK):Prop:=∀D,H1 D=none->∃W:Nat->Nat->Hp->Prop,(∃m,W 0 m (upd H1 D (.lst [])))/\∀i m H,W i m H ->
 (J.stop i H/\Q (.ref D) H)\/(J.go i H/\∀x H',J.yld i H x H'->∃(t:Addr) (w1 w2:V),x=.ref t/\Vi K H' t [w1,w2]/\∃(N1:Hp->Prop) (N2:VK),(∀H2,N1 H2->∃m',m'<m/\W (i+1) m' H2) /\
  (∀y H3,N2 y H3->∃acc,H3 D=some (.lst acc)/\acc.length<Ax/\∃m',m'<m/\W (i+1) m' (upd H3 D (.lst (acc++[y])))) /\
  tc (some w1::some w2::Ft σ js) H' λc H2=>if c=true then te (some w1::some w2::Ft σ js) H2 N2 else N1 H2)
def xA(K:PySem.W.Frag)(wi:TI)(js:List Nat)(tc:TT)(te:TE):TE:=λσ H Q=>wi σ H λJ H1=>Y8 K J js tc te σ H1 Q
theorem t6{elt iter:Expr}{x x2:Str}{px px2 pt pos:Pos}{kt:Nat}{ifs:List Expr}{scope:Scope}{cl:List (Str×Addr)}{ys:List Str}{js:List Nat}{wi:TI}{tc:TT}{te:TE}(C:CompScope X scope cl x ys js)(own2:yM scope x2)(nd2:(x::x2::ys).Nodup)(hc:X.calm=true)(hi:PI X (.Tuple [.Name x px,.Name x2 px2] kt pt) iter wi)(ht:∀fp s H,pT (Er X scope cl (x::x2::ys) fp s H) ifs tc)(he:∀fp s H,PE (Er X scope cl (x::x2::ys) fp s H) elt te)(hs:∀x,Ez iter X.env x=pure x:=by intro _; rfl):PE X (.ListComp elt [⟨.Tuple [.Name x px,.Name x2 px2] kt pt,iter,ifs,0⟩] scope pos) (xA X.K wi js tc te):=by
 intro pins s σ H Q I h
 rw[eval_ListComp]
 refine Tp (use:=none) rfl hs C.clos C.kind C.locs (Gh (hi pins s σ H _ I h) λv s1 h1=>Gh h1 λitv s2 h2=>?_)
 obtain ⟨it,fp,tn,J,H2,e,I2,T,st2,f2,q2⟩:=h2
 subst e
 have fD:H2 s2.heap.objs.size=none:=I2.hok.fresh (Al _)
 obtain ⟨W,⟨m0,w0⟩,turn⟩:=q2 s2.heap.objs.size fD
 refine Ey ?_
 have I3:Inv X pins σ (upd H2 s2.heap.objs.size (.lst [])) { s2 with heap:=s2.heap.push { cls:=.type "list",dict:=none,data:=.seq ([]:List Value).toArray } } :=
  I2.laid (t':=s2.toks) (λb u q=>Aj _ q) (Al _) ⟨Dm _,[],0,.nil,Bi _ rfl⟩
 obtain ⟨f3,st3',o3'⟩:=aC I2 T st2 f2 I3
 generalize hS3:({ s2 with heap:=s2.heap.push { cls:=.type "list",dict:=none,data:=.seq ([]:List Value).toArray } }:Ah)=s3 at I3
 have oV:tn 0 s3.heap:=by rw[<- hS3]; exact st3'
 have o3:∀b∈fp,∃o,s3.heap.get? b=some o:=by rw[<- hS3]; exact o3'
 show wpAny _ _ (Kd scope X.env.globals cl [] X.env.qual none .none (some X.env)) _ _ _
 refine Te C λh4 hns4 keep4 new4=>?_
 have I4:∀tk,Inv (Er X scope cl (x::x2::ys) fp s3 (upd H2 s2.heap.objs.size (.lst []))) [] (none::none::Ft σ js) (upd H2 s2.heap.objs.size (.lst [])) { s3 with heap:=h4,toks:=tk }:=λtk=>Qb (pre:=[x,x2]) C I3 f3 o3 hns4 keep4 new4
 have st4:tn 0 h4:=T.keep 0 _ _ oV λb hb o q=>keep4 b o q
 generalize hX':Er X scope cl (x::x2::ys) fp s3 (upd H2 s2.heap.objs.size (.lst []))=X' at I4
 obtain ⟨eP,eW,eK,eA,eC⟩:=bO hc hX'
 have stat:∀{H':Hp},(∀b∈fp,H' b=none)->∀b∈fp,Pp X' [] H' b:=λ{H'} hn=>Xo hX' (I4 0) hn
 have loop:∀s5:Ah,s5={ s3 with heap:=h4,toks:=s3.toks+([]:List (Str×Value)).length } ->
   Hv (model X.prog X.w) X.A (.compLoop (.ListComp elt [⟨.Tuple [.Name x px,.Name x2 px2] kt pt,iter,ifs,0⟩] scope pos) 0 (.ref it) (.ref s2.heap.objs.size) (Qx scope (Ea (s3.heap.objs.size+1) scope.names cl) s3.heap.objs.size X.env))
    (compPost (model X.prog X.w) X.A X.xe none (EP X pins σ Q) (.ref s2.heap.objs.size) s3.heap.objs.size) s5:=by
  rintro s5 rfl
  refine Uw (λn s'=>∃i o o2 H',Inv X' [] (o::o2::Ft σ js) H' s'/\tn i s'.heap/\(∀b∈fp,H' b=none)/\W i n H') ?_ m0
   ⟨0,none,none,_,I4 _,st4,λb hb=>(f3 b hb).1,w0⟩
  (intro n s6 q_; obtain ⟨i,o,o2,H6,I6,st6,fr6,w6⟩ := q_)
  rcases turn i n H6 w6 with ⟨stop,qn⟩ | ⟨go,step⟩
  ·have hd:=T.done X' eP eW eK eC i [] s6 _ H6 (λ_ _=>False) I6 (stat fr6) st6 stop
   rw[eA] at hd
   refine Gh hd λr s7 q0_ => ?_
   obtain ⟨hr,I7⟩ := q0_
   subst hr
   obtain ⟨m7,hn7,fin7⟩:=aI hX' I3 f3 I7
   exact ⟨m7,hn7,λh8 hs8=>⟨.ref s2.heap.objs.size,H6,fin7 h8 hs8,rfl,qn⟩⟩
  ·have hit:=T.item X' eP eW eK eC i [] s6 _ H6 (λ_ _=>False) I6 (stat fr6) st6 go
   rw[eA] at hit
   refine Gh hit λr s7 q0_ => ?_
   obtain ⟨u,hr,h7⟩ := q0_
   subst hr
   refine Gh h7 λ_ s8 q0_ => ?_
   obtain ⟨y,H8,I8,r8,y8,st8,fr8⟩ := q0_
   have I8':=I8.pinned (stat fr8) (T.obj _ _ st8)
   obtain ⟨tp,w1,w2,ey,hsq,N1,N2,hN1,hN2,hst⟩:=step y H8 y8
   have again:∀{H9:Hp} {s9:Ah} {m':Nat},Inv X' ([]++Rh fp s8.heap) (some w1::some w2::Ft σ js) H9 s9->m'<n->W (i+1) m' H9->∃m,m<n/\∃i o o2 H',Inv X' [] (o::o2::Ft σ js) H' s9/\tn i s9.heap/\(∀b∈fp,H' b=none)/\W i m H':=λ{H9 s9 m'} I9 hm w9=>by
    refine ⟨m',hm,i+1,some w1,some w2,H9,I9.unpinned,T.keep _ _ _ st8 λb hb o e=>(I9.pin (b,o) (Ai _ (Ai _ (Hj hb e)))).1,λb hb=>?_,w9⟩
    obtain ⟨o,e,_⟩:=T.obj _ _ st8 b hb
    exact (I9.pin (b,o) (Ai _ (Ai _ (Hj hb e)))).2.1
   subst hX'
   have g1:PG (Er X scope cl (x::x2::ys) fp s3 (upd H2 s2.heap.objs.size (.lst []))) (.Tuple [.Name x px,.Name x2 px2] kt pt) (CD X.K 2 (zG (Yl 0) (zG (Yl 1) EI))) :=
    zE (X:=Er X scope cl (x::x2::ys) fp s3 (upd H2 s2.heap.objs.size (.lst []))) hc (cA (Qn (i:=0) (x:=x) nd2 rfl (Vg C.own) (bJ C.own)) (cA (Qn (i:=1) (x:=x2) nd2 rfl (Vg own2) (bJ own2)) qP))
   refine Gh (g1 _ s8 _ H8 y u (λσ' H'=>σ'=some w1::some w2::Ft σ js/\H'=H8) I8' r8 ⟨tp,[w1,w2],ey,hsq,rfl,_,_,rfl,_,_,rfl,rfl,rfl,rfl⟩) λ_ s9 q0_ => ?_
   obtain ⟨σ9,H9,I9,e9,e9'⟩ := q0_
   subst e9 e9'
   refine Gh (ht fp s3 _ _ s9 _ _ _ I9 hst) λok s10 q0_ => ?_
   obtain ⟨H10,I10,q10⟩ := q0_
   cases ok with
   | false =>
    rw[if_neg Hb] at q10 ⊢
    obtain ⟨m',hm,w10⟩:=hN1 _ q10
    exact again I10 hm w10
   | true =>
    rw[if_pos rfl] at q10 ⊢
    refine Gh (he fp s3 _ _ s10 _ _ _ I10 q10) λz s11 q0_ => ?_
    obtain ⟨vz,H11,I11,r11,q11⟩ := q0_
    obtain ⟨acc,ha,hz,m',hm,w11⟩:=hN2 _ _ q11
    refine Gh (Pg _ s11 _ H11 (.ref s2.heap.objs.size) [vz] (.ref s2.heap.objs.size) [z] (λ_ H'=>H'=upd H11 s2.heap.objs.size (.lst (acc++[vz]))) I11 rfl (.cons r11 .nil) ⟨_,acc,vz,rfl,rfl,ha,hz,rfl⟩) λ_ s12 q0_ => ?_
    obtain ⟨_,H12,I12,_,e12⟩ := q0_
    subst e12
    exact again I12 hm w11
 exact Ml (loop _ rfl) (T.self X.A 0 _ _ _ st4 (loop _ rfl))
end
section
variable{X:Cx}
theorem A7{elt iter:Expr}{x y0:Str}{px py pos spos:Pos}{i0:Nat}{ifs:List Expr}{scope:Scope}{cl:List (Str×Addr)}{ys:List Str}{js:List Nat}{wi:TI}{tc:TT}{te:TE}(hN:X.N.Nodup)(hi0:X.N[i0]? = some y0)(hy0:X.env.scope.names.lookup y0=some .local)(C:CompScope X scope cl x ys js)(hc:X.calm=true)(hi:PI X (.Name x px) iter wi)(ht:∀fp s H,pT (Er X scope cl (x::ys) fp s H) ifs tc)(he:∀fp s H,PE (Er X scope cl (x::ys) fp s H) elt te)(hs:∀x,Ez iter X.env x=pure x:=by intro _; rfl)(hsw:Ir (.ListComp elt [⟨.Name x px,iter,ifs,0⟩] scope pos) (some (.Name y0 py)) spos.line X.env=pure true:=by rfl):PS X (.Assign [.Name y0 py] (.ListComp elt [⟨.Name x px,iter,ifs,0⟩] scope pos) spos) (K9 (bN wi js tc te) (Yl i0)):=by
 intro pins s σ H De I h
 have h:bN wi js tc te σ H λv H1=>De.nx (σ.set i0 (some v)) H1:=h
 rw[exec_Assign_Name_used _ _ _ _ hsw]
 refine Ac (To (Ac ?_))
 show wpAny _ X.A (do let _ <- comprehension (.ListComp elt [⟨.Name x px,iter,ifs,0⟩] scope pos) scope X.env _ (newList []) false (eval iter X.env) (some (Qz (.Name y0 py) X.env))) _ _ s
 refine Ac (Dn (Tp (use:=some (Qz (.Name y0 py) X.env)) (Q:=λ_ s'=>SP X pins De .next s') rfl hs C.clos C.kind C.locs (Gh (hi pins s σ H _ I h) λv s1 h1=>Gh h1 λitv s2 h2=>?_)) (λ_ s' hq=>Ao (Ao hq)) λ_ _ e=>e)
 obtain ⟨it,fp,tn,J,H2,e,I2,T,st2,f2,q2⟩:=h2
 subst e
 have fD:H2 s2.heap.objs.size=none:=I2.hok.fresh (Al _)
 obtain ⟨W,⟨m0,w0⟩,turn⟩:=q2 s2.heap.objs.size fD
 refine Ey ?_
 have I3:Inv X pins σ (upd H2 s2.heap.objs.size (.lst [])) { s2 with heap:=s2.heap.push { cls:=.type "list",dict:=none,data:=.seq ([]:List Value).toArray } } :=
  I2.laid (t':=s2.toks) (λb u q=>Aj _ q) (Al _) ⟨Dm _,[],0,.nil,Bi _ rfl⟩
 obtain ⟨f3,st3',o3'⟩:=aC I2 T st2 f2 I3
 generalize hS3:({ s2 with heap:=s2.heap.push { cls:=.type "list",dict:=none,data:=.seq ([]:List Value).toArray } }:Ah)=s3 at I3
 have oV:tn 0 s3.heap:=by rw[<- hS3]; exact st3'
 have o3:∀b∈fp,∃o,s3.heap.get? b=some o:=by rw[<- hS3]; exact o3'
 show wpAny _ _ (Kd scope X.env.globals cl [] X.env.qual none .none (some X.env)) _ _ _
 refine Te C λh4 hns4 keep4 new4=>?_
 have I4:∀tk,Inv (Er X scope cl (x::ys) fp s3 (upd H2 s2.heap.objs.size (.lst []))) [] (none::Ft σ js) (upd H2 s2.heap.objs.size (.lst [])) { s3 with heap:=h4,toks:=tk }:=λtk=>Qb (pre:=[x]) C I3 f3 o3 hns4 keep4 new4
 have st4:tn 0 h4:=T.keep 0 _ _ oV λb hb o q=>keep4 b o q
 generalize hX':Er X scope cl (x::ys) fp s3 (upd H2 s2.heap.objs.size (.lst []))=X' at I4
 obtain ⟨eP,eW,eK,eA,eC⟩:=bO hc hX'
 have stat:∀{H':Hp},(∀b∈fp,H' b=none)->∀b∈fp,Pp X' [] H' b:=λ{H'} hn=>Xo hX' (I4 0) hn
 have loop:∀s5:Ah,s5={ s3 with heap:=h4,toks:=s3.toks+([]:List (Str×Value)).length } ->
   Hv (model X.prog X.w) X.A (.compLoop (.ListComp elt [⟨.Name x px,iter,ifs,0⟩] scope pos) 0 (.ref it) (.ref s2.heap.objs.size) (Qx scope (Ea (s3.heap.objs.size+1) scope.names cl) s3.heap.objs.size X.env))
    (compPost (model X.prog X.w) X.A X.xe (some (Qz (.Name y0 py) X.env)) (λ_ s'=>SP X pins De .next s') (.ref s2.heap.objs.size) s3.heap.objs.size) s5:=by
  rintro s5 rfl
  refine Uw (λn s'=>∃i o H',Inv X' [] (o::Ft σ js) H' s'/\tn i s'.heap/\(∀b∈fp,H' b=none)/\W i n H') ?_ m0
   ⟨0,none,_,I4 _,st4,λb hb=>(f3 b hb).1,w0⟩
  (intro n s6 q_; obtain ⟨i,o,H6,I6,st6,fr6,w6⟩ := q_)
  rcases turn i n H6 w6 with ⟨stop,qn⟩ | ⟨go,step⟩
  ·have hd:=T.done X' eP eW eK eC i [] s6 _ H6 (λ_ _=>False) I6 (stat fr6) st6 stop
   rw[eA] at hd
   refine Gh hd λr s7 q0_ => ?_
   obtain ⟨hr,I7⟩ := q0_
   subst hr
   obtain ⟨⟨m7,hn7'⟩,I7f,J7⟩:=uF hX' I3 f3 I7
   have fC:Pp X pins H6 s3.heap.objs.size:=I3.fpOk (Al _) I7f
   obtain ⟨oC,esC,epC,hoC,rC⟩:=id hn7'
   have J8:Inv X (pins++[(s3.heap.objs.size,oC)]) σ H6 s7:=J7.pins_of λp hp=>by
    rcases Aw.mp hp with z | z
    ·have q:=J7.pin p (Ai _ z)
     exact q
    ·rw[Af.mp z]
     exact ⟨hoC,I7f,fC.2.1,fC.2.2.1,λv hv=>by rw[rC.1] at hv; cases hv⟩
   refine Gh (Qn (X:=X) (i:=i0) (x:=y0) (pos:=py) hN hi0 (.inl hy0) (.inr hy0) (pins++[(s3.heap.objs.size,oC)]) s7 σ H6 (.ref s2.heap.objs.size) (.ref s2.heap.objs.size) (λσ' H'=>σ'=σ.set i0 (some (.ref s2.heap.objs.size))/\H'=H6) J8 rfl ⟨rfl,rfl⟩) λ_ s9 q0_ => ?_
   obtain ⟨σ9,H9,I9,e9,e9'⟩ := q0_
   subst e9 e9'
   have hoC9:=(I9.pin (s3.heap.objs.size,oC) (Ai _ (Ai _ Aa))).1
   have I9':Inv X pins (σ.set i0 (some (.ref s2.heap.objs.size))) H9 s9:=I9.pins_of λp hp=>I9.pin p (Ai _ (An _ hp))
   refine ⟨m7,hn7'.at λo e=>by rw[hoC] at e; cases e; exact hoC9,λh10 hs10=>?_⟩
   exact ⟨_,H9,J5 (t':=s9.toks) (fp:=[s3.heap.objs.size]) I9' (λb o hb e=>(hs10.2 b (λz=>hb (by rw[z]; exact Aa))).trans e) (λb hb=>by rw[Af.mp hb]; exact fC),qn⟩
  ·have hit:=T.item X' eP eW eK eC i [] s6 _ H6 (λ_ _=>False) I6 (stat fr6) st6 go
   rw[eA] at hit
   refine Gh hit λr s7 q0_ => ?_
   obtain ⟨u,hr,h7⟩ := q0_
   subst hr
   refine Gh h7 λ_ s8 q0_ => ?_
   obtain ⟨y,H8,I8,r8,y8,st8,fr8⟩ := q0_
   have I8':=I8.pinned (stat fr8) (T.obj _ _ st8)
   obtain ⟨N1,N2,hN1,hN2,hst⟩:=step y H8 y8
   have again:∀{H9:Hp} {s9:Ah} {m':Nat},Inv X' ([]++Rh fp s8.heap) (some y::Ft σ js) H9 s9->m'<n->W (i+1) m' H9->∃m,m<n/\∃i o H',Inv X' [] (o::Ft σ js) H' s9/\tn i s9.heap/\(∀b∈fp,H' b=none)/\W i m H':=λ{H9 s9 m'} I9 hm w9=>by
    refine ⟨m',hm,i+1,some y,H9,I9.unpinned,T.keep _ _ _ st8 λb hb o e=>(I9.pin (b,o) (Ai _ (Ai _ (Hj hb e)))).1,λb hb=>?_,w9⟩
    obtain ⟨o,e,_⟩:=T.obj _ _ st8 b hb
    exact (I9.pin (b,o) (Ai _ (Ai _ (Hj hb e)))).2.1
   subst hX'
   refine Gh (Qn (i:=0) (x:=x) (pos:=px) C.nd rfl (Vg C.own) (bJ C.own) _ s8 _ H8 y u (λσ' H'=>σ'=some y::Ft σ js/\H'=H8) I8' r8 ⟨rfl,rfl⟩) λ_ s9 q0_ => ?_
   obtain ⟨σ9,H9,I9,e9,e9'⟩ := q0_
   subst e9 e9'
   refine Gh (ht fp s3 _ _ s9 _ _ _ I9 hst) λok s10 q0_ => ?_
   obtain ⟨H10,I10,q10⟩ := q0_
   cases ok with
   | false =>
    rw[if_neg Hb] at q10 ⊢
    obtain ⟨m',hm,w10⟩:=hN1 _ q10
    exact again I10 hm w10
   | true =>
    rw[if_pos rfl] at q10 ⊢
    refine Gh (he fp s3 _ _ s10 _ _ _ I10 q10) λz s11 q0_ => ?_
    obtain ⟨vz,H11,I11,r11,q11⟩ := q0_
    obtain ⟨acc,ha,hz,m',hm,w11⟩:=hN2 _ _ q11
    refine Gh (Pg _ s11 _ H11 (.ref s2.heap.objs.size) [vz] (.ref s2.heap.objs.size) [z] (λ_ H'=>H'=upd H11 s2.heap.objs.size (.lst (acc++[vz]))) I11 rfl (.cons r11 .nil) ⟨_,acc,vz,rfl,rfl,ha,hz,rfl⟩) λ_ s12 q0_ => ?_
    obtain ⟨_,H12,I12,_,e12⟩ := q0_
    subst e12
    exact again I12 hm w11
 exact Ml (loop _ rfl) (T.self X.A 0 _ _ _ st4 (loop _ rfl))
end
end Nd
namespace Nd
open PySem L2
def R6(K:PySem.W.Frag):R2:=λx y H Q=>∃a b xs ys,x=.ref a/\y=.ref b/\Vi K H a xs/\Vi K H b ys/\xs.length+ys.length<=Ax/\(xs=[]->Q (.ref b) H)/\(ys=[]->Q (.ref a) H)/\(∀p,H p=none->Q (.ref p) (upd H p (.tup (xs++ys))))
open PyProof.Rows in
theorem B5{X:Cx}:Ue X (Jj .Add) (R6 X.K):=by
 intro pins s σ H x y v u Q I rx ry h
 obtain ⟨a,b,xs,ys,rfl,rfl,ha,hb,hz,q1,q3,q2⟩:=h
 by_cases hx:xs=[]
 ·cases rx
  cases ry
  obtain ⟨its,r1,p1,_⟩:=I.tuple ha
  obtain ⟨its2,r2,p2,_⟩:=I.tuple hb
  have e1:its=[]:=r1.nil_iff.mpr hx
  subst e1
  obtain ⟨⟨c1,d1,dt1,sl1⟩,g1,k1,n1,e1⟩:=id p1
  obtain ⟨⟨c2,d2,dt2,sl2⟩,g2,k2,n2,e2⟩:=id p2
  simp only at k1 e1 k2 e2
  subst k1 e1 k2 e2
  exact concat_meets ⟨_,g1,rfl⟩ ⟨_,g2,rfl⟩ jL seq_tuple_add PySem.F.slot_tuple_add PySem.F.entry_tuple_add (PySem.F.args_tuple_add_2 _ _)
   (tuple_addW0 a b _ _ n1 n2 d1 d2 sl1 sl2 rfl) ⟨g1,g2,⟨.ref b,H,I,rfl,q1 hx⟩⟩
 ·exact E8 pins s σ H (.ref a) (.ref b) v u Q I rx ry ⟨a,b,xs,ys,rfl,rfl,ha,hb,hx,hz,q3,λ_=>q2⟩
theorem dX:∀{l:List Int},l.Nodup->l.Pairwise (·<=·)->l.Pairwise (· < ·)
 | [],_,_=>.nil
 | a::l,n,p=>by
  obtain ⟨h1,q1⟩:=Bl.mp p
  obtain ⟨m1,n1⟩:=Cd.mp n
  refine Bl.mpr ⟨λb hb=>?_,dX n1 q1⟩
  have:=h1 b hb
  have : a≠b:=λz=>m1 (by rw[z]; exact hb)
  omega
end Nd
namespace Nd
open PySem PySem.Spec PyProof.Rows L2
end Nd
namespace Nd
open PySem L2
def IG(K:PySem.W.Frag):List V->Hp->VK->Prop:=λxs H Q=>∃x n t b,xs=[x,.ty n]/\TyOf K H x t/\PySem.W.kitOne K t (.type n)=some b/\Q (.bl b) H
theorem Xr{X:Cx}:Kb X (.builtin "isinstance") (IG X.K):=lP
theorem AD{K:PySem.W.Frag}{T:String}:PySem.W.kitOne K (.type T) (.type T)=some true:=by
 unfold PySem.W.kitOne
 rw[if_pos (by simp)]
theorem compScope0{X:Cx}{scope:Scope}{x:Str}(clos:closureFor scope X.env=pure [])(nocell:∀y∈scope.names,y.2≠.cell)(kind:scope.kind=.function)(locs:∀y∈scope.names,y.2=.local->scope.names.lookup y.1=some .local)(own:scope.names.lookup x=some .local)(has_:(scope.names.all λy=>!(y.2 == Ei) || (([]:List (Str×Addr)).lookup y.1).isSome)=true):CompScope X scope [] x [] [] :=
 ⟨clos,.inl nocell,kind,locs,.inl own,λ_ _ h=>by simp at h,has_,Cd.mpr ⟨Cj,Cy⟩,rfl,λk y j e1 _=>by simp at e1⟩
theorem sz{n:Nat}(h:n<=1000:=by first | decide | simp | (simp; omega)):n<=Ax:=Iy (uL h)
end Nd
namespace Nd
open PySem PySem.Spec PyProof.Rows L2
theorem G5{P:Bh}{w:World}{H:Hp}{h:Heap}{a:Addr}{o:HO}(x:Io P w H h a o):∃u,h.get? a=some u:=by
 cases o with
 | lst xs=>obtain ⟨_,_,_,_,e⟩:=x; exact ⟨_,e⟩
 | tup xs=>obtain ⟨_,_,_,u,e,_⟩:=x; exact ⟨_,e⟩
 | dK kvs=>obtain ⟨_,_,_,_,u,_,_,e,_⟩:=x; exact ⟨_,e⟩
 | dT kvs=>obtain ⟨_,_,_,_,u,_,_,e,_⟩:=x; exact ⟨_,e⟩
 | set S n=>obtain ⟨u,_,_,_,e,_⟩:=x; exact ⟨_,e⟩
 | ins C dx fs=>obtain ⟨_,_,_,e,_⟩:=x; exact ⟨_,e⟩
 | own y=>exact x
 | xd fs=>obtain ⟨_,⟨_,_,_,e,_⟩,_⟩:=x; exact ⟨_,e⟩
 | rng lo hi=>obtain ⟨_,_,_,e⟩:=x; exact ⟨_,e⟩
 | frz ob u=>obtain ⟨e,_⟩:=x; exact ⟨_,e⟩
 | tbl ps=>obtain ⟨_,e,_⟩:=x; exact ⟨_,e⟩
 | met f y=>exact ⟨_,(show h.get? a=some _ from x)⟩
 | ext φ=>obtain ⟨_,e,_⟩:=x; exact e
structure Fly(P:Bh)(w:World)(outer:List Env)(H H':Hp)(s s':Ah)(e C t:Addr)(B:Heap):Prop where
 os:s'.os=s.os
 bare:Py s'.gens
 fly:Heap.FlyingW B outer e (.ref C) (.ref t) s'.heap
 cov:∀b o,s.heap.get? b=some o->b∉Ot outer->∃o',B.get? b=some o'/\(H b=none->o'=o)
 slot:∀b o,s.heap.get? b=some o->b∈Ot outer->H b=none->∃sl,s'.heap.get? b=some { o with slots:=sl }
 free:∀b o,s.heap.get? b=some o->H b=none->H' b=none
 tups:∀b xs,H b=some (.tup xs)->H' b=some (.tup xs)
 frzs:∀b o u,H b=some (.frz o u)->H' b=some (.frz o u)
 tbls:∀b ps,H b=some (.tbl ps)->∃more,H' b=some (.tbl (ps++more))
 hok:Xg P w H' B
def Mh(P:Bh)(w:World):nA:=λouter H s E ev s'=>∃(e C t:Addr) (H':Hp) (B:Heap),ev=.ref e/\Fly P w outer H H' s s' e C t B/\E (.ref C) none H'
section
variable{P:Bh}{w:World}{outer:List Env}{H H':Hp}{s s':Ah}{e C t:Addr}{B:Heap}
theorem Fly.un(F:Fly P w outer H H' s s' e C t B):Un (Ot outer) [] H H' s.heap s'.heap where
 keep:=λb o q n hb _=>by
  obtain ⟨o',e1,e2⟩:=F.cov b o q hb
  rw[e2 n] at e1
  exact F.fly.1 b o e1
 slot:=λb o q n hb _=>F.slot b o q hb n
 free:=λb o q n _=>F.free b o q n
 there:=λb o q _=>by
  by_cases hb:b∈Ot outer
  ·obtain ⟨_,o',e1,_⟩:=F.fly.2.2.1.mem hb
   exact ⟨o',e1⟩
  ·obtain ⟨o',e1,_⟩:=F.cov b o q hb
   exact ⟨o',F.fly.1 b o' e1⟩
 tups:=F.tups
 frzs:=F.frzs
 tbls:=F.tbls
theorem Fly.held(F:Fly P w outer H H' s s' e C t B):Xg P w H' s'.heap:=F.hok.kept F.fly.1
theorem Fly.new(F:Fly P w outer H H' s s' e C t B):H' e=none:=by
 cases q:H' e with
 | none=>rfl
 | some u =>
  obtain ⟨o,e1⟩:=G5 (F.hok e u q)
  rw[F.fly.2.1] at e1
  cases e1
theorem Fly.on{h':Heap}(F:Fly P w outer H H' s s' e C t B)(f:Heap.FlyingW B outer e (.ref C) (.ref t) h')(u:s'.heap.UpToSlots h'):Fly P w outer H H' s { s' with heap:=h' } e C t B :=
 ⟨F.os,F.bare,f,F.cov,λb o q hb n=>by
  obtain ⟨sl,e1⟩:=F.slot b o q hb n
  obtain ⟨_,o',e2,nf⟩:=F.fly.2.2.1.mem hb
  rw[e1] at e2
  cases e2
  obtain ⟨sl',e3⟩:=u b _ e1 nf
  exact ⟨sl',e3⟩,F.free,F.tups,F.frzs,F.tbls,F.hok⟩
end
section
variable{P:Bh}{w:World}{K:PySem.W.Frag}{mg:Str->Option Value}{base:Heap}{N:List Str}{qual:Str}{scope:Scope}{f:Addr}{cd:Value}{A:Cr}{outer:List Env}{s:Ah}{H:Hp}{E:XK}
theorem Zw{env:Env}{L b:Addr}{l:List Env}(he:env.frame=some L)(hm:b∈Ot (env::l)):b=L\/b∈Ot l:=by
 obtain ⟨x,hx,hf⟩:=Cg.mp hm
 rcases Ap.mp hx with z | z
 ·subst z
  rw[he] at hf
  exact .inl (Br hf).symm
 ·exact .inr (Cg.mpr ⟨x,z,hf⟩)
theorem lC{pins:List (Addr×Obj)}{σ:L2.St}{H1:Hp}{s1:Ah}{h':Heap}{e C:Addr}{vs:List Value}(I:Inv (Hq (Mh P w) P w K mg base N qual scope f cd A outer s H E) pins σ H1 s1)(hx:Heap.MadeExcOf s1.heap h' e (.ref C) vs)(q:E (.ref C) none H1):(Hq (Mh P w) P w K mg base N qual scope f cd A outer s H E).xe (.ref e) { s1 with heap:=h' }:=by
 have hst:=I.stack
 have hfrz:=I.stkFree
 have hab:=I.ok.above
 have hb:=I.base
 have hin:∀env∈(Ed qual scope s.heap.objs.size f cd::outer),∀b,env.frame=some b->b∈Ot (Ed qual scope s.heap.objs.size f cd::outer):=λenv he b hf=>Cg.mpr ⟨env,he,hf⟩
 have nL:∀b o,s.heap.get? b=some o->b∉Ot outer->b∉Ot (Ed qual scope s.heap.objs.size f cd::outer):=λb o e1 hn hm=>by
  rcases Zw (L:=s.heap.objs.size) rfl hm with z | z
  ·exact absurd (Az e1) (by rw[z]; exact Ep _)
  ·exact hn z
 refine wpAny_leaves_madeW (base:=PySem.W.hideAll s1.heap (Ot (Ed qual scope s.heap.objs.size f cd::outer))) (L:=s.heap.objs.size) I.ok.frames rfl (λb o e1=>PySem.W.of_hideAll _ e1) (PySem.W.funFrames_hide hst hin) hx λh2 t x1 x2 x3 x4=>?_
 refine ⟨e,C,t,H1,_,rfl,⟨I.os,I.bare,x1,λb o e1 hn=>?_,λb o e1 hm n=>?_,λb o e1 n=>hb.free b o e1 n (by intro z; exact nomatch z),hb.tups,hb.frzs,hb.tbls,λa u e1=>?_⟩,q⟩
 ·obtain ⟨o',e2⟩:=hb.there b o e1 (by intro z; exact nomatch z)
  refine ⟨o',PySem.W.hideAll_get _ e2 (nL b o e1 hn),λn=>?_⟩
  have e3:=hb.keep b o e1 n hn (by intro z; exact nomatch z)
  rw[e3] at e2
  exact (Br e2).symm
 ·obtain ⟨sl,e2⟩:=hb.slot b o e1 n hm (by intro z; exact nomatch z)
  have hm':b∈Ot (Ed qual scope s.heap.objs.size f cd::outer):=by
   obtain ⟨x,hx',hf⟩:=Cg.mp hm
   exact Cg.mpr ⟨x,Ae _ hx',hf⟩
  obtain ⟨_,o',e3,nf⟩:=hst.mem hm'
  rw[e2] at e3
  cases e3
  obtain ⟨sl',e4⟩:=x4 b _ (hx.keeps _ _ e2) nf
  exact ⟨sl',e4⟩
 ·refine (I.hok a u e1).stay (λb v hc e2=>PySem.W.hideAll_get _ e2 λhm=>?_) (λ_ z=>z) (λ_ _ z=>z)
  have z:=hfrz b hm
  rcases hc with r | r
  ·rw[r,e1] at z; cases z
  ·rw[r] at z; cases z
theorem Sd:Mc (Mh P w) (Hq (Mh P w) P w K mg base N qual scope f cd A outer s H E) E:=by
 intro pins σ H1 s1 ev s' I h
 obtain ⟨e,C,t,H',B,rfl,F,q⟩:=h
 have hb:=I.base
 have nL:∀b o,s.heap.get? b=some o->b∉Ot outer->b∉Ot (Ed qual scope s.heap.objs.size f cd::outer):=λb o e1 hn hm=>by
  rcases Zw (L:=s.heap.objs.size) rfl hm with z | z
  ·exact absurd (Az e1) (by rw[z]; exact Ep _)
  ·exact hn z
 refine wpAny_leaves_onW (L:=s.heap.objs.size) I.ok.frames rfl F.fly λh2 x1 x2=>?_
 refine ⟨e,C,t,H',B,rfl,⟨F.os.trans I.os,F.bare,x1,λb o e1 hn=>?_,λb o e1 hm n=>?_,λb o e1 n=>?_,λb xs z=>F.tups b xs (hb.tups b xs z),λb o u z=>F.frzs b o u (hb.frzs b o u z),λb ps z=>?_,F.hok⟩,q⟩
 ·obtain ⟨o1,e2⟩:=hb.there b o e1 (by intro z; exact nomatch z)
  obtain ⟨o',e3,e4⟩:=F.cov b o1 e2 (nL b o e1 hn)
  refine ⟨o',e3,λn=>?_⟩
  have e5:=hb.keep b o e1 n hn (by intro z; exact nomatch z)
  rw[e5] at e2
  rw[e4 (hb.free b o e1 n (by intro z; exact nomatch z))]
  exact (Br e2).symm
 ·obtain ⟨sl,e2⟩:=hb.slot b o e1 n hm (by intro z; exact nomatch z)
  have hm':b∈Ot (Ed qual scope s.heap.objs.size f cd::outer):=by
   obtain ⟨x,hx',hf⟩:=Cg.mp hm
   exact Cg.mpr ⟨x,Ae _ hx',hf⟩
  obtain ⟨sl2,e3⟩:=F.slot b _ e2 hm' (hb.free b o e1 n (by intro z; exact nomatch z))
  obtain ⟨_,o',e4,nf⟩:=F.fly.2.2.1.mem hm'
  rw[e3] at e4
  cases e4
  obtain ⟨sl',e5⟩:=x2 b _ e3 nf
  exact ⟨sl',e5⟩
 ·obtain ⟨o1,e2⟩:=hb.there b o e1 (by intro z; exact nomatch z)
  exact F.free b o1 e2 (hb.free b o e1 n (by intro z; exact nomatch z))
 ·obtain ⟨m1,z1⟩:=hb.tbls b ps z
  obtain ⟨m2,z2⟩:=F.tbls b _ z1
  exact ⟨m1++m2,by rw[z2,Array.append_assoc]⟩
theorem IV{x:Str}{st:Stmt}{fd:Bz}{ps:List Str}{k:Nat}{sp:Sp}(F:Fun K x qual st f fd)(S:FnScope N ps (Bj st))(len:∀vs H Q E,sp vs H Q E->vs.length=ps.length)(hbody:∀(cdv:Value) (A:Cr) (outer:List Env) (s:Ah) (H:Hp) (vs:List V) (Q:VK) (E:XK),Room k (A.deeper (Ed qual (Bj st) s.heap.objs.size f cdv))->sp vs H Q E->∃t,cM (Hq (Mh P w) P w K mg base N qual (Bj st) f cdv A outer s H E) (Hy st) t/\t { nx:=λ_ H'=>Q .non H',rt:=Q } (start N vs) H):FnOk P w K mg base (Mh P w) (k+1) f fd ps sp:=by
 obtain ⟨oc,od,kV,doc,pm,an,cdv,ct,osl,rfl,lk,hcd⟩:=F.ex
 exact Q9 lk hcd S len λA outer s H vs Q E hr hsp=>hbody cdv A outer s H vs Q E hr hsp
end
abbrev pE:List Value:=[.type "ValueError",.type "Exception",.type "BaseException",.type "object"]
def X4(h:Heap)(C:Addr):Prop:=∃bm N nm q bs hdct sn sub ab col dd k0 k1 k2 k3 k5 mN,h.get? C=some (excClassObj nm q C N bs bm hdct sn sub ab col dd k0 k1 k2 k3 k5 "ValueError.__new__")/\h.Ns N mN/\mN "__init__" = none/\OwnTail h pE bm
theorem eN{K:PySem.W.Frag}{h:Heap}{C:Addr}(X:K.In h)(q:PySem.W.excIn K C pE "ValueError.__new__" = true):X4 h C:=by
 unfold PySem.W.excIn at q
 split at q
 ·rename_i dd cd sl ho
  split at q
  ·rename_i C' bm k0 k1 k2 k3 n k5 hm hs
   simp only[Di,beq_iff_eq,Bool.not_eq_true'] at q
   obtain ⟨⟨⟨⟨⟨rfl,rfl⟩,hdel⟩,ht⟩,hok⟩,hni⟩:=q
   obtain ⟨nm,bs,mro,ns,qn,hd,sn,sub,ab,col,del⟩:=cd
   dsimp only at hm hdel hok hni
   subst hm hdel
   have hsl:sl=#[k0,k1,k2,k3,some (.builtin "ValueError.__new__"),k5]:=by
    obtain ⟨l⟩:=sl
    simp only at hs
    rw[hs]
   subst hsl
   exact ⟨bm,ns,nm,qn,bs,hd,sn,sub,ab,col,dd,k0,k1,k2,k3,k5,_,X _ _ ho,.of_isNs (PySem.W.isNs_of_in X hok),PySem.W.nsMap_none_of_in X hok hni,PySem.W.tail_of_in X ht⟩
  ·cases q
 ·cases q
section
variable{P:Bh}{w:World}{K:PySem.W.Frag}{mg:Str->Option Value}{base:Heap}{N:List Str}{qual:Str}{scope:Scope}{f:Addr}{cd:Value}{A:Cr}{outer:List Env}{s:Ah}{H:Hp}{E:XK}
def AE(C:Addr)(E:XK)(ta:TA):TS:=λ_ σ H=>ta σ H λvs H1=>vs.length<=Ax/\E (.ref C) none H1
theorem mU{C:Addr}{x:Str}{np cpos pos:Pos}{e₀:Expr}{es:List Expr}{ta:TA}(hg:Gl (Hq (Mh P w) P w K mg base N qual scope f cd A outer s H E) x)(hm:mg x=some (.ref C))(hc:PySem.W.excIn K C pE "ValueError.__new__" = true)(ha:PA (Hq (Mh P w) P w K mg base N qual scope f cd A outer s H E) (e₀::es) ta)(hd:(x == ("__debug__" : Str))=false:=by decide)(he:Bf (e₀::es) (Ed qual scope s.heap.objs.size f cd)=(false,eval e₀ (Ed qual scope s.heap.objs.size f cd))::Bf es (Ed qual scope s.heap.objs.size f cd):=by rfl)(hpl:(Gn cpos (Bf es (Ed qual scope s.heap.objs.size f cd))).any (·.1)=false:=by rfl):PS (Hq (Mh P w) P w K mg base N qual scope f cd A outer s H E) (.Raise (some (.Call (.Name x np) (e₀::es) [] cpos)) none pos) (AE C E ta):=by
 intro pins s1 σ H1 D I h
 obtain ⟨bm,NN,nm,q,bs,hdct,sn,sub,ab,col,dd,k0,k1,k2,k3,k5,mN,hC,hN,hni,T⟩:=eN (h:=base) I.ok.mod.kin hc
 refine wpAny_Raise_call_subT (C:=C) (nm:=nm) (q:=q) (N:=NN) (bs:=bs) (bm:=bm) (hdct:=hdct) (sn:=sn) (sub:=sub) (ab:=ab) (col:=col) (dd:=dd) (k0:=k0) (k1:=k1) (k2:=k2) (k3:=k3) (k5:=k5) F.excBase_ValueError (mN:=mN)
  (T.hasType (by decide)) (I.ok.hd rfl) (by show (Gn cpos (Bf (e₀::es) (Ed qual scope s.heap.objs.size f cd))).any (·.1)=false; rw[he]; show (false || (Gn cpos (Bf es (Ed qual scope s.heap.objs.size f cd))).any (·.1))=false; rw[hpl]; rfl) hni (Sy I hg hm ⟨rfl,?_⟩ hd)
 show wpAny _ _ (evalArgs (.ref C) true (Gn cpos (Bf (e₀::es) (Ed qual scope s.heap.objs.size f cd))) []) _ _ _
 rw[he]
 have hA:=ha cpos pins s1 σ H1 _ I h
 rw[show Bf (e₀::es) (Hq (Mh P w) P w K mg base N qual scope f cd A outer s H E).env=(false,eval e₀ (Ed qual scope s.heap.objs.size f cd))::Bf es (Ed qual scope s.heap.objs.size f cd) from he] at hA
 refine Calls.evalArgs_plain (Dn hA (λus s2 h2=>?_) λ_ _ y=>y)
 obtain ⟨vs,H2,I2,rv,hz,hE⟩:=h2
 have hk:∀b o,base.get? b=some o->s2.heap.get? b=some o:=I2.bk
 exact ⟨rfl,by rw[<- rv.length]; exact hz,hk _ _ hC,hN.keeps hk,T.keeps hk,λh' e hx=>lC I2 hx hE⟩
end
abbrev aQ(X:Cx)(v:Value)(E:Value->Ah->Prop):Cx:={ X with A:=X.A.mark (some v),calm:=false,xe:=E }
section
variable{X:Cx}{pins:List (Addr×Obj)}{σ:L2.St}{H:Hp}{s:Ah}{v:Value}{E:Value->Ah->Prop}
theorem Up(I:Inv X pins σ H s):Inv (aQ X v E) pins σ H s :=
 ⟨⟨I.ok.mod,I.ok.kind,I.ok.glob,I.ok.blt,I.ok.above,I.ok.inj,I.ok.has,I.ok.cab,(λz=>nomatch z),I.ok.frames,I.ok.stk,I.ok.exf,I.ok.bs,I.ok.bsz,I.ok.noex,I.ok.exfs,I.ok.funs,I.ok.frf,I.ok.tab⟩,I.os,I.bare,I.base,I.loc,I.cell,I.free,I.freeC,I.pin,I.hok,I.len⟩
theorem Vp(hc:X.calm=true->X.A.handled=none)(I:Inv (aQ X v E) pins σ H s):Inv X pins σ H s :=
 ⟨⟨I.ok.mod,I.ok.kind,I.ok.glob,I.ok.blt,I.ok.above,I.ok.inj,I.ok.has,I.ok.cab,hc,I.ok.frames,I.ok.stk,I.ok.exf,I.ok.bs,I.ok.bsz,I.ok.noex,I.ok.exfs,I.ok.funs,I.ok.frf,I.ok.tab⟩,I.os,I.bare,I.base,I.loc,I.cell,I.free,I.freeC,I.pin,I.hok,I.len⟩
theorem C2{M:Model}{A:Cr}{i:Nat}{n:Str}{pos:Pos}{Q:Unit->Ah->Prop}(I:Inv X pins σ H s)(hN:X.N.Nodup)(hi:X.N[i]? = some n)(hk:X.env.scope.names.lookup n=some .local)(h:∀s',Inv X pins (σ.set i none) H s'->Q () s'):wpAny M A (do bindName X.env n .none; unbindBehindTheSuite X.env n pos) Q E s:=by
 obtain ⟨m,hn,hl⟩:=id I.loc
 have hiσ:i<σ.length:=by rw[I.len]; exact (Av.mp hi).1
 refine wpAny_nameGoes_keeps hk hn (by rw[I.ok.kind]; rfl) λh' v hn' hs=>?_
 obtain ⟨oL,_,_,hoL,_⟩:=id hn
 have old:∀b o,X.s₀.heap.get? b=some o->b≠X.env.locals:=λb o e=>Ct (By (Az e) I.ok.above)
 refine h _ ⟨I.ok,I.os,I.bare,⟨λb o e n hb hx=>(hs.2 b (old b o e)).trans (I.base.keep b o e n hb hx),λb o e n hb hx=>?_,I.base.free,λb o e hx=>?_,I.base.tups,I.base.frzs,I.base.tbls⟩,⟨_,hn',λj y v' e1 e2 e3=>?_⟩,λy c e=>?_,I.free,I.freeC,λp hp=>?_,λb ob e=>?_,by simpa using I.len⟩
 ·obtain ⟨sl,e1⟩:=I.base.slot b o e n hb hx
  exact ⟨sl,(hs.2 b (old b o e)).trans e1⟩
 ·obtain ⟨o',e1⟩:=I.base.there b o e hx
  exact ⟨o',(hs.2 b (old b o e)).trans e1⟩
 ·by_cases hj:j=i
  ·subst hj
   rw[Lc hiσ] at e2
   cases e2
  ·rw[Mt (Kl hj)] at e2
   obtain ⟨u',r',q⟩:=hl j y v' e1 e2 e3
   refine ⟨u',r',?_⟩
   rcases q with ⟨k,e⟩ | ⟨k,c,e,z⟩
   ·have ny:y≠n:=λz=>hj (cG hN e1 (z▸hi))
    exact .inl ⟨k,(if_neg ny).trans e⟩
   ·exact .inr ⟨k,c,e,z.sameBut hs (I.cne y c e)⟩
 ·obtain ⟨w',z⟩:=I.cell y c e
  exact ⟨w',z.sameBut hs (I.cne y c e)⟩
 ·obtain ⟨e,n,ne,nf,d⟩:=I.pin p hp
  exact ⟨(hs.2 p.1 ne).trans e,n,ne,nf,d⟩
 ·refine (I.hok b ob e).stay (λc w' hc q=>(hs.2 c ?_).trans q) (λ_ q=>q) λ_ _ q=>q
  intro z
  have f:=I.free
  rw[<- z] at f
  rcases hc with r | r
  ·rw[r,e] at f; cases f
  ·rw[r] at f; cases f
end
def kK(x C:Addr)(h:Heap):Prop:=∃oe vs,h.get? x=some oe/\oe.cls=.ref C/\oe.data=.fields vs
abbrev nO(x C:Addr):HO:=.ext (kK x C)
theorem Y4{P:Bh}{w:World}{H:Hp}{h:Heap}{x C:Addr}(e:kK x C h):Io P w H h x (nO x C) :=
 ⟨e,let ⟨oe,_,e1,_⟩:=e; ⟨oe,e1⟩,λh1 h2 ⟨oe,vs,e1,e2,e3⟩ k=>⟨oe,vs,k oe e1,e2,e3⟩⟩
section
variable{M:Model}{A:Cr}{E:Value->Ah->Prop}{h:Heap}{g:Array GenState}{d:Drawn}{t:Nat}{os:OsState}
variable{nm q:Str}{N:Addr}{bs bm:List Value}{hdct:Bool}{sn:List Str}{sub:List Value}{ab:Bool}{col:Option Bool}{dd:Option Addr}{k0 k1 k2 k3 k5:Option Value}{newId:String}
theorem lO{K:PySem.W.Frag}{e C D:Addr}{oe:Obj}{Q:Bool->Ah->Prop}(KX:K.In h)(hD:h.get? D=some (excClassObj nm q D N bs bm hdct sn sub ab col dd k0 k1 k2 k3 k5 newId))(he:h.get? e=some oe)(hc:oe.cls=.ref C)(hb:bm.contains (.type "BaseException")=true)(hs:PySem.W.subIn K (.ref C) (.ref D)=some true)(hq:Q true ⟨h,g,d,t,os⟩):wpAny M A (excMatches (.ref e) (.ref D)) Q E ⟨h,g,d,t,os⟩:=by
 have b1:(Cf D::bm).contains (.type "BaseException")=true:=by rw[List.contains_cons,hb,Sq]
 have L:=PySem.W.looks_subIn (M:=M) KX hs
 have f:=tc_notTuple
 unfold excMatches
 repeat (first | (with_reducible refine Hu he ?_; rw[hc]) | with_reducible refine Hu hD ?_ | with_reducible refine PySem.W.Looks.at L ?_ | (with_reducible refine wpAny_isSubtype_exc hD ?_; rw[b1]) | wp_step)
 exact hq
end
section
variable{P:Bh}{w:World}{X:Cx}{pins:List (Addr×Obj)}{σ:L2.St}{H1 H2:Hp}{s1 s2:Ah}{e C t:Addr}{B:Heap}
theorem K5(I:Inv X pins σ H1 s1)(F:Fly X.prog X.w X.stack H1 H2 s1 s2 e C t B):Inv X pins σ H2 s2 :=
 I.call' (ch:=[]) F.os F.un F.held F.bare λb z=>nomatch z
theorem iN(F:Fly P w X.stack H1 H2 s1 s2 e C t B):kK e C s2.heap :=
 let ⟨oe,vs,e1,e2,e3,_⟩:=F.fly.first
 ⟨oe,vs,e1,e2,e3⟩
theorem pK(I:Inv X pins σ H1 s1)(F:Fly X.prog X.w X.stack H1 H2 s1 s2 e C t B):Inv X pins σ (upd H2 e (nO e C)) s2:=by
 have un:=F.un
 have he:B.get? e=none:=F.fly.2.1
 have hn:=F.new
 have nf:e∉Ot X.stack:=λz=>by
  obtain ⟨_,o,e1,nd⟩:=F.fly.2.2.1.mem z
  obtain ⟨oe,vs,e2,_,e3⟩:=iN F
  rw[e1] at e2
  cases e2
  exact nd _ e3
 have new:∀b o,s1.heap.get? b=some o->b≠e:=λb o e1 z=>by
  by_cases hb:b∈Ot X.stack
  ·exact nf (z▸hb)
  ·obtain ⟨o',e2,_⟩:=F.cov b o e1 hb
   rw[z,he] at e2
   cases e2
 have I':Inv X pins σ (upd H2 e (nO e C)) s2:=I.call' (ch:=[]) F.os
  ⟨un.keep,un.slot,λb o e1 n hx=>by rw[Fd (new b o e1)]; exact un.free b o e1 n hx,un.there,λb xs z=>?_,λb o u z=>?_,λb ps z=>?_⟩ ?_ F.bare λb z=>nomatch z
 ·exact I'
 ·have z2:=un.tups b xs z
  rw[Fd (Fi z2 hn)]; exact z2
 ·have z2:=un.frzs b o u z
  rw[Fd (Fi z2 hn)]; exact z2
 ·obtain ⟨m,z2⟩:=un.tbls b ps z
  exact ⟨m,by rw[Fd (Fi z2 hn)]; exact z2⟩
 ·intro a u z
  by_cases ha:a=e
  ·subst ha
   rw[Et] at z
   cases z
   exact Y4 (iN F)
  ·rw[Fd ha] at z
   refine (F.held a u z).stay (λ_ _ _ q=>q) (λb q=>?_) (λb xs q=>?_)
   ·rw[Fd (Fi q hn)]; exact q
   ·rw[Fd (Fi q hn)]; exact q
end
section
variable{X:Cx}{E:XK}
theorem C3{CX:nA}{kk:Nat}{f:Addr}{fd:Bz}{ps:List Str}{sp:Sp}{x:Str}{p pos:Pos}{e:Expr}{es:List Expr}{t:TA}(F:FnOk X.prog X.w X.K X.mg X.base CX kk f fd ps sp)(hr:Room kk X.A)(hg:Gl X x)(hm:X.mg x=some (.ref f))(hk:PySem.W.keepIn X.K (.ref f)=true)(hb:Binds X.K fd ps [])(ha:PA X.nox (e::es) t){pins:List (Addr×Obj)}{s:Ah}{σ:L2.St}{H:Hp}{Q:VK}{Ex:Value->Ah->Prop}(I:Inv X pins σ H s)(h:t σ H λvs H1=>sp vs H1 Q E)(hE:∀H1 s1 ev s',Inv X pins σ H1 s1->CX X.stack H1 s1 E ev s'->Ex ev s')(hdb:(x == ("__debug__" : Str))=false:=by decide)(he:Bf (e::es) X.env=(false,eval e X.env)::Bf es X.env:=by rfl)(hpl:(Gn pos (Bf es X.env)).any (·.1)=false:=by rfl):wpAny (model X.prog X.w) X.A (eval (.Call (.Name x p) (e::es) [] pos) X.env) (EP X pins σ Q) Ex s:=by
 refine Lk (Sy I hg hm ?_ hdb)
 have hA:=Dn (ha pos pins s σ H _ (I.wish _) h) (Q':=AP X pins σ λvs H1=>sp vs H1 Q E) (E':=Ex) (λ_ _ ⟨v,H',I',r,q⟩=>⟨v,H',I'.unwish,r,q⟩) (λ_ _ z=>Fv z)
 refine PySem.W.callWith_K (h₀:=X.base) I.ok.mod.kin hk (Gh hA λus s1 ⟨vs,H1,I1,r,q⟩=>⟨I1.kIn,?_⟩) he hpl
 have hl:us.length=ps.length:=by rw[<- r.length]; exact F.len _ _ _ _ q
 have hbb:=hb s1 us I1.kIn (by simpa using hl)
 rw[El] at hbb
 refine wpAny_call (Je (F.run X.A X.stack s1 H1 ⟨us,[]⟩ us vs Q E hr I1.env0 hbb r q) λrs s' hq=>?_)
 cases rs with
 | error ev=>exact hE H1 s1 ev s' I1 hq
 | ok fl =>
  cases fl with
  | ret u=>exact I1.after hq
  | next=>exact Fv hq
  | brk=>exact Fv hq
  | cont=>exact Fv hq
def aV(j k:Nat)(x:Addr)(σ:L2.St):L2.St:=((σ.set k (some (.ref x))).set j (some (.ref x))).set k none
theorem tO{pins:List (Addr×Obj)}{σ:L2.St}{H1 H2:Hp}{s1 s2:Ah}{e C D t:Addr}{B:Heap}{j k:Nat}{n y c:Str}{np hp ap yp vp:Pos}{De:Ends}(hst:X.stack=X.env::X.outer)(hfr:X.env.frame=some X.env.locals)(hN:X.N.Nodup)(hk:X.N[k]? = some n)(hkl:X.env.scope.names.lookup n=some .local)(hj:X.N[j]? = some y)(hjl:X.env.scope.names.lookup y=some .local)(hg:Gl X c)(hm:X.mg c=some (.ref D))(hD:PySem.W.excIn X.K D pE "ValueError.__new__" = true)(hs:PySem.W.subIn X.K (.ref C) (.ref D)=some true)(I:Inv X pins σ H1 s1)(F:Fly X.prog X.w X.stack H1 H2 s1 s2 e C t B)(q:De.nx (aV j k e σ) (upd H2 e (nO e C)))(hdb:(c == ("__debug__" : Str))=false:=by decide)(hnd:(n == ("__debug__" : Str))=false:=by decide)(hsw:Ir (.Name n vp) (some (.Name y yp)) ap.line X.env=pure false:=by rfl)(hcd:(n == ("__classdict__" : Str))=false:=by decide):wpAny (model X.prog X.w) X.A (noteFrame (.ref e) X.env) (λ_ s3=>wpAny (model X.prog X.w) X.A (setFlight (.ref e) none) (λ_ s4=>wpAny (model X.prog X.w) X.A (handleBy (.ref e) X.env [.ExceptHandler (some (.Name c np)) (some n) [.Assign [.Name y yp] (.Name n vp) ap] hp]) (SP X pins De) X.xe s4) X.xe s3) X.xe s2:=by
 have fr:X.A.frames=some (X.env::X.outer):=by rw[<- hst]; exact I.ok.frames
 have fl:=F.fly
 rw[hst] at fl
 refine wpAny_looks_onW fr hfr fl λh3 x1 x2=>?_
 refine wpAny_landsW x1 λh4 x3 x4=>?_
 have F4:=F.on (h':=h4) (by rw[hst]; exact x3) (x2.trans x4)
 have I4:=K5 I F4
 refine wpAny_handleBy_cons (codeAny_handlers_test ?_) (by intro z; cases z)
 refine Sy (X:=aQ X (.ref e) X.xe) (Up I4) hg hm ?_ hdb
 obtain ⟨bm,NN,nm,qn,bs,hdct,sn,sub,ab,col,dd,k0,k1,k2,k3,k5,mN,hC,_,_,T⟩:=eN (h:=h4) I4.kIn hD
 obtain ⟨oe,vs,e1,e2,e3⟩:=iN F4
 refine lO (d:=s2.drawn) (g:=s2.gens) (t:=s2.toks) (os:=s2.os) I4.kIn hC e1 e2 (T.hasType (by decide)) hs ?_
 show Hv _ _ _ _ _
 refine codeAny_handlers_suite_as ?_
 refine lands_againW (s:={ s2 with heap:=h4 }) x3 λh5 x5 x6=>?_
 have F5:=F4.on (h':=h5) (by rw[hst]; exact x5) x6
 have I5:=pK I F5
 refine Wb (X:=aQ X (.ref e) X.xe) (v:=.ref e) (Up I5) hN hk (.inl hkl) rfl (λs6 I6=>?_) (.inr hkl)
 have hkσ:k<σ.length:=by rw[I.len]; exact (Av.mp hk).1
 have P:=Lj (Na (X:=aQ X (.ref e) (λ_ _=>False))
   (i:=j) (pos:=ap) (pos':=yp) hN hj (.inl hjl) (yI (i:=k) (x:=n) (pos:=vp) hk (.inl hkl) hnd hcd) hsw (.inr hjl))
  pins s6 (σ.set k (some (.ref e))) (upd H2 e (nO e C)) { nx:=λσ' H'=>σ'=(σ.set k (some (.ref e))).set j (some (.ref e))/\H'=upd H2 e (nO e C),rt:=λ_ _=>False,bk:=λ_ _=>False,ct:=λ_ _=>False } (Up (Vp I.ok.hd I6))
  ⟨.ref e,by rw[Lc hkσ],rfl,rfl⟩
 refine Dn P (λf s7 q7=>?_) λ_ _ z=>Fv z
 cases f with
 | next =>
  obtain ⟨σ',H',I7,rfl,rfl⟩:=q7
  exact C2 (Vp I.ok.hd I7) hN hk hkl λs8 I8=>⟨_,_,I8,q⟩
 | ret u=>obtain ⟨_,_,_,_,_,z⟩:=q7; exact z.elim
 | brk=>obtain ⟨_,_,_,z⟩:=q7; exact z.elim
 | cont=>obtain ⟨_,_,_,z⟩:=q7; exact z.elim
def GO(K:PySem.W.Frag)(D:Addr)(sp:Sp)(put:V->L2.St->L2.St)(j k:Nat)(ta:TA):TS:=λDe σ H=>ta σ H λvs H1=>sp vs H1 (λv H2=>De.nx (put v σ) H2)
 (λcls _ H2=>∃C,cls=.ref C/\PySem.W.subIn K (.ref C) (.ref D)=some true/\∀x,H2 x=none->De.nx (aV j k x σ) (upd H2 x (nO x C)))
section
variable{kk:Nat}{f:Addr}{fd:Bz}{ps:List Str}{sp:Sp}{x:Str}{p cpos bp pos:Pos}{e:Expr}{es:List Expr}{ta:TA}{D:Addr}{i j k:Nat}{n y c v:Str}{np hp ap yp vp ip:Pos}
theorem G6(hst:X.stack=X.env::X.outer)(hfr:X.env.frame=some X.env.locals)(hN:X.N.Nodup)(hi:X.N[i]? = some v)(hil:X.env.scope.names.lookup v=some .local)(hk:X.N[k]? = some n)(hkl:X.env.scope.names.lookup n=some .local)(hj:X.N[j]? = some y)(hjl:X.env.scope.names.lookup y=some .local)(hg:Gl X c)(hm:X.mg c=some (.ref D))(hD:PySem.W.excIn X.K D pE "ValueError.__new__" = true)(F:FnOk X.prog X.w X.K X.mg X.base (Mh X.prog X.w) kk f fd ps sp)(hr:Room kk X.A)(hgf:Gl X x)(hmf:X.mg x=some (.ref f))(hkf:PySem.W.keepIn X.K (.ref f)=true)(hb:Binds X.K fd ps [])(ha:PA X.nox (e::es) ta)(hdb:(c == ("__debug__" : Str))=false:=by decide)(hnd:(n == ("__debug__" : Str))=false:=by decide)(hcd:(n == ("__classdict__" : Str))=false:=by decide)(hxd:(x == ("__debug__" : Str))=false:=by decide)(hsw:Ir (.Name n vp) (some (.Name y yp)) ap.line X.env=pure false:=by rfl)(hsb:Ir (.Call (.Name x p) (e::es) [] cpos) (some (.Name v ip)) bp.line X.env=pure false:=by rfl)(he:Bf (e::es) X.env=(false,eval e X.env)::Bf es X.env:=by rfl)(hpl:(Gn cpos (Bf es X.env)).any (·.1)=false:=by rfl):PS X (.Try [.Assign [.Name v ip] (.Call (.Name x p) (e::es) [] cpos) bp] [.ExceptHandler (some (.Name c np)) (some n) [.Assign [.Name y yp] (.Name n vp) ap] hp] [] [] pos) (GO X.K D sp (λu σ=>σ.set i (some u)) j k ta):=by
 intro pins s σ H De I h
 refine wpAny_Try_except (jJ (wpAny_Assign_Name (Dn (C3 (E:=λcls _ H2=>∃C,cls=.ref C/\PySem.W.subIn X.K (.ref C) (.ref D)=some true/\∀x,H2 x=none->De.nx (aV j k x σ) (upd H2 x (nO x C))) F hr hgf hmf hkf hb ha I h (λH1 s1 ev s' I1 hx=>?_) hxd he hpl) (λu s1 ⟨y,H1,I1,r1,q1⟩=>?_) λ_ _ z=>z) hsb))
 ·obtain ⟨ee,C,t,H',B,rfl,Fl,C',hC,hs,q⟩:=hx
  cases hC
  exact tO hst hfr hN hk hkl hj hjl hg hm hD hs I1 Fl (q ee Fl.new) hdb hnd hsw hcd
 ·exact Wb I1 hN hi (.inl hil) r1 (λs2 I2=>Ov (Ov ⟨_,H1,I2,q1⟩)) (.inr hil)
end
end
structure ExcK(K:PySem.W.Frag)(C:Addr):Prop where
 cls:∃cd,PySem.W.clsIn K C=some cd
 ga:PySem.W.findIn K (.ref C) "__getattribute__" = some (some (.builtin "BaseException.__getattribute__"))
 gn:PySem.W.findIn K (.ref C) "__getattr__" = some none
 ca:PySem.W.findIn K (.ref C) "__class__" = some (some (.builtin "object.__class__"))
 sb:PySem.W.subIn K (.ref C) (.type "BaseException")=some true
 so:PySem.W.subIn K (.ref C) (.type "object")=some true
section
variable{prog:Bh}{w:World}{A:Cr}{E:Value->Ah->Prop}{h:Heap}{g:Array GenState}{d:Drawn}{t:Nat}{os:OsState}{a C:Addr}{o:Obj}{K:PySem.W.Frag}
theorem wZ{R:Result->Ah->Prop}(KX:K.In h)(T:ExcK K C)(hx:h.get? a=some o)(hc:o.cls=.ref C)(hq:R (.ok (.ret (.ref C))) ⟨h,g,d,t,os⟩):Hv (model prog w) A (.call (.builtin "getset_descriptor.__get__") ⟨[.builtin "object.__class__",.ref a,.ref C],[]⟩) R ⟨h,g,d,t,os⟩:=by
 have ty:(⟨h,g,d,t,os⟩ : Ah).TypeIs (.builtin "object.__class__") "getset_descriptor" := PySem.F.typeOf_object_class
 have L:=PySem.W.looks_subIn (M:=model prog w) KX T.so
 rw[<- PySem.F.owner_object_class] at L
 refine Of PySem.F.slot_gs_get.plain PySem.F.entry_gs_get (PySem.F.slot_gs_get.check _ _ _ _ _ _ _ _ ty (PySem.F.args_gs_get _ _ _) ?_)
 repeat (any_goals (first | assumption | (with_reducible refine Hu hx ?_; rw[hc]) | with_reducible refine PySem.W.Looks.at L ?_ | wp_step))
 refine ⟨Xz _ (by decide +kernel),Hr PySem.F.entry_object_class ?_⟩
 repeat (any_goals (first | assumption | (with_reducible refine Hu hx ?_; rw[hc]) | wp_step))
theorem oE{tk:Tok}{Q:Fin->Ah->Prop}(KX:K.In h)(T:ExcK K C)(hx:h.get? a=some o)(hc:o.cls=.ref C)(hq:Q (.done (.ret (.ref C))) ⟨h,g,d,t,os⟩):wpAny (model prog w) A (Builtin.«object.__getattribute__» ⟨[.ref a,.str "__class__" tk],[]⟩) Q E ⟨h,g,d,t,os⟩:=by
 have ty:(⟨h,g,d,t,os⟩ : Ah).TypeIs (.builtin "object.__class__") "getset_descriptor" := PySem.F.typeOf_object_class
 have f5:=PySem.F.typeOf_object_class
 have f6:=PySem.F.slot_gs_get.lookup
 have f7:=PySem.F.slot_gs_set.lookup
 have L:=PySem.W.looks_findIn (M:=model prog w) KX T.ca
 repeat (any_goals (first | assumption | (with_reducible refine Hu hx ?_; rw[hc]) | with_reducible refine PySem.W.Looks.at L ?_ | wp_step))
 refine wZ KX T hx hc ?_
 repeat (any_goals (first | assumption | wp_step))
theorem oY{M:Model}{nv:Value}{Q:Unit->Ah->Prop}(KX:K.In h)(T:ExcK K C)(hx:h.get? a=some o)(hc:o.cls=.ref C)(hq:Q () ⟨h,g,d,t,os⟩):wpAny M A (jM "BaseException.__getattribute__" ⟨[.ref a,nv],[]⟩) Q E ⟨h,g,d,t,os⟩:=by
 have k1:builtinKind "BaseException.__getattribute__" = some .slot:=by decide +kernel
 have k2:splitId "BaseException.__getattribute__" = some ("BaseException", "__getattribute__"):=by decide +kernel
 have k3:=PySem.F.args_bexc_ga (.ref a) nv
 have L:=PySem.W.looks_subIn (M:=M) KX T.sb
 simp only[jM,k1,k2]
 refine Ac ?_
 unfold isInstance
 repeat (first | (with_reducible refine Hu hx ?_; rw[hc]) | with_reducible refine PySem.W.Looks.at L ?_ | wp_step)
 exact hq
theorem tH{tk:Tok}{R:Result->Ah->Prop}(KX:K.In h)(T:ExcK K C)(hx:h.get? a=some o)(hc:o.cls=.ref C)(hq:R (.ok (.ret (.ref C))) ⟨h,g,d,t,os⟩):Hv (model prog w) A (.call (.builtin "BaseException.__getattribute__") ⟨[.ref a,.str "__class__" tk],[]⟩) R ⟨h,g,d,t,os⟩ :=
 Of (by decide +kernel) PySem.F.entry_bexc_ga (oY KX T hx hc (oE KX T hx hc hq))
theorem E6{tk:Tok}{Q:Value->Ah->Prop}(KX:K.In h)(T:ExcK K C)(hx:h.get? a=some o)(hc:o.cls=.ref C)(hq:Q (.ref C) ⟨h,g,d,t,os⟩):wpAny (model prog w) A (getAttrBy (.ref a) (.str "__class__" tk) false) Q E ⟨h,g,d,t,os⟩:=by
 have L1:=PySem.W.looks_findIn (M:=model prog w) KX T.ga
 have L2:=PySem.W.looks_findIn (M:=model prog w) KX T.gn
 have x2:(Wl "BaseException.__getattribute__" == Wl "object.__getattribute__")=false:=by decide +kernel
 have x1:(onTheHeap (Cf C) && Wl "BaseException.__getattribute__" == Wl "object.__getattribute__")=false:=by rw[x2]; rfl
 have f3:=PySem.F.excAttr_ValueError.ga.bind (.ref a)
 repeat (any_goals (first | assumption | (with_reducible refine Hu hx ?_; rw[hc]) | with_reducible refine PySem.W.Looks.at L1 ?_ | with_reducible refine PySem.W.Looks.at L2 ?_ | wp_step))
 refine tH KX T hx hc ?_
 repeat (any_goals (first | assumption | wp_step))
theorem tV{Q:Option Value->Ah->Prop}(KX:K.In h)(T:ExcK K C)(hx:h.get? a=some o)(hc:o.cls=.ref C)(hq:Q (some (.ref C)) ⟨h,g,d,t+1,os⟩):wpAny (model prog w) A (getAttr? (.ref a) "__class__") Q E ⟨h,g,d,t,os⟩:=by
 unfold getAttr? getAttrBy?
 repeat (any_goals (first | assumption | with_reducible apply E6 KX T hx hc | wp_step))
end
theorem jY{K:PySem.W.Frag}{x C:Addr}(T:ExcK K C):PySem.W.KitX K (.ref x) (.ref C) (kK x C) where
 ty:=λM h KX ⟨oe,vs,e1,e2,e3⟩=>e2▸(PySem.W.Looks.ld e1).andThen .now
 it:=λM h KX _=>by
  obtain ⟨cd,hc⟩:=T.cls
  unfold PySem.W.clsIn at hc
  split at hc
  ·rename_i ho
   intro A' Q' E' s' k q
   unfold isType loadHead
   exact Ac (wpAny_loadPart (k _ _ (KX _ _ ho)) (Ao q))
  ·cases hc
 ne:=λh tp dd its n sl KX htp=>by
  obtain ⟨cd,hc⟩:=T.cls
  unfold PySem.W.clsIn at hc
  split at hc
  ·rename_i ho
   refine Px.mpr λq=>?_
   have e:C=tp:=Value.ref.inj (beq_iff_eq.mp q)
   subst e
   have z:=(KX _ _ ho).symm.trans htp
   cases z
  ·cases hc
 ca:=λ{prog w A E Q s} KX ⟨oe,vs,e1,e2,e3⟩ k=>by
  obtain ⟨h,g,d,t,os⟩:=s
  exact tV KX T e1 e2 k
def AR:V->Value
 | .ref D=>.ref D
 | .ty n=>.type n
 | _=>.none
section
variable{X:Cx}
def U3(K:PySem.W.Frag):List V->Hp->VK->Prop:=λxs H Q=>∃(x C:Addr) (c:V) (b:Bool),xs=[.ref x,c]/\H x=some (nO x C)/\ExcK K C/\RelV c (AR c)/\PySem.W.kitOne K (.ref C) (AR c)=some b/\Q (.bl b) H
theorem xG{P:Bh}{w:World}{H:Hp}{h:Heap}{x C:Addr}(ok:Xg P w H h)(e:H x=some (nO x C)):kK x C h:=(show Io P w H h x (nO x C) from ok x _ e).1
theorem lV:Kb X (.builtin "isinstance") (U3 X.K):=by
 intro pins s σ H xs us Q I r h
 obtain ⟨x,C,c,b,rfl,hx,T,rc,k,q⟩:=h
 obtain ⟨u,v,rfl,ru,rv⟩:=vals2 r
 cases ru
 have ev:v=AR c:=by
  cases c with
  | ref D=>cases rv; rfl
  | ty n=>cases rv; rfl
  | non=>cases rv; rfl
  | bl _=>cases rc
  | int _=>obtain ⟨t,z⟩:=rc; cases z
  | str _=>obtain ⟨t,z⟩:=rc; cases z
  | byt _=>obtain ⟨t,z⟩:=rc; cases z
  | flt _=>obtain ⟨t,z⟩:=rc; cases z
 rw[ev]
 exact PySem.W.kia_one (jY T) I.kIn (xG I.hok hx) k (λz=>nomatch z) λtk=>⟨.bl b,H,I.tok _,rfl,q⟩
def P5(K:PySem.W.Frag):List V->Hp->VK->Prop:=λxs H Q=>∃(x C tp:Addr) (cs:List Addr) (b:Bool),xs=[.ref x,.ref tp]/\H x=some (nO x C)/\ExcK K C/\Vi K H tp (cs.map V.ref)/\PySem.W.kitAny K (.ref C) (cs.map Cf)=some b/\Q (.bl b) H
theorem rB:∀{rs:List Addr} {us:List Value},Fq (rs.map V.ref) us->us=rs.map Cf
 | [],_,r=>by cases r; rfl
 | a::l,_,r=>by
  rw[Ar] at r
  cases r with
  | cons r1 r2=>cases r1; rw[rB r2]; rfl
theorem uN:Kb X (.builtin "isinstance") (P5 X.K):=by
 intro pins s σ H xs us Q I r h
 obtain ⟨x,C,tp,cs,b,rfl,hx,T,ht,k,q⟩:=h
 obtain ⟨u,v,rfl,ru,rv⟩:=vals2 r
 cases ru
 cases rv
 obtain ⟨its,rv,⟨o,e,hc,n,hd⟩,_⟩:=I.tuple ht
 have ei:=rB rv
 subst ei
 obtain ⟨oc,od,odt,osl⟩:=o
 have hc':oc=.type "tuple" := hc
 have hd':odt=.seq (cs.map Cf).toArray n:=hd
 subst hc' hd'
 exact PySem.W.kia_tup (jY T) I.kIn (xG I.hok hx) e k (λz=>nomatch z) λtk=>⟨.bl b,H,I.tok _,rfl,q⟩
end
theorem A8{K:PySem.W.Frag}{C D:Addr}{b:Bool}{cd:ClassData}(h1:PySem.W.clsIn K D=some cd)(h2:PySem.W.typeIn K (.ref D)=some (.type "type"))(h3:PySem.W.subIn K (.ref C) (.ref D)=some b)(h4:C≠D):PySem.W.kitOne K (.ref C) (.ref D)=some b:=by
 unfold PySem.W.kitOne PySem.W.kitCls
 rw[if_neg (by simpa using h4)]
 dsimp only
 rw[h1,h2,if_pos (by simp)]
 exact h3
theorem kit_self{K:PySem.W.Frag}{C:Addr}:PySem.W.kitOne K (.ref C) (.ref C)=some true:=by
 unfold PySem.W.kitOne
 rw[if_pos (by simp)]
theorem kit_ty{K:PySem.W.Frag}{C:Addr}{n:String}{b:Bool}(h2:PySem.W.kitMeta n=true)(h3:PySem.W.subIn K (.ref C) (.type n)=some b):PySem.W.kitOne K (.ref C) (.type n)=some b:=by
 unfold PySem.W.kitOne PySem.W.kitCls
 rw[if_neg (by simp)]
 dsimp only
 rw[if_pos h2]
 exact h3
theorem U8{K:PySem.W.Frag}{T n:String}{b:Bool}(h1:(Fk T == Fk n)=false)(h2:PySem.W.kitMeta n=true)(h3:(fastBuiltinMro T).map (λx=>x.contains (Fk n))=some b):PySem.W.kitOne K (.type T) (.type n)=some b:=by
 unfold PySem.W.kitOne PySem.W.kitCls
 rw[h1,if_neg (by decide)]
 dsimp only
 rw[if_pos h2]
 exact h3
section
variable{X:Cx}{a b:Expr}{ta tb:TE}{pos:Pos}
theorem Y5{e:Expr}{te:TE}(he:PE X e te):PE X (.FormattedValue e (-1) none pos) (λσ H Q=>te σ H λx H1=>∃i,x=.int i/\i.natAbs.log2<1920/\Q (.str (Yq i)) H1):=by
 intro pins s σ H Q I h
 refine FormattedValue_plain (Gh (he pins s σ H _ I h) λv s1 q0_ => ?_)
 obtain ⟨x,H1,I1,r1,i,e1,hi,q⟩ := q0_
 subst e1
 obtain ⟨t,rfl⟩:=r1
 exact formatField_int_small hi ⟨.str _,H1,I1.tok _,⟨_,rfl⟩,q⟩
end
end Nd
namespace NdS
open PySem
theorem Wj{mask finger moves:Nat}{led plain:Bool}{hs:Array Int}{t:Bb}{order:Array Nat}(h:Gp mask finger moves led plain hs=some (t,order)):t.led=led/\t.mask=mask/\t.plain=plain/\t.dummies=#[]:=by
 unfold Gp at h
 cases hl:Iu mask hs with
 | none=>rw[hl] at h; cases h
 | some owner =>
  rw[hl] at h
  cases h
  exact ⟨rfl,rfl,rfl,rfl⟩
def st(m i:Nat):Nat:=(i * 5+1) % m
def it(m:Nat):Nat->Nat->Nat
 | 0,i=>i
 | t+1,i=>it m t (st m i)
theorem aS(m:Nat):∀(a b i:Nat),it m (a+b) i=it m b (it m a i)
 | 0,b,i=>by rw[Oh]; rfl
 | a+1,b,i=>by rw[Yv]; exact aS m a b (st m i)
def CF(m:Nat):Nat->Nat->List Nat
 | 0,_=>[]
 | f+1,i=>i::CF m f (st m i)
theorem Zm{m:Nat}:∀{f i e:Nat},e∈CF m f i->∃t,t<f/\it m t i=e
 | 0,_,_,h=>by cases h
 | f+1,i,e,h=>by
  rcases Ap.mp h with z | z
  ·exact ⟨0,Iv _,z.symm⟩
  ·obtain ⟨t,h1,h2⟩:=Zm z
   exact ⟨t+1,Nat.succ_lt_succ h1,h2⟩
def Il(m:Nat):Prop:=0<m/\it m m 0=0/\∀e,e<m->e∈CF m m 0
theorem Oy{m:Nat}(h0:0<m)(h1:(it m m 0 == 0)=true)(h2:((Cc m).all λe=>(CF m m 0).contains e)=true):Il m :=
 ⟨h0,by simpa using h1,λe he=>by
  have:=Jp.mp h2 e (Gd.mpr he)
  simpa using this⟩
theorem rX:Il 8:=Oy (by decide) (by decide +kernel) (by decide +kernel)
theorem yL:Il 16:=Oy (by decide) (by decide +kernel) (by decide +kernel)
theorem i4:Il 32:=Oy (by decide) (by decide +kernel) (by decide +kernel)
theorem vW:Il 64:=Oy (by decide) (by decide +kernel) (by decide +kernel)
theorem qI:Il 128:=Oy (by decide) (by decide +kernel) (by decide +kernel)
theorem iW:Il 256:=Oy (by decide) (by decide +kernel) (by decide +kernel)
theorem CK{m:Nat}(g:Il m){i e:Nat}(hi:i<m)(he:e<m):∃t,t<m/\it m t i=e:=by
 obtain ⟨h0,h1,h2⟩:=g
 obtain ⟨a,ha,ea⟩:=Zm (h2 i hi)
 obtain ⟨b,hb,eb⟩:=Zm (h2 e he)
 by_cases hab:a<=b
 ·refine ⟨b - a,by omega,?_⟩
  rw[<- ea,<- aS,Nat.add_sub_cancel' hab]
  exact eb
 ·refine ⟨b+m - a,by omega,?_⟩
  rw[<- ea,<- aS,show a+(b+m - a)=m+b by omega,aS,h1]
  exact eb
def lp(m:Nat):Nat->Nat->Nat->Nat×Nat
 | 0,i,p=>(i,p)
 | t+1,i,p=>lp m t ((i * 5+1+p / 32) % m) (p / 32)
theorem r9(m:Nat):∀(a b i p:Nat),lp m (a+b) i p=lp m b (lp m a i p).1 (lp m a i p).2
 | 0,b,i,p=>by rw[Oh]; rfl
 | a+1,b,i,p=>by rw[Yv]; exact r9 m a b _ _
theorem pV(m:Nat):∀(t i:Nat),lp m t i 0=(it m t i,0)
 | 0,_=>rfl
 | t+1,i=>pV m t (st m i)
theorem lI{m:Nat}:∀(n i p:Nat),p<32 ^ n->(lp m n i p).2=0
 | 0,i,p,h=>by show p=0; simpa using h
 | n+1,i,p,h=>lI n _ _ (by rw[Nat.pow_succ] at h; exact Nat.div_lt_of_lt_mul (by omega))
theorem Q6{m:Nat}(h0:0<m):∀(n i p:Nat),i<m->(lp m n i p).1<m
 | 0,i,p,h=>h
 | n+1,i,p,h=>Q6 h0 n _ _ (Iw _ h0)
theorem bS{m:Nat}(g:Il m){i p e:Nat}(hi:i<m)(hp:p<2 ^ 64)(he:e<m):∃t,t<m+14/\(lp m t i p).1=e:=by
 have h13:=lI (m:=m) 13 i p (By hp (by decide))
 obtain ⟨t,ht,e1⟩:=CK g (Q6 g.1 13 i p hi) he
 refine ⟨13+t,by omega,?_⟩
 rw[r9,h13,pV]
 exact e1
theorem Mv(mask i:Nat):i<=Ck mask i:=by unfold Ck; split <;> omega
theorem eM{mask:Nat}{owner:Array (Option Nat)}:∀(fuel i p t:Nat),t<fuel->(owner.getD (lp (mask+1) t i p).1 (some 0)).isNone=true->∃j,Dk mask owner fuel i p=some j/\(owner.getD j (some 0)).isNone=true
 | 0,_,_,_,h,_=>absurd h (Fc _)
 | fuel+1,i,p,t,h,hn=>by
  unfold Dk
  split
  ·rename_i k hk
   exact ⟨i+k,rfl,by have:=Tu hk; exact this⟩
  ·rename_i hk
   rw[List.find?_eq_none] at hk
   cases t with
   | zero =>
    have:=hk 0 (Gd.mpr (by have:=Mv mask i; omega))
    exact absurd hn (by simpa [lp] using this)
   | succ t =>
    exact eM fuel _ _ t (by omega) hn
theorem Ux{L:List (Option Nat)}:∀{j x:Nat},L[j]? = some none->((L.set j (some x)).filterMap id).Perm (x::L.filterMap id):=by
 induction L with
 | nil=>intro j x h; simp at h
 | cons a L ih =>
  intro j x h
  cases j with
  | zero =>
   simp at h
   subst h
   simp
  | succ j =>
   have h':L[j]? = some none:=by simpa using h
   have:=ih (x:=x) h'
   cases a with
   | none=>simpa using this
   | some b=>simpa using (List.Perm.cons b this).trans (Ef x b _)
theorem uG{L:List (Option Nat)}:(L.filterMap id).length<L.length->∃j:Nat,L[j]? = some none:=by
 induction L with
 | nil=>intro h; simp at h
 | cons a L ih =>
  intro h
  cases a with
  | none=>exact ⟨0,rfl⟩
  | some b =>
   have : (L.filterMap id).length<L.length:=by simpa using h
   obtain ⟨j,hj⟩:=ih this
   exact ⟨j+1,by simpa using hj⟩
theorem gR(h:Int):Bp h<2 ^ 64:=by
 unfold Bp
 have h1:=Int.emod_nonneg h (show (2 ^ 64:Int)≠0 by decide)
 have h2:=Int.emod_lt_of_pos h (show (0:Int)<2 ^ 64 by decide)
 omega
def gX(mask:Nat)(acc:Option (Array (Option Nat)×Nat))(h:Int):Option (Array (Option Nat)×Nat):=do
 let (owner,k) <- acc
 let j <- Dk mask owner (Cw mask) (Bp h % (mask+1)) (Bp h)
 pure (owner.setIfInBounds j (some k),k+1)
theorem mT{mask:Nat}(g:Il (mask+1)):∀(hs:List Int) (owner:Array (Option Nat)) (n:Nat),owner.size=mask+1->(owner.toList.filterMap id).Perm (Cc n)->n+hs.length<=mask->∃owner':Array (Option Nat),hs.foldl (gX mask) (some (owner,n))=some (owner',n+hs.length)/\owner'.size=mask+1/\(owner'.toList.filterMap id).Perm (Cc (n+hs.length))
 | [],owner,n,h1,h2,_=>⟨owner,rfl,h1,h2⟩
 | h::hs,owner,n,h1,h2,h3=>by
  rw[Bq] at h3
  have len:(owner.toList.filterMap id).length=n:=by rw[h2.length_eq,Dx]
  obtain ⟨e,he⟩:=uG (L:=owner.toList) (by rw[len,Ag]; omega)
  have he':e<mask+1:=by
   have:=(Av.mp he).1
   rw[Ag] at this
   omega
  obtain ⟨t,ht,et⟩:=bS g (i:=Bp h % (mask+1)) (p:=Bp h) (e:=e) (Iw _ g.1) (gR h) he'
  have hn:(owner.getD (lp (mask+1) t (Bp h % (mask+1)) (Bp h)).1 (some 0)).isNone=true:=by
   rw[et,Df,<- Fg,he]
   rfl
  obtain ⟨j,ej,hj⟩:=eM (mask:=mask) (owner:=owner) (Cw mask) _ _ t (by unfold Cw; omega) hn
  have hj':owner.toList[j]? = some none:=by
   rw[Df,<- Fg] at hj
   cases q:owner.toList[j]? with
   | none=>rw[q] at hj; simp at hj
   | some v =>
    rw[q] at hj
    cases v with
    | none=>rfl
    | some v=>simp at hj
  have e1:gX mask (some (owner,n)) h=some (owner.setIfInBounds j (some n),n+1):=by
   show (do
    let j <- Dk mask owner (Cw mask) (Bp h % (mask+1)) (Bp h)
    pure (owner.setIfInBounds j (some n),n+1))=_
   rw[ej]
   rfl
  rw[Nn,e1]
  have p1:((owner.setIfInBounds j (some n)).toList.filterMap id).Perm (Cc (n+1)):=by
   rw[Array.toList_setIfInBounds]
   refine (Ux hj').trans ?_
   rw[List.range_succ]
   exact (List.Perm.cons n h2).trans (List.perm_append_comm (l₁:=[n]) (l₂:=Cc n))
  obtain ⟨o',q1,q2,q3⟩:=mT g hs (owner.setIfInBounds j (some n)) (n+1) (by rw[jO]; exact h1) p1 (by omega)
  refine ⟨o',?_,q2,?_⟩
  ·rw[q1,Bq]
   congr 2
   omega
  ·rw[Bq,show n+(hs.length+1)=n+1+hs.length by omega]
   exact q3
theorem lM{mask:Nat}(g:Il (mask+1))(hs:Array Int)(hl:hs.size<=mask):∃owner:Array (Option Nat),Iu mask hs=some owner/\owner.size=mask+1/\(owner.toList.filterMap id).Perm (Cc hs.size):=by
 have h0:((Mw (mask+1) (none:Option Nat)).toList.filterMap id).Perm (Cc 0):=by
  rw[Array.toList_replicate]
  simp
 obtain ⟨o,h1,h2,h3⟩:=mT g hs.toList (Mw (mask+1) none) 0 (by simp) h0 (by simpa using hl)
 rw[Ag,Oh] at h1 h3
 refine ⟨o,?_,h2,h3⟩
 unfold Iu
 rw[<- Array.foldl_toList]
 show (hs.toList.foldl (gX mask) (some (Mw (mask+1) none,0))).map (·.1)=some o
 rw[h1]
 rfl
theorem nI(owner:Array (Option Nat)):((Cc owner.size).filterMap λj=>(owner.getD j none).map λx=>(j,x)).map (·.2)=owner.toList.filterMap id:=by
 obtain ⟨L⟩:=owner
 simp only[Aq]
 have h:∀(L:List (Option Nat)) (pre:List (Option Nat)),((List.range' pre.length L.length).filterMap λj=>(((pre++L)[j]?).getD none).map λx=>(j,x)).map (·.2)=L.filterMap id:=by
  intro L
  induction L with
  | nil=>intro pre; rfl
  | cons a L ih =>
   intro pre
   rw[Bq,List.range'_succ,Hx]
   have e:((pre++a::L)[pre.length]?).getD none=a:=by simp
   have ih':=ih (pre++[a])
   rw[Be,Dl,Ee,List.singleton_append] at ih'
   cases a with
   | none =>
    simp only[e,Option.map_none,List.filterMap_cons_none,id]
    exact ih'
   | some b =>
    simp only[e,Option.map_some,Ar,List.filterMap_cons_some,id]
    rw[ih']
    simp
 have:=h L []
 rw[List.length_nil,<- List.range_eq_range',List.nil_append] at this
 rw[<- this]
 congr 1
 congr 1
 funext j
 rw[Df]
 simp
theorem L0{mask finger moves:Nat}{led plain:Bool}(g:Il (mask+1))(hs:Array Int)(hl:hs.size<=mask):∃(t:Bb) (order:Array Nat),Gp mask finger moves led plain hs=some (t,order)/\order.toList.Perm (Cc hs.size)/\t.fits hs.size=true/\t.led=led:=by
 obtain ⟨o,h1,h2,h3⟩:=lM g hs hl
 have e:Gp mask finger moves led plain hs=some ({ mask:=mask,place:=(((Cc (mask+1)).filterMap λj=>(o.getD j none).map λx=>(j,x)).map (·.1)).toArray,dummies:=#[],finger:=finger,led:=led,moves:=moves,plain:=plain },
   (((Cc (mask+1)).filterMap λj=>(o.getD j none).map λx=>(j,x)).map (·.2)).toArray):=by
  unfold Gp
  rw[h1]
  rfl
 have lo:=nI o
 rw[h2] at lo
 have len:((Cc (mask+1)).filterMap λj=>(o.getD j none).map λx=>(j,x)).length=hs.size:=by
  have:=congrArg Fs lo
  rw[Ab,h3.length_eq,Dx] at this
  exact this
 refine ⟨_,_,e,by rw[Nr,lo]; exact h3,?_,rfl⟩
 simp only[SetTable.fits,Ul,Aq,Ab,len,Di,beq_self_eq_true,true_and,decide_eq_true_eq]
 show hs.size+0<=mask
 omega
theorem xD{α:Type}(es:Array α){order:Array Nat}(p:order.toList.Perm (Cc es.size)):(order.filterMap (es[·]?)).toList.Perm es.toList/\(order.filterMap (es[·]?)).size=es.size:=by
 have e:(order.filterMap (es[·]?)).toList.Perm es.toList:=by
  rw[nB]
  have:=p.filterMap (es[·]?)
  rw[filterMap_getElem?_range] at this
  exact this
 exact ⟨e,by rw[<- Ag,e.length_eq,Ag]⟩
theorem aY{n:Nat}(h:n<256):∃m,Du n=m+1/\Il (m+1)/\n<=m:=by
 have key:∀k:Fin 256,(Du k.1 == 8 && decide (k.1<8)) || (Du k.1 == 16 && decide (k.1<16)) || (Du k.1 == 32 && decide (k.1<32)) || (Du k.1 == 64 && decide (k.1<64)) || (Du k.1 == 128 && decide (k.1<128)) || (Du k.1 == 256 && decide (k.1<256))=true:=by decide +kernel
 have q:=key ⟨n,h⟩
 simp only[Bool.or_eq_true,Di,beq_iff_eq,decide_eq_true_eq] at q
 rcases q with ((((q | q) | q) | q) | q) | q
 ·exact ⟨7,q.1,rX,by omega⟩
 ·exact ⟨15,q.1,yL,by omega⟩
 ·exact ⟨31,q.1,i4,by omega⟩
 ·exact ⟨63,q.1,vW,by omega⟩
 ·exact ⟨127,q.1,qI,by omega⟩
 ·exact ⟨255,q.1,iW,by omega⟩
abbrev fS(p:Array Nat):Prop:=p.toList.Pairwise (· < ·)
theorem Ta{p:Array Nat}(r:fS p){i j:Nat}(h:i<j)(hj:j<p.size):p[i]'(by omega)<p[j]:=by
 have:=Jw.mp r i j (by rw[Ag]; omega) (by rw[Ag]; exact hj) h
 simpa using this
structure Below(p:Array Nat)(j b:Nat):Prop where
 le:b<=p.size
 lo:∀i (h:i<p.size),i<b->p[i]<j
 hi:∀i (h:i<p.size),b<=i->j<=p[i]
theorem cB{p:Array Nat}{j:Nat}(r:fS p):∀(fuel lo hi:Nat),hi<=p.size->lo<=hi->hi - lo<=fuel->(∀i (h:i<p.size),i<lo->p[i]<j)->(∀i (h:i<p.size),hi<=i->j<=p[i])->Below p j (Sm p j fuel lo hi)
 | 0,lo,hi,h1,h2,h3,h4,h5=>by
  unfold Sm
  have e:lo=hi:=by omega
  exact ⟨by omega,λi h hl=>h4 i h hl,λi h hl=>h5 i h (by omega)⟩
 | fuel+1,lo,hi,h1,h2,h3,h4,h5=>by
  unfold Sm
  split
  ·rename_i hl
   have hm:(lo+hi) / 2<p.size:=by omega
   have e:p.getD ((lo+hi) / 2) j=p[(lo+hi) / 2]:=by simp [Array.getD,hm]
   dsimp only
   rw[e]
   split
   ·rename_i hc
    refine cB r fuel _ hi h1 (by omega) (by omega) (λi h hi'=>?_) h5
    by_cases z:i=(lo+hi) / 2
    ·subst z; exact hc
    ·exact Oi (Ta r (show i<(lo+hi) / 2 by omega) hm) hc
   ·rename_i hc
    refine cB r fuel lo _ (by omega) (by omega) (by omega) h4 (λi h hi'=>?_)
    by_cases z:i=(lo+hi) / 2
    ·subst z; omega
    ·exact Ba (by omega) (Iy (Ta r (show (lo+hi) / 2<i by omega) h))
  ·exact ⟨by omega,λi h hl=>h4 i h hl,λi h hl=>h5 i h (by omega)⟩
theorem Sa{p:Array Nat}(r:fS p)(j:Nat):Below p j (Bc p j) :=
 cB r _ _ _ (Al _) (Dm _) (by omega) (λi h hl=>absurd hl (Fc _)) (λi h hl=>absurd hl (by omega))
theorem Below.eq{p:Array Nat}{j b b':Nat}(x:Below p j b)(y:Below p j b'):b=b':=by
 rcases Qq b b' with z | z | z
 ·have h:b<p.size:=By z y.le
  exact absurd (y.lo b h z) (jN.mpr (x.hi b h (Al _)))
 ·exact z
 ·have h:b'<p.size:=By z x.le
  exact absurd (x.lo b' h z) (jN.mpr (y.hi b' h (Al _)))
theorem jZ{p:Array Nat}(r:fS p):Bc p 0=0 :=
 (Sa r 0).eq ⟨Dm _,λi h hl=>absurd hl (Fc _),λi h _=>Dm _⟩
theorem oK{p:Array Nat}(r:fS p){i:Nat}(h:i<p.size):Bc p (p[i]+1)=i+1 :=
 (Sa r _).eq ⟨h,λk hk hl=>by
  by_cases z:k=i
  ·subst z; exact cP _
  ·exact Ln (Ta r (show k<i by omega) h),λk hk hl=>Ta r (show i<k by omega) hk⟩
structure TabOk(n:Nat)(t:Bb):Prop where
 good:Il (t.mask+1)
 dum:t.dummies=#[]
 plain:t.plain=true
 rise:fS t.place
 top:∀j∈t.place.toList,j<=t.mask
 size:t.place.size=n
structure Tab(n:Nat)(t:Bb):Prop extends TabOk n t where
 room:n * 5<t.mask * 3
theorem Sx{t:Bb}{n:Nat}(x:Tab n t):n+1<=t.mask:=by have:=x.room; omega
theorem TabOk.fits{t:Bb}{n:Nat}(x:TabOk n t)(h:n<=t.mask):t.fits n=true:=by
 simp only[SetTable.fits,Ul,x.dum,x.size,Di,beq_self_eq_true,true_and,decide_eq_true_eq]
 show n+0<=t.mask
 omega
theorem Tab.fits{t:Bb}{n:Nat}(x:Tab n t):t.fits n=true:=x.toTabOk.fits (by have:=Sx x; omega)
theorem Ja{t:Bb}{n j:Nat}(x:TabOk n t):t.slot j=.empty↔j∉t.place.toList:=by
 have nd:Wm t.dummies j=false:=by rw[x.dum]; rfl
 unfold Uk
 dsimp only
 rw[nd]
 constructor
 ·intro h hm
  obtain ⟨i,hi,e⟩:=List.mem_iff_getElem.mp hm
  rw[Ag] at hi
  have e':t.place[i]=j:=by simpa using e
  have b:Bc t.place j=i:=(Sa x.rise j).eq ⟨Iy hi,λk hk hl=>by rw[<- e']; exact Ta x.rise hl hi,λk hk hl=>by
   by_cases z:i=k
   ·subst z; exact Nat.le_of_eq e'.symm
   ·rw[<- e']; exact Iy (Ta x.rise (show i<k by omega) hk)⟩
  rw[b,Cs hi,e',if_pos (by simp)] at h
  cases h
 ·intro h
  rw[if_neg (λz=>h ?_)]
  ·rfl
  ·have z':t.place[Bc t.place j]? = some j:=by simpa using z
   have:=Array.mem_of_getElem? z'
   exact Array.mem_def.mp this
theorem Sb{t:Bb}{n j:Nat}(x:TabOk n t):t.slot j≠.dummy:=by
 have nd:Wm t.dummies j=false:=by rw[x.dum]; rfl
 unfold Uk
 dsimp only
 rw[nd]
 split
 ·intro h; cases h
 ·intro h; cases h
theorem Tn{mask i:Nat}(h:i<=mask):Ck mask i<=mask:=by unfold Ck; split <;> omega
theorem Kx(mask i:Nat):Ck mask i - i<=9:=by unfold Ck; split <;> omega
theorem Zi(mask i p:Nat):SetTable.leap mask i p=((i * 5+1+p / 32) % (mask+1),p / 32):=rfl
theorem aA{t:Bb}{n:Nat}{h:Int}(x:TabOk n t):∀(fuel u:Nat) (p:Dh),p.more<=9->p.j+p.more<=t.mask->p.dummy=none->p.more+2+10 * u<=fuel->t.slot (lp (t.mask+1) (u+1) p.i p.perturb).1=.empty->∃j,Gw t (λ_=>h+1) h fuel p=some (.empty j none)/\t.slot j=.empty/\j<=t.mask
 | 0,u,p,_,_,_,h3,_=>absurd h3 (by omega)
 | fuel+1,u,p,h1,h2,hd,h3,h4=>by
  unfold Gw
  split
  ·rename_i hs
   exact ⟨p.j,by rw[hd],hs,by omega⟩
  ·rename_i hs
   exact absurd hs (Sb x)
  ·rw[if_neg (by simp; omega)]
   unfold Hn
   split
   ·rename_i hm
    exact aA x fuel u _ (by dsimp only; omega) (by dsimp only; omega) hd (by dsimp only; omega) h4
   ·rename_i hm
    rw[Zi]
    dsimp only
    have hi:(p.i * 5+1+p.perturb / 32) % (t.mask+1)<=t.mask:=Nq.mp (Iw _ (Iv _))
    cases u with
    | zero =>
     cases fuel with
     | zero=>omega
     | succ fuel =>
      unfold Gw
      dsimp only
      have h4':t.slot ((p.i * 5+1+p.perturb / 32) % (t.mask+1))=.empty:=h4
      rw[h4']
      exact ⟨_,by rw[hd],h4',hi⟩
    | succ u =>
     refine aA x fuel u _ (Kx _ _) ?_ hd ?_ h4
     ·dsimp only
      have:=Tn hi
      have:=Mv t.mask ((p.i * 5+1+p.perturb / 32) % (t.mask+1))
      omega
     ·dsimp only
      have:=Kx t.mask ((p.i * 5+1+p.perturb / 32) % (t.mask+1))
      omega
theorem j6:∀{l1 l2:List Nat},l1.Nodup->(∀e∈l1,e∈l2)->l1.length<=l2.length
 | [],_,_,_=>Dm _
 | a::l1,l2,nd,h=>by
  have nd':=Cd.mp nd
  have ha:=h a (Aa ..)
  have:=j6 (l2:=l2.erase a) nd'.2 λe he=>(Ms (show e≠a from λz=>nd'.1 (by rw[<- z]; exact he))).mpr (h e (Ae _ he))
  rw[Ke ha] at this
  have p:0<l2.length:=Lb ha
  rw[Bq]
  omega
theorem qF{m:Nat}{l:List Nat}(nd:l.Pairwise (· < ·))(h:l.length<m):∃e,e<m/\e∉l:=by
 refine Ha λz=>?_
 have all:∀e,e∈Cc m->e∈l:=λe he=>Ha λq=>z ⟨e,Gd.mp he,q⟩
 have:=j6 List.nodup_range all
 rw[Dx] at this
 omega
theorem lZ{t:Bb}{n:Nat}(x:Tab n t)(h:Int):∃j,t.freeSlot h=some (j,false)/\j∉t.place.toList/\j<=t.mask:=by
 have hm:=Sx x
 obtain ⟨e,he,hn⟩:=qF (m:=t.mask+1) x.rise (by rw[Ag,x.size]; omega)
 obtain ⟨u,hu,eu⟩:=bS x.good (i:=Bp h % (t.mask+1)) (p:=Bp h) (e:=e) (Iw _ (Iv _)) (gR h) he
 have hi:Bp h % (t.mask+1)<=t.mask:=Nq.mp (Iw _ (Iv _))
 have key:∃j,t.probe (λ_=>h+1) h (t.probeStart h)=some (.empty j none)/\t.slot j=.empty/\j<=t.mask:=by
  unfold SetTable.probe
  cases u with
  | zero =>
   have e0:t.slot (Bp h % (t.mask+1))=.empty:=(Ja x.toTabOk).mpr (by rw[show Bp h % (t.mask+1)=e from eu]; exact hn)
   obtain ⟨f,hf⟩ : ∃f,10 * Cw t.mask=f+1:=⟨10 * Cw t.mask - 1,by unfold Cw; omega⟩
   rw[hf]
   unfold Gw
   have e0':t.slot (t.probeStart h).j=.empty:=e0
   rw[e0']
   exact ⟨_,rfl,e0',hi⟩
  | succ u =>
   refine aA x.toTabOk _ u (t.probeStart h) (Kx _ _) ?_ rfl ?_ ?_
   ·have:=Tn hi
    have:=Mv t.mask (Bp h % (t.mask+1))
    show Bp h % (t.mask+1)+(Ck t.mask (Bp h % (t.mask+1)) - Bp h % (t.mask+1))<=t.mask
    omega
   ·have:=Kx t.mask (Bp h % (t.mask+1))
    show Ck t.mask (Bp h % (t.mask+1)) - Bp h % (t.mask+1)+2+10 * u<=10 * Cw t.mask
    unfold Cw
    omega
   ·exact (Ja x.toTabOk).mpr (by rw[show (lp (t.mask+1) (u+1) (t.probeStart h).i (t.probeStart h).perturb).1=e from eu]; exact hn)
 obtain ⟨j,h1,h2,h3⟩:=key
 refine ⟨j,?_,(Ja x.toTabOk).mp h2,h3⟩
 unfold SetTable.freeSlot
 rw[h1]
 rfl
theorem Yn{p:Array Nat}(r:fS p){j:Nat}(h:j∉p.toList):fS (Bo p (Bc p j) j):=by
  have b:=Sa r j
  show (Bo p (Bc p j) j).toList.Pairwise (· < ·)
  rw[Oo]
  have r1:(p.toList.take (Bc p j)).Pairwise (· < ·):=r.sublist (Gj _ _)
  have r2:(p.toList.drop (Bc p j)).Pairwise (· < ·):=r.sublist (List.drop_sublist _ _)
  have lo:∀e∈p.toList.take (Bc p j),e<j:=λe he=>by
    obtain ⟨i,hi,ei⟩:=Pr.mp he
    rw[Ag] at hi
    have:=b.lo i (by omega) (by omega)
    rw[<- ei]
    simpa using this
  have hi:∀e∈p.toList.drop (Bc p j),j<e:=λe he=>by
    have hm:e∈p.toList:=Va he
    obtain ⟨i,hi,ei⟩:=List.mem_drop_iff_getElem.mp he
    rw[Ag] at hi
    have:=b.hi (i+Bc p j) (by omega) (by omega)
    have e1:j<=e:=by
      rw[<- ei]
      simpa [Nat.add_comm] using this
    exact Nat.lt_of_le_of_ne e1 λz=>h (by rw[z]; exact hm)
  simp only[List.pairwise_append,List.pairwise_cons,Ap,List.mem_append]
  first
    | exact ⟨r1,⟨hi,r2⟩,λa ha c hc=>by
        rcases hc with z | z
        · rw[z]; exact lo a ha
        · exact Oi (lo a ha) (hi c z)⟩
    | (refine ⟨⟨r1,⟨by simp,Fb⟩,λa ha c hc=>?_⟩,r2,λa ha c hc=>?_⟩
       · have z:c=j:=by simpa using hc
         rw[z]; exact lo a ha
       · rcases ha with z | z | z
         · exact Oi (lo a z) (hi c hc)
         · rw[z]; exact hi c hc
         · cases z)
theorem AG{t:Bb}{es:Array (Int×Value)}(x:Tab es.size t)(h:Int)(v:Value):∃(es1:Array (Int×Value)) (t1:Bb),layNew t es h v=(es1,t1,false,false)/\es1.toList.Perm (es.toList++[(h,v)])/\es1.size=es.size+1/\TabOk es1.size t1/\t1.mask=t.mask/\t1.led=t.led:=by
 obtain ⟨j,h1,h2,h3⟩:=lZ x h
 have hm:=Sx x
 have perm:=Ia es (Bc t.place j) (h,v)
 rw[Jd] at perm
 have size:(Bo es (Bc t.place j) (h,v)).size=es.size+1:=by
  rw[<- Ag,perm.length_eq,Be,Ag]
  rfl
 have p2:=Ia t.place (Bc t.place j) j
 rw[Jd] at p2
 have size2:(Bo t.place (Bc t.place j) j).size=es.size+1:=by
  rw[<- Ag,p2.length_eq,Be,Ag,x.size]
  rfl
 have nd:Wm t.dummies j=false:=by rw[x.dum]; rfl
 have ok:TabOk (es.size+1) { t with place:=Bo t.place (Bc t.place j) j } :=
  ⟨x.good,x.dum,x.plain,Yn x.rise h2,λe he=>by
   rcases Aw.mp (p2.mem_iff.mp he) with z | z
   ·exact x.top e z
   ·rw[Af.mp z]; exact h3,size2⟩
 refine ⟨_,{ t with place:=Bo t.place (Bc t.place j) j },?_,perm,size,by rw[size]; exact ok,rfl,rfl⟩
 have f:({ t with place:=Bo t.place (Bc t.place j) j }:Bb).fits (Bo es (Bc t.place j) (h,v)).size=true:=by
  rw[size]
  exact ok.fits (by omega)
 unfold layNew
 rw[h1]
 simp only[SetTable.put,nd,Dc,if_false,SetTable.orStandIn,f,if_true,Mo]
theorem tW{mask finger moves:Nat}{led plain:Bool}{hs:Array Int}{t:Bb}{order:Array Nat}(h:Gp mask finger moves led plain hs=some (t,order)):fS t.place/\(∀j∈t.place.toList,j<=mask):=by
 unfold Gp at h
 cases hl:Iu mask hs with
 | none=>rw[hl] at h; cases h
 | some owner =>
  rw[hl] at h
  cases h
  have sub:∀(l:List Nat),l.Pairwise (· < ·)->(((l.filterMap λj=>(owner.getD j none).map λx=>(j,x)).map (·.1)).Pairwise (· < ·))/\∀j∈((l.filterMap λj=>(owner.getD j none).map λx=>(j,x)).map (·.1)),j∈l:=by
   intro l hl
   have m:∀j∈((l.filterMap λj=>(owner.getD j none).map λx=>(j,x)).map (·.1)),j∈l:=λj hj=>by
    obtain ⟨q,hq,rfl⟩:=Ci.mp hj
    obtain ⟨k,hk,ek⟩:=Cg.mp hq
    cases hg:owner.getD k none with
    | none=>rw[hg] at ek; cases ek
    | some v=>rw[hg] at ek; cases ek; exact hk
   refine ⟨?_,m⟩
   clear m
   induction l with
   | nil=>exact Fb
   | cons a l ih =>
    have hl':=Bl.mp hl
    have ih':=ih hl'.2
    rw[Hx]
    cases hg:owner.getD a none with
    | none=>simpa [hg] using ih'
    | some v =>
     simp only[Option.map_some,Ar,List.pairwise_cons]
     refine ⟨λj hj=>?_,ih'⟩
     obtain ⟨q,hq,rfl⟩:=Ci.mp hj
     obtain ⟨k,hk,ek⟩:=Cg.mp hq
     cases hg2:owner.getD k none with
     | none=>rw[hg2] at ek; cases ek
     | some v2=>rw[hg2] at ek; cases ek; exact hl'.1 k hk
  obtain ⟨s1,s2⟩:=sub (Cc (mask+1)) List.pairwise_lt_range
  exact ⟨s1,λj hj=>Nq.mp (Gd.mp (s2 j hj))⟩
theorem kN{mask finger moves:Nat}{led:Bool}(g:Il (mask+1))(hs:Array Int)(hl:hs.size * 5<mask * 3):∃(t:Bb) (order:Array Nat),Gp mask finger moves led true hs=some (t,order)/\order.toList.Perm (Cc hs.size)/\Tab hs.size t/\t.led=led:=by
 obtain ⟨t,order,h1,h2,h3,h4⟩:=L0 (finger:=finger) (moves:=moves) (led:=led) (plain:=true) g hs (by omega)
 obtain ⟨l1,l2,l3,l4⟩:=Wj h1
 obtain ⟨r1,r2⟩:=tW h1
 have sz:t.place.size=hs.size:=by
  have:=h3
  simp only[SetTable.fits,Di,beq_iff_eq] at this
  exact this.1
 exact ⟨t,order,h1,h2,⟨⟨by rw[l2]; exact g,l4,l3,r1,by rw[l2]; exact r2,sz⟩,by rw[l2]; exact hl⟩,l1⟩
theorem vB{t:Bb}{es:Array (Int×Value)}{wanted:Nat}(hp:t.plain=true)(hw:wanted<256)(h2:es.size * 2<=wanted):∃(t':Bb) (order:Array Nat),t.relaid (es.map (·.1)) wanted=some (t',order)/\order.toList.Perm (Cc es.size)/\Tab es.size t'/\t'.led=t.led:=by
 obtain ⟨m,e1,g,hm⟩:=aY hw
 have sz:(es.map (·.1)).size=es.size:=Array.size_map ..
 have m7:7<=m:=by
  have : 8<=Du wanted:=by
   have key:∀k:Fin 256,decide (8<=Du k.1)=true:=by decide +kernel
   exact of_decide_eq_true (key ⟨wanted,hw⟩)
  omega
 obtain ⟨t',order,q1,q2,q3,q4⟩:=kN (mask:=m) (finger:=t.finger) (moves:=t.movedTo m) (led:=t.led) g (es.map (·.1)) (by rw[sz]; omega)
 rw[sz] at q2 q3
 refine ⟨t',order,?_,q2,q3,q4⟩
 unfold SetTable.relaid
 rw[e1,Yu,hp]
 exact q1
theorem mM{t:Bb}{es:Array (Int×Value)}(hp:t.plain=true)(hn:es.size<64):∃(es':Array (Int×Value)) (t':Bb),relayAll t es (Nl es.size)=(es',t',false)/\es'.toList.Perm es.toList/\es'.size=es.size/\Tab es'.size t'/\t'.led=t.led:=by
 have gr:Nl es.size=es.size * 4:=by unfold Nl; rw[if_neg (by omega)]
 obtain ⟨t',order,q1,q2,q3,q4⟩:=vB (t:=t) (es:=es) (wanted:=es.size * 4) hp (by omega) (by omega)
 obtain ⟨p1,p2⟩:=xD es q2
 refine ⟨order.filterMap (es[·]?),t',?_,p1,p2,by rw[p2]; exact q3,q4⟩
 unfold relayAll
 rw[gr,q1]
 dsimp only
 have c:coversAll order es.size=true:=by
  unfold coversAll
  exact List.isPerm_iff.mpr q2
 have f:t'.fits (order.filterMap (es[·]?)).size=true:=by rw[p2]; exact q3.fits
 rw[c,f]
 rfl
abbrev bt(w:World):Bool:=w.params.followText "set-order"
def bA:Int×Value->Int
 | (_,.int k _)=>k
 | _=>0
def bM(e:Int×Value):Prop:=∃k tk,e=(hashInt k,Value.int k tk)
abbrev Mp(es:Array (Int×Value)):List Int:=es.toList.map bA
abbrev Fw(es:Array (Int×Value))(ep:Nat)(t:Bb):Obj:={ cls:=.type "set",dict:=none,data:=.set es ep t }
structure SetS(w:World)(h:Heap)(a:Addr)(es:Array (Int×Value))(ep:Nat)(t:Bb):Prop where
 obj:h.get? a=some (Fw es ep t)
 ent:∀e∈es.toList,bM e
 nd:(Mp es).Nodup
 tab:Tab es.size t
 led:bt w=false->t.led=true
 few:es.size<64
theorem SetS.keep{w:World}{h h':Heap}{a:Addr}{es:Array (Int×Value)}{ep:Nat}{t:Bb}(S:SetS w h a es ep t)(k:∀o,h.get? a=some o->h'.get? a=some o):SetS w h' a es ep t :=
 ⟨k _ S.obj,S.ent,S.nd,S.tab,S.led,S.few⟩
def ins(k:Int)(l:List Int):List Int:=if k∈l then l else k::l
theorem P6{prog:Bh}{w:World}{h:Heap}{a:Addr}{es:Array (Int×Value)}{ep:Nat}{t:Bb}(S:SetS w h a es ep t):ElemsOf (Bx prog w) es.toList:=λe he=>by
 obtain ⟨k,tk,rfl⟩:=S.ent e he
 exact ⟨⟨k,intKind_is _ _ _ _,rfl⟩,rfl⟩
theorem vC{prog:Bh}{w:World}{e:Int×Value}(h:bM e)(k:Int):(Bx prog w).is k e.2=true↔bA e=k:=by
 obtain ⟨k',tk,rfl⟩:=h
 show Uj k (.int k' tk)=true↔k'=k
 simp [Uj]
 try exact eq_comm
theorem rL{n:Nat}(h:n<64):n<=Ax:=by rw[Hg]; omega
theorem qY{es:Array (Int×Value)}{ep:Nat}{t:Bb}(es':Array (Int×Value))(t':Bb):Ys es' t' (Fw es ep t)=Fw es' (ep+1) t':=putSet_of es' t' rfl
theorem We{h:Heap}{a:Addr}{es:Array (Int×Value)}{ep:Nat}{t:Bb}(ho:h.get? a=some (Fw es ep t))(es':Array (Int×Value))(t':Bb):(h.update a (Ys es' t')).get? a=some (Fw es' (ep+1) t'):=by
 have:=Jc (Ys es' t') ho (by rw[qY]; rfl)
 rw[qY] at this
 exact this
section
variable{prog:Bh}{w:World}{A:Cr}{E:Value->Ah->Prop}{s:Ah}
theorem Lu{a:Addr}{es:Array (Int×Value)}{ep:Nat}{t:Bb}{Q:(Array (Int×Value)×Nat×Bb)->Ah->Prop}(S:SetS w s.heap a es ep t)(h:Q (es,ep,t) s):wpAny (model prog w) A (setState a) Q E s :=
 fJ S.obj rfl S.tab.fits h
theorem dQ{es:Array (Int×Value)}{k:Int}(he:∀e∈es.toList,bM e):es.toList.findIdx? (λe=>(Bx prog w).is k e.2)=none↔k∉Mp es:=by
 rw[List.findIdx?_eq_none_iff]
 constructor
 ·intro h hm
  obtain ⟨e,hm',rfl⟩:=Ci.mp hm
  have:=h e hm'
  rw[(vC (he e hm') _).mpr rfl] at this
  cases this
 ·intro h e hm
  cases q:(Bx prog w).is k e.2 with
  | false=>rfl
  | true=>exact absurd (Ci.mpr ⟨e,hm,(vC (he e hm) k).mp q⟩) h
theorem Z6{a:Addr}{es:Array (Int×Value)}{ep:Nat}{t:Bb}{k:Int}{tk:Tok}{Q:Bool->Ah->Prop}(S:SetS w s.heap a es ep t)(hn:es.size<63)(h:∀b es' ep' t' h',Fj a s.heap h'->SetS w h' a es' ep' t'->(Mp es').Perm (ins k (Mp es))->Q b { s with heap:=h' }):wpAny (model prog w) A (fL a (.int k tk) (hashInt k)) Q E s:=by
 unfold fL setAddHashedIn
 refine Dq (Ac (Lu S ?_))
 dsimp only
 rw[byScan_of (knd:=Bx prog w) (x:=.int k tk) rfl (Oi S.few (by decide)) (P6 S),if_pos rfl]
 unfold setAddByScan
 refine Ac (Ac (wpAny_rule (Ac ?_)))
 refine wpAny_setScan_of (knd:=Bx prog w) (k:=k) (intKind_is _ _ _ _) S.obj rfl S.tab.fits (P6 S) ?_
 cases hr:es.toList.findIdx? (λe=>(Bx prog w).is k e.2) with
 | some j =>
  dsimp only
  have hk:k∈Mp es:=Ha λz=>by
   rw[(dQ (prog:=prog) (w:=w) S.ent).mpr z] at hr
   cases hr
  refine Ao (Ao ?_)
  have:=h false es ep t s.heap (Heap.SameBut.refl a s.heap) S (by unfold ins; rw[if_pos hk])
  exact this
 | none =>
  dsimp only
  have hk:k∉Mp es:=(dQ (prog:=prog) (w:=w) S.ent).mp hr
  obtain ⟨es1,t1,e1,p1,z1,ok1,m1,l1⟩:=AG S.tab (hashInt k) (.int k tk)
  rw[e1]
  dsimp only
  have ent1:∀e∈es1.toList,bM e:=λe he=>by
   rcases Aw.mp (p1.mem_iff.mp he) with z | z
   ·exact S.ent e z
   ·rw[Af.mp z]; exact ⟨k,tk,rfl⟩
  have pk1:(Mp es1).Perm (k::Mp es):=by
   have:=p1.map bA
   rw[Bd] at this
   exact this.trans List.perm_append_comm
  have nd1:(Mp es1).Nodup:=pk1.nodup_iff.mpr (Cd.mpr ⟨hk,S.nd⟩)
  have few1:es1.size<64:=by omega
  have led1:bt w=false->t1.led=true:=λz=>by rw[l1]; exact S.led z
  refine Ac (m:=(pure ():Sem Unit)) (Ao ?_)
  rw[ok1.plain,if_pos rfl]
  refine Ac (m:=Sk 8 (.int k tk)) (Ao ?_)
  simp only[if_true]
  by_cases tf:t1.tooFull=true
  ·obtain ⟨es2,t2,e2,p2,z2,tab2,l2⟩:=mM (es:=es1) ok1.plain few1
   have ent2:∀e∈es2.toList,bM e:=λe he=>ent1 e (p2.mem_iff.mp he)
   have pk2:(Mp es2).Perm (k::Mp es):=(p2.map bA).trans pk1
   refine Ac (Mj S.obj rfl ?_ (rL few1))
   rw[tf,if_pos (by decide),e2]
   dsimp only
   refine Ac (m:=(pure ():Sem Unit)) (Ao ?_)
   have o1:=We S.obj es1 t1
   refine Ac (Mj o1 rfl (Ao ?_) (rL (by omega)))
   dsimp only
   refine Ao (h true es2 (ep+1+1) t2 _ ((Dj s.heap a _).trans (Dj _ a _)) ⟨We o1 es2 t2,ent2,pk2.nodup_iff.mpr (Cd.mpr ⟨hk,S.nd⟩),tab2,λz=>by rw[l2,l1]; exact S.led z,by omega⟩ ?_)
   unfold ins
   rw[if_neg hk]
   exact pk2
  ·have room:es1.size * 5<t1.mask * 3:=by
    have : ¬ (t1.fill * 5 ≥ t1.mask * 3):=λz=>tf (by unfold SetTable.tooFull; exact decide_eq_true z)
    have e:t1.fill=es1.size:=by
     unfold Ul
     rw[ok1.dum,ok1.size]
     rfl
    omega
   refine Ac (Mj S.obj rfl ?_ (rL few1))
   rw[cK] at tf
   rw[tf]
   simp only[Fp,Dc,if_false]
   refine Ao ?_
   dsimp only
   refine Ao (h true es1 (ep+1) t1 _ (Dj s.heap a _) ⟨We S.obj es1 t1,ent1,nd1,⟨ok1,room⟩,led1,few1⟩ ?_)
   unfold ins
   rw[if_neg hk]
   exact pk1
end
theorem Ks{α:Type}:∀{l:List α} {i:Nat} (h:i<l.length),(l[i]::l.eraseIdx i).Perm l
 | [],_,h=>absurd h (Fc _)
 | a::l,0,h=>Kf _
 | a::l,i+1,h=>by
  have:=Ks (l:=l) (i:=i) (by simpa using h)
  exact (Ef a _ _).trans (List.Perm.cons a this)
theorem pW{α:Type}(next:Nat->Nat):∀(fuel k:Nat) (left:List α) (out:Array α),left.length=fuel->(pickOrder.go next fuel k left out).toList.Perm (out.toList++left)
 | 0,k,left,out,h=>by
  unfold pickOrder.go
  have : left=[]:=List.eq_nil_of_length_eq_zero h
  subst this
  simp
 | fuel+1,k,left,out,h=>by
  unfold pickOrder.go
  have hi:next k % left.length<left.length:=Iw _ (by omega)
  rw[Dg hi]
  dsimp only
  refine (pW next fuel (k+1) _ _ (by rw[List.length_eraseIdx,if_pos hi]; omega)).trans ?_
  rw[Jd,Ee]
  exact List.Perm.append_left _ (Ks hi)
theorem sJ{α:Type}(next:Nat->Nat)(xs:Array α):(pickOrder next xs).toList.Perm xs.toList:=by
 unfold pickOrder
 simpa using pW next xs.size 0 xs.toList #[] (by simp)
section
variable{prog:Bh}{w:World}{A:Cr}{E:Value->Ah->Prop}{s:Ah}
theorem Wy{Q:Bool->Ah->Prop}(h:Q (bt w) s):wpAny (model prog w) A setsByText Q E s:=by
 unfold setsByText
 exact Ac (jK (Ao h))
theorem K7{a:Addr}{es:Array (Int×Value)}{ep:Nat}{t:Bb}{Q:Array (Int×Value)->Ah->Prop}(S:SetS w s.heap a es ep t)(h:Q (if bt w then pickOrder (w.params.setOrder a ep) es else es) s):wpAny (model prog w) A (setWalk a) Q E s:=by
 unfold setWalk
 refine Ac (Lu S ?_)
 dsimp only
 refine Ac (Wy ?_)
 cases hb:bt w with
 | true =>
  rw[hb] at h
  rw[if_pos rfl] at h ⊢
  exact Ac (jK (Ao h))
 | false =>
  have hl:=S.led hb
  have hp:=S.tab.plain
  rw[hb] at h
  obtain ⟨mask,place,dummies,finger,led,moves,plain⟩:=t
  have hl':led=true:=hl
  have hp':plain=true:=hp
  subst hl' hp'
  exact Ac (m:=(pure ():Sem Unit)) (Ao (Ao h))
theorem uB{a:Addr}{es:Array (Int×Value)}{ep:Nat}:(if bt w then pickOrder (w.params.setOrder a ep) es else es).toList.Perm es.toList:=by
 cases bt w with
 | true=>exact sJ _ _
 | false=>exact Kf _
end
def lS(U:List Int)(l:List Int):Prop:=∀x∈l,x∈U
theorem len_leI:∀{l1 l2:List Int},l1.Nodup->(∀e∈l1,e∈l2)->l1.length<=l2.length
 | [],_,_,_=>Dm _
 | a::l1,l2,nd,h=>by
  have nd':=Cd.mp nd
  have ha:=h a (Aa ..)
  have:=len_leI (l2:=l2.erase a) nd'.2 λe he=>(Ms (show e≠a from λz=>nd'.1 (by rw[<- z]; exact he))).mpr (h e (Ae _ he))
  rw[Ke ha] at this
  have p:0<l2.length:=Lb ha
  rw[Bq]
  omega
theorem lS.size{U:List Int}{es:Array (Int×Value)}(h:lS U (Mp es))(nd:(Mp es).Nodup):es.size<=U.length:=by
 have:=len_leI nd h
 rw[Ab,Ag] at this
 exact this
theorem G7{x k:Int}{l:List Int}:x∈ins k l↔x=k\/x∈l:=by
 unfold ins
 split
 ·rename_i h
  constructor
  ·exact .inr
  ·rintro (z | z)
   ·rw[z]; exact h
   ·exact z
 ·rw[Ap]
theorem Yk:isSubtype (.type "set") (.type "set")=pure true:=by rw[isSubtype_type]; kernel_rfl
section
variable{prog:Bh}{w:World}{A:Cr}{E:Value->Ah->Prop}{s:Ah}
theorem SetS.ty{a:Addr}{es:Array (Int×Value)}{ep:Nat}{t:Bb}(S:SetS w s.heap a es ep t):s.TypeIs (.ref a) "set" := ⟨_,S.obj,rfl⟩
theorem uC{h:Heap}:SetS w (h.push (Fw #[] 0 (.fresh 0 0 (!bt w)))) h.objs.size #[] 0 (.fresh 0 0 (!bt w)) :=
 ⟨Bi _ rfl,(λe he=>by simp at he),Fb,⟨⟨rX,rfl,rfl,Fb,(λj hj=>by simp [SetTable.fresh] at hj),rfl⟩,by show 0 * 5<7 * 3; decide⟩,(λz=>by show (!bt w)=true; rw[z]; rfl),by decide⟩
end
end NdS
namespace NdS
open PySem PyProof.Rows
section
variable{prog:Bh}{w:World}{A:Cr}{R:Result->Ah->Prop}
theorem zO{U:List Int}(hU:U.length<=62){a it l:Addr}(n1:a≠it)(n2:a≠l)(n3:l≠it){items:Array Value}{ns:List Int}(hI:Nw items.toList ns)(hN:lS U ns)(hh:A.in1.handled=none):∀(k i:Nat) (s:Ah) (es:Array (Int×Value)) (ep:Nat) (t:Bb),items.size - i=k->i<=items.size->s.heap.IsTupleIter it l i->s.heap.IsTuple l items->SetS w s.heap a es ep t->lS U (Mp es)->(∀es' ep' t' h' tk,(∀b o,b≠a->b≠it->s.heap.get? b=some o->h'.get? b=some o)->SetS w h' a es' ep' t'->(∀x,x∈Mp es'↔x∈Mp es\/x∈ns.drop i)->R (.ok (.ret .none)) { s with heap:=h',toks:=tk })->Hv (model prog w) A (.builtin "set.update.loop" ⟨[.ref a,.ref it],[]⟩) R s:=by
 have len:ns.length=items.size:=by rw[<- hI.length,Ag]
 intro k
 induction k with
 | zero =>
  intro i s es ep t hk hi hit hl S hu hR
  have e:i=items.size:=by omega
  refine Hr Fy ?_
  rw[Jh Cz _]
  show wpAny _ A.in1 (Tr (.ref it) >>= _) _ _ s
  refine Ac (w5 hh hit hl (by rw[e]; simp) λh' x=>?_)
  refine Ao (hR es ep t h' s.toks (λb o _ q e=>x b o q e) (S.keep λo q=>x a o n1 q) λx=>?_)
  rw[e,<- len,List.drop_length]
  simp
 | succ k ih =>
  intro i s es ep t hk hi hit hl S hu hR
  have lt:i<items.size:=by omega
  have lt':i<ns.length:=by omega
  obtain ⟨tk,ev⟩:=IntsAre.int_at hI i items[i] (by simp [lt])
  have eg:ns.getD i 0=ns[i]:=by simp [List.getD,lt']
  rw[eg] at ev
  refine Hr Fy ?_
  rw[Jh Cz _]
  show wpAny _ A.in1 (Tr (.ref it) >>= _) _ _ s
  refine Ac (u6 hit hl (x:=items[i]) (by simp [lt]) λh1 hit1 sb1=>?_)
  rw[ev]
  show wpAny _ A.in1 (Pv [Value.int ns[i] tk] (setAdd a (.int ns[i] tk)) >>= _) _ _ _
  refine Ac (Dq ?_)
  unfold setAdd
  refine Dq (Ac ((Bx prog w).pyHash (k:=ns[i]) (intKind_is _ _ _ _) ?_))
  have S1:SetS w h1 a es ep t:=S.keep λo q=>(sb1.2 a n1).trans q
  have z:=hu.size S1.nd
  refine Z6 (s:={ s with heap:=h1,toks:=s.toks+1 }) S1 (by omega) λb es2 ep2 t2 h2 sb2 S2 p2=>?_
  have m2:∀x,x∈Mp es2↔x=ns[i]\/x∈Mp es:=λx=>by rw[p2.mem_iff,G7]
  refine Ao ⟨cJ Cz _,?_⟩
  refine ih (i+1) { s with heap:=h2,toks:=s.toks+1 } es2 ep2 t2 (by omega) lt ?_ ?_ S2 (λx hx=>?_) λes3 ep3 t3 h3 tk3 k3 S3 m3=>?_
  ·obtain ⟨o,ho,r⟩:=hit1
   exact ⟨o,(sb2.2 it (Kl n1)).trans ho,r⟩
  ·obtain ⟨o,ho,r⟩:=hl
   exact ⟨o,(sb2.2 l (Kl n2)).trans ((sb1.2 l n3).trans ho),r⟩
  ·rcases (m2 x).mp hx with q | q
   ·rw[q]; exact hN _ (Mf lt')
   ·exact hu x q
  ·refine hR es3 ep3 t3 h3 tk3 (λb o q1 q2 e=>k3 b o q1 q2 ((sb2.2 b q1).trans ((sb1.2 b q2).trans e))) S3 λx=>?_
   rw[m3,m2,Pu lt',Ap]
   constructor
   ·rintro ((q | q) | q)
    ·exact .inr (.inl q)
    ·exact .inl q
    ·exact .inr (.inr q)
   ·rintro (q | q | q)
    ·exact .inl (.inr q)
    ·exact .inl (.inl q)
    ·exact .inr q
end
section
variable{prog:Bh}{w:World}{A:Cr}{E:Value->Ah->Prop}{s:Ah}
theorem lG(v:Value){Q:Value->Ah->Prop}(h:Q (.ref s.heap.objs.size) { s with heap:=s.heap.push (Fw #[] 0 (.fresh 0 0 (!bt w))) }):Hv (model prog w) A (.call (.builtin "set.__new__") ⟨[.type "set",v],[]⟩) (wants Q E) s:=by
 have sub:=Yk
 obtain ⟨hp,g,d,tk,os⟩:=s
 refine codeAny_of_tree (show wpAny _ A.in1 (do jM "set.__new__" ⟨[.type "set",v],[]⟩; again (.builtin "set.__new__" ⟨[.type "set",v],[]⟩)) _ _ _ from ?_)
 refine Ac (Lv (PySem.F.newCall_set_1 v) (Ao ⟨cJ PySem.F.plain_set_new _,Hr PySem.F.entry_set_new ?_⟩))
 rw[Jh PySem.F.plain_set_new _]
 unfold Builtin.«set.__new__» Builtin.Frozenset.newClass
 dsimp only
 wp_walk
 refine jK (Ao ?_)
 dsimp only
 simp only[newObj]
 exact Ac (wpAny_alloc (Ao (Ao h)))
theorem B7{U:List Int}(hU:U.length<=62){l:Addr}{items:Array Value}{ns:List Int}{Q:Value->Ah->Prop}(hh:A.handled=none)(hl:s.heap.IsTuple l items)(hI:Nw items.toList ns)(hN:lS U ns)(h:∀es ep t h' tk,(∀b o,s.heap.get? b=some o->h'.get? b=some o)->SetS w h' s.heap.objs.size es ep t->(∀x,x∈Mp es↔x∈ns)->Q (.ref s.heap.objs.size) { s with heap:=h',toks:=tk }):wpAny (model prog w) A (call (.type "set") [.ref l]) Q E s:=by
 obtain ⟨c,tl,hmro⟩:=PySem.F.called_set.mro
 have hmade:=PySem.F.called_set.made
 have hsub:=PySem.F.called_set.sub
 have h1:=PySem.F.called_set.notType
 have h2:=PySem.F.called_set.canCreate
 have hct:=PySem.F.typeCall_set_1 (.ref l)
 refine wpAny_call (codeAny_of_tree (show wpAny _ _ (callAny (.type "set") _) _ _ _ from ?_))
 refine Ao ⟨Xz _ (by decide +kernel),Hr PySem.F.entry_type_call ?_⟩
 rw[Around.under_plain (weight_type_call_type "set" [.ref l] []) rfl]
 repeat (any_goals (first | assumption | wp_step))
 refine Je (lG (.ref l) (E:=E) (Q:=λv s1=>v=.ref s.heap.objs.size/\s1={ s with heap:=s.heap.push (Fw #[] 0 (.fresh 0 0 (!bt w))) }) ⟨rfl,rfl⟩) λr s1 hr=>?_
 rcases r with e | (_ | _ | _ | v)
 ·exact hr
 ·exact hr.elim
 ·exact hr.elim
 ·exact hr.elim
 obtain ⟨rfl,rfl⟩:=hr
 have S0:=uC (w:=w) (h:=s.heap)
 have T0:Shared.TypeIs { s with heap:=s.heap.push (Fw #[] 0 (.fresh 0 0 (!bt w))) } (.ref s.heap.objs.size) "set" := ⟨_,S0.obj,rfl⟩
 have hli:=PySem.F.called_set.init.lookup
 have hbi:=PySem.F.called_set.init.bind (.ref s.heap.objs.size)
 repeat (any_goals (first | assumption | wp_step))
 refine Je (Of (R:=wants (λr s2=>r=.none/\∃es ep t h' tk,s2={ s with heap:=h',toks:=tk }/\(∀b o,s.heap.get? b=some o->h'.get? b=some o)/\SetS w h' s.heap.objs.size es ep t/\∀x,x∈Mp es↔x∈ns) E)
  PySem.F.called_set.init.plain PySem.F.entry_set_init (check_set_init_1 T0 ?_)) λr s2 hr=>?_
 ·obtain ⟨⟨oc,od,odt,osl⟩,ho,hc,n,hd⟩:=id hl
  have hc':oc=.type "tuple" := hc
  have hd':odt=.seq items n:=hd
  subst hc' hd'
  have ho':=Aj (Fw #[] 0 (.fresh 0 0 (!bt w))) ho
  have hl1:(s.heap.push (Fw #[] 0 (.fresh 0 0 (!bt w)))).IsTuple l items:=⟨_,ho',rfl,n,rfl⟩
  have f1:=PySem.F.sub_tuple_set
  have f2:=PySem.F.sub_tuple_frozenset
  have f3:(Fk "tuple" == Fk "dict")=false:=by decide
  have lt:=Az ho
  unfold Builtin.«set.__init__» noKeywords Tv
  generalize hPI:pyIter=PI
  wp_walk
  subst hPI
  refine wpAny_pyIter_tuple hl1 (Ac (wpAny_runValue ?_))
  have sz:(s.heap.push (Fw #[] 0 (.fresh 0 0 (!bt w)))).objs.size=s.heap.objs.size+1:=Heap.size_push _ _
  have g1:((s.heap.push (Fw #[] 0 (.fresh 0 0 (!bt w)))).push { cls:=.type "tuple_iterator",data:=.fields #[.ref l,.int 0 0] }).get? (s.heap.push (Fw #[] 0 (.fresh 0 0 (!bt w)))).objs.size=some { cls:=.type "tuple_iterator",data:=.fields #[.ref l,.int 0 0] }:=Bi _ rfl
  refine zO hU (by rw[sz]; exact Ct (cP _)) (Nat.ne_of_gt lt) (by rw[sz]; exact Ct (Ln lt)) hI hN (by simp [hh]) (items.size - 0) 0 _ #[] 0 (.fresh 0 0 (!bt w)) rfl (Dm _) ⟨_,g1,rfl,rfl⟩ ⟨_,Aj _ ho',rfl,n,rfl⟩
   (S0.keep λo q=>Aj _ q) (λx hx=>by simp at hx) λes ep t h' tk k' S' m'=>?_
  refine Ao (Ao ⟨rfl,es,ep,t,h',tk,rfl,λb o e=>?_,S',λx=>?_⟩)
  ·have lb:=Az e
   exact k' b o (Ct lb) (by rw[sz]; exact Ct (Ln lb)) (Aj _ (Aj _ e))
  ·rw[m',Os]
   simp
 ·rcases r with e | (_ | _ | _ | v)
  ·exact hr
  ·exact hr.elim
  ·exact hr.elim
  ·exact hr.elim
  obtain ⟨rfl,es,ep,t,h',tk,rfl,k',S',m'⟩:=hr
  repeat (any_goals (first | assumption | wp_step))
  exact h es ep t h' tk k' S' m'
end
theorem Ti:Slot "set_iterator" "__next__" "set_iterator.__next__" :=
 .of (owner := "set_iterator") (n := "__next__") (by rw[typeLookup_type,builtinLookup_eq_fast]; kernel_rfl) (by decide +kernel) (by decide +kernel) (by decide +kernel) (by first | exact .inl (by decide +kernel) | exact .inr (by decide +kernel)) (by rw[isSubtype_type]; kernel_rfl)
theorem bQ:entryFor table "set_iterator.__next__" = some Builtin.«set_iterator.__next__»:=entryFor_of_tree (by kernel_rfl)
theorem dY(a:Value):argsOk "set_iterator.__next__" ⟨[a],[]⟩:=by unfold argsOk; kernel_rfl
theorem nH:entryFor table "set.__iter__" = some Builtin.«frozenset.__iter__» :=
 entryFor_alias (id' := "frozenset.__iter__") (by kernel_rfl) (by first | rfl | decide +kernel) (by decide +kernel) (by kernel_rfl)
abbrev pY(f i:Nat)(a:Addr)(n ep:Nat):Obj:={ cls:=.type "set_iterator",data:=.fields #[Ll f,Ll i,.ref a,Ll n,Ll ep] }
def arrOf(w:World)(a:Addr)(ep:Nat)(es:Array (Int×Value)):Array (Int×Value):=if bt w then pickOrder (w.params.setOrder a ep) es else es
theorem yG{w:World}{a:Addr}{ep:Nat}{es:Array (Int×Value)}:(arrOf w a ep es).toList.Perm es.toList:=uB
theorem Pa{w:World}{a:Addr}{ep:Nat}{es:Array (Int×Value)}:(arrOf w a ep es).size=es.size:=by
 have:=(yG (w:=w) (a:=a) (ep:=ep) (es:=es)).length_eq
 rw[Ag,Ag] at this
 exact this
def kM(w:World)(I a:Addr)(es:Array (Int×Value))(ep:Nat)(t:Bb)(i:Nat)(h:Heap):Prop :=
 (∃f,h.get? I=some (pY f i a es.size ep)/\(bt w=false->Bc t.place f=i))/\SetS w h a es ep t
section
variable{prog:Bh}{w:World}{A:Cr}{E:Value->Ah->Prop}{s:Ah}
theorem K6{a:Addr}{es:Array (Int×Value)}{ep:Nat}{t:Bb}{Q:Value->Ah->Prop}(S:SetS w s.heap a es ep t)(h:Q (.ref s.heap.objs.size) { s with heap:=s.heap.push (pY 0 0 a es.size ep) }):wpAny (model prog w) A (pyIter (.ref a)) Q E s:=by
 refine wpAny_pyIter_slot S.ty PySem.F.slot_set_iter (Iq PySem.F.slot_set_iter S.ty nH ?_ (PySem.F.args_set_iter_1 _))
 unfold Builtin.«frozenset.__iter__»
 refine Ac (m:=Builtin.Frozenset.slot0 "__iter__" ⟨[.ref a],[]⟩) (Lv (a:=a) rfl ?_)
 unfold Builtin.Frozenset.sizeOf cN setDrawn setEpoch
 refine Ac (Ac (Ac (Lu S (Ao (Ao ?_)))))
 refine Ac (Ac (Lu S ?_))
 dsimp only
 refine Ac (Wy (Ao ?_))
 have hp:=S.tab.plain
 have tail:wpAny (model prog w) A.in1 (do
   let first <- (pure (Ll 0):Sem Value)
   ret (<- newFields "set_iterator" [first,Ll 0,.ref a,Ll es.size,Ll (<- (do return (<- setState a).2.1))])) (λfin s'=>∃v,fin=.done (.ret v)/\∃T' r,s'.TypeIs v T'/\typeLookup (.type T') "__next__" = pure (some r)/\Q v s') E s:=by
  refine Ac (Ao ?_)
  refine Ac (Ac (Lu S (Ao ?_)))
  refine Ac (Ey (Ao ⟨_,rfl, "set_iterator",_,⟨_,Bi _ rfl,rfl⟩,Ti.lookup,h⟩))
 obtain ⟨mask,place,dummies,finger,led,moves,plain⟩:=t
 have hp':plain=true:=hp
 subst hp'
 cases hb:bt w with
 | true=>exact tail
 | false=>exact tail
theorem aB{a:Addr}{es:Array (Int×Value)}{ep f i:Nat}{t:Bb}{Q:Option (Value×Nat)->Ah->Prop}(S:SetS w s.heap a es ep t)(hf:bt w=false->Bc t.place f=i)(h1:∀(hi:i<es.size) f',(bt w=false->Bc t.place f'=i+1)->Q (some (((arrOf w a ep es)[i]'(by rw[Pa]; exact hi)).2,f')) s)(h2:es.size<=i->Q none s):wpAny (model prog w) A (setNext a f i ep) Q E s:=by
 unfold setNext
 refine Ac (Lu S ?_)
 dsimp only
 refine Ac (Wy ?_)
 cases hb:bt w with
 | true =>
  rw[if_pos rfl,if_neg (by simp)]
  refine Ac (K7 S (Ao ?_))
  show Q (((arrOf w a ep es)[i]?).map λe=>(e.2,f)) s
  by_cases hi:i<es.size
  ·rw[Cs (by rw[Pa]; exact hi)]
   exact h1 hi f (λz=>by rw[hb] at z; cases z)
  ·rw[Rg (by rw[Pa]; omega)]
   exact h2 (by omega)
 | false =>
  have hl:=S.led hb
  have hp:=S.tab.plain
  have tail:wpAny (model prog w) A (pure (match es[Bc t.place f]?,t.place[Bc t.place f]? with
    | some (_,x),some j=>some (x,j+1)
    | _,_=>none):Sem (Option (Value×Nat))) Q E s:=by
   rw[hf hb]
   by_cases hi:i<es.size
   ·have hi2:i<t.place.size:=by rw[S.tab.size]; exact hi
    rw[Cs hi,Cs hi2]
    refine Ao ?_
    have:=h1 hi (t.place[i]+1) (λ_=>oK S.tab.rise hi2)
    have e:arrOf w a ep es=es:=by unfold arrOf; rw[hb]; rfl
    simp only[e] at this
    exact this
   ·rw[Rg (by omega)]
    exact Ao (h2 (by omega))
  obtain ⟨mask,place,dummies,finger,led,moves,plain⟩:=t
  have hl':led=true:=hl
  have hp':plain=true:=hp
  subst hl' hp'
  exact Ac (m:=(pure ():Sem Unit)) (Ao tail)
theorem uE{I a:Addr}{es:Array (Int×Value)}{ep:Nat}{t:Bb}{i:Nat}{Q:Option Value->Ah->Prop}(st:kM w I a es ep t i s.heap)(ne:a≠I)(hi:i<es.size)(h:∀h',kM w I a es ep t (i+1) h'->Fj I s.heap h'->Q (some ((arrOf w a ep es)[i]'(by rw[Pa]; exact hi)).2) { s with heap:=h' }):wpAny (model prog w) A (Tr (.ref I)) Q E s:=by
 obtain ⟨⟨f,ho,hf⟩,S⟩:=st
 have T:s.TypeIs (.ref I) "set_iterator" := ⟨_,ho,rfl⟩
 unfold Tr
 refine Ac (wpAny_attempt (Lw (name:=Ju "__next__") T Ti (Iq Ti T bQ ?_ (dY _))))
 unfold Builtin.«set_iterator.__next__»
 refine Ac (m:=slotArgs "__next__" 0 ⟨[.ref I],[]⟩) (Lv (a:=(Cf I,[])) rfl ?_)
 dsimp only
 refine Ac (wpAny_fieldsOf ho rfl ?_)
 show wpAny (model prog w) A.in1 (do
  if (((<- cN a).size:Nat):Int) != (es.size:Int) then
   rule "set_iterator.__next__.size-changed"
   Uh (.ref I) 3 (Ll (-1))
   raiseError "RuntimeError" "Set changed size during iteration"
  match <- setNext a (f:Int).toNat (i:Int).toNat (ep:Int).toNat with
  | some (x,next) =>
   Uh (.ref I) 0 (Ll next)
   Uh (.ref I) 1 (Ll ((i:Int)+1))
   ret x
  | none=>Uh (.ref I) 2 .none; raiseNew (<- newExc (.type "StopIteration") [])) _ _ _
 unfold cN
 refine Ac (Ac (Lu S (Ao ?_)))
 rw[if_neg (by simp)]
 simp only[Qs]
 refine Ac (aB S hf (λ_ f' hf'=>?_) (λz=>absurd hi (by omega)))
 dsimp only
 refine Ac (Yo ho rfl (by simp) ?_)
 have g1:(s.heap.update I (Obj.mapFields (·.setIfInBounds 0 (Ll f')))).get? I=some (pY f' i a es.size ep):=Jc _ ho rfl
 refine Ac (Yo g1 rfl (by simp) (Ao ⟨_,rfl,Ao (h _ ⟨⟨f',?_,hf'⟩,?_⟩ ((Dj ..).trans (Dj ..)))⟩))
 ·exact Jc _ g1 rfl
 ·refine S.keep λo q=>?_
  exact ((Dj _ _ _).2 a ne).trans (((Dj _ _ _).2 a ne).trans q)
theorem yC{I a:Addr}{es:Array (Int×Value)}{ep:Nat}{t:Bb}{Q:Option Value->Ah->Prop}(hh:A.handled=none)(st:kM w I a es ep t es.size s.heap)(h:∀h',Heap.ExtBut I s.heap h'->Q none { s with heap:=h' }):wpAny (model prog w) A (Tr (.ref I)) Q E s:=by
 obtain ⟨⟨f,ho,hf⟩,S⟩:=st
 have T:s.TypeIs (.ref I) "set_iterator" := ⟨_,ho,rfl⟩
 unfold Tr
 refine Ac (wpAny_attempt (Lw (name:=Ju "__next__") T Ti (Iq Ti T bQ ?_ (dY _))))
 unfold Builtin.«set_iterator.__next__»
 refine Ac (m:=slotArgs "__next__" 0 ⟨[.ref I],[]⟩) (Lv (a:=(Cf I,[])) rfl ?_)
 dsimp only
 refine Ac (wpAny_fieldsOf ho rfl ?_)
 show wpAny (model prog w) A.in1 (do
  if (((<- cN a).size:Nat):Int) != (es.size:Int) then
   rule "set_iterator.__next__.size-changed"
   Uh (.ref I) 3 (Ll (-1))
   raiseError "RuntimeError" "Set changed size during iteration"
  match <- setNext a (f:Int).toNat (es.size:Int).toNat (ep:Int).toNat with
  | some (x,next) =>
   Uh (.ref I) 0 (Ll next)
   Uh (.ref I) 1 (Ll ((es.size:Int)+1))
   ret x
  | none=>Uh (.ref I) 2 .none; raiseNew (<- newExc (.type "StopIteration") [])) _ _ _
 unfold cN
 refine Ac (Ac (Lu S (Ao ?_)))
 rw[if_neg (by simp)]
 simp only[Qs]
 refine Ac (aB S hf (λz _ _=>absurd z (Ep _)) (λ_=>?_))
 dsimp only
 refine Ac (Yo ho rfl (by simp) (Ac ?_))
 simp only[newExc,newTuple]
 refine Ac (Ey ?_ (by size_fits))
 refine Ac (m:=firstArgMember _ _) (Lv (a:=Ly) (by first | rfl | (simp only[firstArgMember]; rfl)) (Ey ?_ (by size_fits)))
 simp only[raiseNew]
 refine Ac (wpAny_handled ?_)
 rw[show A.in1.handled=none from hh]
 refine Ac (Ao (wpAny_throw ?_))
 refine Ac (wpAny_isInstance (T := "StopIteration") (b:=true) ⟨_,Bi _ rfl,rfl⟩ isSubtype_stop ?_)
 exact Ao (h _ (((Dj ..).extBut.push _).push _))
end
theorem dO:Slot "set_iterator" "__iter__" "set_iterator.__iter__" :=
 .of (owner := "set_iterator") (n := "__iter__") (by rw[typeLookup_type,builtinLookup_eq_fast]; kernel_rfl) (by decide +kernel) (by decide +kernel) (by decide +kernel) (by first | exact .inl (by decide +kernel) | exact .inr (by decide +kernel)) (by rw[isSubtype_type]; kernel_rfl)
theorem pG:entryFor table "set_iterator.__iter__" = some Builtin.«dict_keyiterator.__iter__» :=
 entryFor_alias (id' := "dict_keyiterator.__iter__") (by kernel_rfl) (by first | rfl | decide +kernel) (by decide +kernel) (by kernel_rfl)
theorem tY(a:Value):argsOk "set_iterator.__iter__" ⟨[a],[]⟩:=by unfold argsOk; kernel_rfl
section
variable{prog:Bh}{w:World}{A:Cr}{E:Value->Ah->Prop}{s:Ah}
theorem sI(hh:A.handled=none){I a:Addr}(ne:a≠I)(es:Array (Int×Value))(ep:Nat)(t:Bb):Walks prog w A I [I,a] [I] es.size (λi v=>∃e,(arrOf w a ep es)[i]? = some e/\v=e.2) (λi h=>kM w I a es ep t i h) where
 sub:=λb hb=>by simp at hb; simp [hb]
 frame:=λi h h' ⟨⟨f,ho,hf⟩,S⟩ hk=>⟨⟨f,hk I (by simp) _ ho,hf⟩,S.keep λo q=>hk a (by simp) o q⟩
 item:=λi s Q E hi st hQ=>uE st ne hi λh' st' sb=>hQ _ h' s.toks ⟨_,Cs (by rw[Pa]; exact hi),rfl⟩ st' λb o hb e=>(sb.2 b (λz=>hb (by simp [z]))).trans e
 done:=λs Q E st hQ=>yC hh st λh' x=>hQ h' s.toks λb o hb e=>x b o (λz=>hb (by simp [z])) e
 self:=λi s Q E st hQ=>by
  obtain ⟨⟨f,ho,hf⟩,S⟩:=st
  have T:s.TypeIs (.ref I) "set_iterator" := ⟨_,ho,rfl⟩
  refine wpAny_pyIter_slot T dO (Iq dO T pG ?_ (tY _))
  exact Ao ⟨_,rfl, "set_iterator",_,T,Ti.lookup,hQ⟩
theorem yB{r:Addr}{Q:Bool->Ah->Prop}(hT:s.TypeIs (.ref r) "set")(h:Q false s):wpAny (model prog w) A (Wv (.ref r)) Q E s:=by
 unfold Wv
 refine Ac (wpAny_specialOf hT PySem.F.slot_set_len.lookup ?_)
 generalize hid:("set.__len__" : String)=id0
 wp_delta
 rw[show splitId id0=some ("set", "__len__") from by subst hid; decide +kernel]
 subst hid
 refine Ac (wpAny_isInstance (T := "set") (b:=true) hT Yk ?_)
 refine wpAny_ite_split (λz=>absurd z (by decide)) (λ_=>wpAny_ite_split (λ_=>?_) (λz=>absurd (by decide +kernel) z))
 exact Ac (Vb hT (Ao h))
theorem A4(a:Addr)(es:Array (Int×Value))(ep:Nat)(t:Bb):PySem.W.KdlSrc prog w "set" a a es.size (λi v=>∃e,(arrOf w a ep es)[i]? = some e/\v=e.2) (λh=>SetS w h a es ep t) where
 type:=λs S=>S.ty
 there:=λh S=>⟨Az S.obj,Az S.obj⟩
 keep:=λh h' S k=>S.keep λo q=>k a (.inl rfl) o q
 notList:=by decide
 notTuple:=by decide
 hint:=λA E s Q S h=>yB S.ty h
 iter:=λA s hh S=>by
  have lt:=Az S.obj
  refine ⟨pY 0 0 a es.size ep,λi h=>kM w s.heap.objs.size a es ep t i h,λE Q h=>K6 S h,?_,⟨⟨0,Bi _ rfl,λ_=>jZ S.tab.rise⟩,S.keep λo q=>Aj _ q⟩⟩
  exact sI hh (Ct lt) es ep t
theorem dH{arr:Array (Int×Value)}(he:∀e∈arr.toList,bM e){acc:Array Value}(h:ItemsOf (λi v=>∃e,arr[i]? = some e/\v=e.2) acc arr.size):Nw acc.toList (arr.toList.map bA):=by
 have key:∀(l:List (Int×Value)) (vs:List Value),(∀e∈l,bM e)->vs.length=l.length->(∀(j:Nat) v,vs[j]? = some v->∃e,l[j]? = some e/\v=e.2)->Nw vs (l.map bA):=by
  intro l
  induction l with
  | nil =>
   intro vs _ hl _
   cases vs with
   | nil=>exact .nil
   | cons v vs=>cases hl
  | cons e l ih =>
   intro vs he hl hv
   cases vs with
   | nil=>cases hl
   | cons v vs =>
    obtain ⟨k,tk,rfl⟩:=he e (Aa ..)
    obtain ⟨e',h1,h2⟩:=hv 0 v rfl
    cases h1
    subst h2
    exact .cons k tk (ih vs (λe hm=>he e (Ae _ hm)) (by simpa using hl) λj u hj=>hv (j+1) u (by simpa using hj))
 refine key arr.toList acc.toList he (by rw[Ag,Ag]; exact h.1) λj v hj=>?_
 obtain ⟨e,h1,h2⟩:=h.2 j v (by rw[<- Fg]; exact hj)
 exact ⟨e,by rw[Fg]; exact h1,h2⟩
theorem oS{a:Addr}{es:Array (Int×Value)}{ep:Nat}{t:Bb}{Q:Value->Ah->Prop}(hh:A.handled=none)(S:SetS w s.heap a es ep t)(h:∀(p:Addr) (out:Array Value) (ns:List Int) (n:Nat) (h1 h':Heap) (tk:Nat),Nw out.toList ns->ns.Perm (Mp es)->ns.Pairwise (·<=·)->(∀b o,s.heap.get? b=some o->h1.get? b=some o)->h1.objs.size<=p->(∀b o,h1.get? b=some o->h'.get? b=some o)->h'.get? p=some (seqObj "list" out n)->Q (.ref p) { s with heap:=h',toks:=tk }):wpAny (model prog w) A (call (.builtin "sorted") [.ref a]) Q E s:=by
 refine Calls.call_function_entry kind_sorted plain_sorted entry_sorted (args_sorted1 _) ?_
 unfold Builtin.«sorted»
 refine Ac (m:=checkCount "sorted" 1 1 _) (Ao (Ac (PySem.W.kdu_collect (A:=A.in1) (A4 a es ep t) hh S (rL S.few) λh1 tk acc k1 hacc=>?_)))
 have hacc':ItemsOf (λi v=>∃e,(arrOf w a ep es)[i]? = some e/\v=e.2) acc (arrOf w a ep es).size:=by rw[Pa]; exact hacc
 have hI:=dH (λe he=>S.ent e (yG.mem_iff.mp he)) hacc'
 have len:acc.toList.length<64:=by rw[Ag,hacc.1]; exact S.few
 refine Ac (wpAny_newList ?_ (Ba (Iy len) (by rw[Hg]; decide)))
 have g1:(h1.push (seqObj "list" acc.toList.toArray 0)).get? h1.objs.size=some (seqObj "list" acc.toList.toArray 0):=Bi _ rfl
 refine Ac (Dq (Iq slot_list_sort ⟨_,g1,rfl⟩ entry_list_sort (list_sort_tree (s:={ s with heap:=h1.push (seqObj "list" acc.toList.toArray 0),toks:=tk }) g1 hI len λout ns' a1 a2 a3=>⟨_,rfl,?_⟩) (args_list_sort _)))
 refine Ao ⟨_,rfl,?_⟩
 have g2:=get?_update_seq g1 (λ_=>#[])
 have g3:=Aj (seqObj "list" #[] 0) (Aj (seqObj "tuple" acc.toList.toArray 0) g2)
 have g4:=get?_update_seq g3 (λ_=>out)
 refine h h1.objs.size out ns' _ h1 _ tk a1 (a2.trans (yG.map bA)) a3 k1 (Al _) (λb o e=>?_) g4
 have nb:b≠h1.objs.size:=Ct (Az e)
 exact ((Dj _ _ _).2 b nb).trans (Aj _ (Aj _ (((Dj _ _ _).2 b nb).trans (Aj _ e))))
end
end NdS
namespace Nd
open PySem PySem.Spec PyProof.Rows L2 NdS
def zJ(w:World)(a:Addr)(ks:List Int)(h:Heap):Prop:=∃es ep t,SetS w h a es ep t/\∀x,x∈Mp es↔x∈ks
abbrev nJ(w:World)(a:Addr)(ks:List Int):HO:=.ext (zJ w a ks)
theorem A3{P:Bh}{w w':World}{H:Hp}{h:Heap}{a:Addr}{ks:List Int}(e:zJ w a ks h):Io P w' H h a (nJ w a ks) :=
 ⟨e,let ⟨_,_,_,S,_⟩:=e; ⟨_,S.obj⟩,λh1 h2 ⟨es,ep,t,S,m⟩ k=>⟨es,ep,t,S.keep λo q=>k o q,m⟩⟩
theorem vZ{P:Bh}{w:World}{H:Hp}{h:Heap}{a:Addr}{ks:List Int}(ok:Xg P w H h)(e:H a=some (nJ w a ks)):zJ w a ks h :=
 (show Io P w H h a (nJ w a ks) from ok a _ e).1
section
variable{X:Cx}
def GF(w:World)(K:PySem.W.Frag):List V->Hp->VK->Prop:=λxs H Q=>∃(a:Addr) (ns U:List Int),xs=[.ref a]/\Vi K H a (ns.map V.int)/\U.length<=62/\lS U ns/\∀p,H p=none->Q (.ref p) (upd H p (nJ w p ns))
theorem wB(hc:X.calm=true):Kb X (.type "set") (GF X.w X.K):=by
 intro pins s σ H xs us Q I r h
 obtain ⟨a,ns,U,rfl,hs,hU,hN,q⟩:=h
 obtain ⟨u,rfl,ru⟩:=vals1 r
 cases ru
 obtain ⟨its,rv,⟨o,e,hcl,n,hd⟩,_⟩:=I.tuple hs
 refine B7 hU (I.ok.hd hc) ⟨o,e,hcl,n,hd⟩ (by simpa using intsAre_of rv) hN λes ep t h' tk k S m=>?_
 exact ⟨.ref s.heap.objs.size,_,I.laid k (Al _) (A3 ⟨es,ep,t,S,m⟩),rfl,q _ (I.hok.fresh (Al _))⟩
theorem Vs:∀{vs:List Value} {ns:List Int},Nw vs ns->Fq (ns.map V.int) vs
 | _,_,.nil=>.nil
 | _,_,.cons n t h=>.cons ⟨t,rfl⟩ (Vs h)
def M1(w:World):List V->Hp->VK->Prop:=λxs H Q=>∃(a:Addr) (ks:List Int),xs=[.ref a]/\H a=some (nJ w a ks)/\∀(p:Addr) (ns:List Int),H p=none->ns.Nodup->ns.Pairwise (·<=·)->(∀x,x∈ns↔x∈ks)->Q (.ref p) (upd H p (.lst (ns.map V.int)))
theorem iA(hc:X.calm=true):Kb X (.builtin "sorted") (M1 X.w):=by
 intro pins s σ H xs us Q I r h
 obtain ⟨a,ks,rfl,ha,q⟩:=h
 obtain ⟨u,rfl,ru⟩:=vals1 r
 cases ru
 obtain ⟨es,ep,t,S,m⟩:=vZ I.hok ha
 refine oS (I.ok.hd hc) S λp out ns n h1 h' tk hi hp hs k1 hge k2 hg=>?_
 have I1:Inv X pins σ H { s with heap:=h1,toks:=tk }:=I.kept k1
 have nd:ns.Nodup:=hp.nodup_iff.mpr S.nd
 have hl:ns.length<64:=by
  rw[hp.length_eq,Ab,Ag]
  exact S.few
 refine ⟨.ref p,upd H p (.lst (ns.map V.int)),I1.laid (t':=tk) k2 hge ⟨by rw[Ab,Hg]; omega,out.toList,n,Vs hi,by simpa using hg⟩,rfl,q p ns (I1.hok.fresh hge) nd hs λx=>by rw[hp.mem_iff,m]⟩
end
end Nd
namespace Nd
open PySem L2
def Yi(d:Addr)(H H':Hp):Prop:=∀b o,b≠d->H b=some o->H' b=some o
theorem Yi.trans{d:Addr}{H H1 H2:Hp}(a:Yi d H H1)(b:Yi d H1 H2):Yi d H H2:=λc o n h=>b c o n (a c o n h)
theorem Yi.upd{d:Addr}{H:Hp}{o:HO}:Yi d H (upd H d o):=λb o n h=>by rw[Fd n]; exact h
theorem dA{n:Nat}(h:n<=1000000):n<=Ax:=by rw[Hg]; omega
theorem Zk(a b:Int)(h:0<b):0<=a % b/\a % b<b:=⟨Int.emod_nonneg _ (by omega),Int.emod_lt_of_pos _ h⟩
def Dt(h:Int)(ns:List Int):Prop:=ns.Pairwise (· < ·)/\∀x∈ns,0<=x/\x<h
theorem Dt.nil(h:Int):Dt h []:=⟨Fb,λx hx=>by cases hx⟩
theorem Dt.more{h:Int}{ns:List Int}(r:Dt h ns)(h0:0<=h):Dt (h+1) (ns++[h]) :=
 ⟨Dw.mpr ⟨r.1,Gk _ _,λa ha b hb=>by rw[Af.mp hb]; exact (r.2 a ha).2⟩,λx hx=>by
  rcases Aw.mp hx with z | z
  ·have:=r.2 x z; omega
  ·have:=Af.mp z; omega⟩
theorem Dt.up{h h':Int}{ns:List Int}(r:Dt h ns)(l:h<=h'):Dt h' ns:=⟨r.1,λx hx=>by have:=r.2 x hx; omega⟩
def cW(H:Hp)(d:Addr)(c k:Int)(f:Bool):Prop:=H d=some (.lst [.int c,.int k,.bl f])
def qO:Sp:=λvs H Q _=>∃c:Int,vs=[.int c]/\∀(p:Addr) (f:Bool) (H':Hp),H p=none->cW H' p c 0 f->Nh H H'->Q (.ref p) H'
def yO:Sp:=λvs H Q _=>∃(d:Addr) (c k:Int) (f:Bool),vs=[.ref d]/\cW H d c k f/\0<=k/\k<=1000000/\∀(r c':Int) (H':Hp),cW H' d c' (k+1) f->Yi d H H'->Q (.int r) H'
def Wd(H:Hp)(r:Addr):Prop:=∃ns:List Int,(ns.length<=60/\Dt 60 ns)/\H r=some (.tup (ns.map V.int))
theorem Dt.sub{h:Int}{xs ys:List Int}(r:Dt h xs)(s:ys.Sublist xs):Dt h ys:=⟨List.Pairwise.sublist s r.1,λx hx=>r.2 x (s.subset hx)⟩
def Co(ns:List Int):Ad:=.tuple (ns.map Bs)
theorem oU(ns:List Int):(Co ns).depth<=1:=by
 have : (Co ns).depth<=Bk (ns.map Bs)+1:=by simp [Co,Cv]
 rw[pD] at this
 exact this
def HY:List Int:=(Cc 60).map λi:Nat=>(i:Int)
theorem Zr{x:Int}(h0:0<=x)(h1:x<60):x∈HY:=Ci.mpr ⟨x.toNat,Gd.mpr (by omega),by omega⟩
theorem K4(TD:List Ad):Ds (.list TD) (.list [])=TD.isEmpty:=by cases TD <;> simp [Ds,Ko]
theorem dU:∀{l1 l2:List Int},l1.Pairwise (· < ·)->l2.Pairwise (· < ·)->(∀x,x∈l1↔x∈l2)->l1=l2
 | [],[],_,_,_=>rfl
 | [],b::l,_,_,h=>by have:=(h b).mpr Aa; cases this
 | a::l,[],_,_,h=>by have:=(h a).mp Aa; cases this
 | a::l1,b::l2,p1,p2,h=>by
  obtain ⟨h1,q1⟩:=Bl.mp p1
  obtain ⟨h2,q2⟩:=Bl.mp p2
  have e:a=b:=by
   rcases Ap.mp ((h a).mp Aa) with z | z
   ·exact z
   ·rcases Ap.mp ((h b).mpr Aa) with y | y
    ·exact y.symm
    ·have:=h1 b y; have:=h2 a z; omega
  subst e
  rw[dU q1 q2 λx=>⟨λhx=>?_,λhx=>?_⟩]
  ·rcases Ap.mp ((h x).mp (Ae _ hx)) with z | z
   ·have:=h1 x hx; omega
   ·exact z
  ·rcases Ap.mp ((h x).mpr (Ae _ hx)) with z | z
   ·have:=h2 x hx; omega
   ·exact z
def Ug(b:Bool):Str:=if b=true then "back" else "front"
def Ps(H:Hp)(p:Addr):Prop:=∃n b,H p=some (.tup [.ref n,.str (Ug b)])/\Wd H n
def order{α:Type}(a b:α)(l:List α):Option Bool->List α
 | none=>l
 | some true=>[a,b]
 | some false=>[b,a]
structure TD(K:PySem.W.Frag)(H:Hp)(x:V)(d:Ad)(n m:Nat):Prop where
 rd:RdV K H x d
 fits:Po 22 d
 nd:Mi d<=n
 dp:d.depth<=m
abbrev S5(K:PySem.W.Frag):List V->Hp->VK->Prop:=λxs H Q=>∃p ys,xs=[V.ref p]/\((Za K H p ys/\∀l,H l=none->Q (.ref l) (upd H l (.tup ys)))\/(Vi K H p ys/\Q (.ref p) H))
theorem Vz{X:Cx}:Kb X (.type "tuple") (S5 X.K):=dD
end Nd
namespace DL
open PySem L2 Nd
def KL(K:PySem.W.Frag)(H:Hp)(a:Addr)(xs:List V):Prop :=
 (∃o,H a=some (.frz o (.lst xs)))\/∃(its:Array Value) (n:Nat),K.lookup a=some { cls:=.type "list",data:=.seq its n }/\its.size<=Ax/\Fq xs its.toList
def aF:Nat->Ad
 | 0=>.none
 | n+1=>.tuple [aF n]
def GB(ks:List (List Int×Ad)):List (Ad×Ad):=(aF 100,.none)::ks.map λp=>(Co p.1,p.2)
def HJ(ks:List (Int×Ad)):List (Ad×Ad):=(aF 100,.bool true)::ks.map λp=>(.int p.1,p.2)
def GK(a:Addr)(ks:List (List Int×Ad)):List (Ad×Ad):=(aF 100,.int a)::ks.map λp=>(Co p.1,p.2)
def d0(w:List Int):List Zv:=w.map Tt
mutual
inductive RdF (K:PySem.W.Frag) (H:Hp):V->Ad->List Addr->Prop
 | non:RdF K H .non .none []
 | bl (b:Bool):RdF K H (.bl b) (.bool b) []
 | int (i:Int):RdF K H (.int i) (.int i) []
 | str (x:Str):RdF K H (.str x) (.str x) []
 | lst {a:Addr} {xs:List V} {ds:List Ad} {F:List Addr}:H a=some (.lst xs)->ds.length<=Ax->RdFs K H xs ds F->RdF K H (.ref a) (.list ds) (a::F)
 | tup {a:Addr} {xs:List V} {ds:List Ad} {F:List Addr}:H a=some (.tup xs)->ds.length<=Ax->RdFs K H xs ds F->RdF K H (.ref a) (.tuple ds) F
 | dic {a:Addr} {kv:List (List Zv×V)} {ks:List (List Int×Ad)}:H a=some (.dT kv)->kv.map (·.1)=ks.map (λp=>d0 p.1)->RdFs K H (kv.map (·.2)) (ks.map (·.2)) []->RdF K H (.ref a) (.dict (GB ks)) [a]
 | dik {a:Addr} {kv:List (Zv×V)} {ks:List (Int×Ad)}:H a=some (.dK kv)->kv.map (·.1)=ks.map (λp=>(Tt p.1:Zv))->RdFs K H (kv.map (·.2)) (ks.map (·.2)) []->RdF K H (.ref a) (.dict (HJ ks)) [a]
 | dnm {a:Addr} {kv:List (List Zv×V)} {ks:List (List Int×Ad)}:H a=some (.dT kv)->kv.map (·.1)=ks.map (λp=>d0 p.1)->RdFs K H (kv.map (·.2)) (ks.map (·.2)) []->RdF K H (.ref a) (.dict (GK a ks)) [a]
inductive RdFs (K:PySem.W.Frag) (H:Hp):List V->List Ad->List Addr->Prop
 | nil:RdFs K H [] [] []
 | cons {x:V} {d:Ad} {xs:List V} {ds:List Ad} {F G:List Addr}:RdF K H x d F->RdFs K H xs ds G->RdFs K H (x::xs) (d::ds) (F++G)
end
def IP(o:HO):Prop:=(∃xs,o=.tup xs)\/∃ob u,o=.frz ob u
def Kp(F:List Addr)(H H':Hp):Prop:=∀b o,H b=some o->(b∈F\/IP o)->H' b=some o
theorem Kp.of{F:List Addr}{H H':Hp}(s:Nh H H'):Kp F H H':=λb o e _=>s b o e
theorem Kp.sub{F G:List Addr}{H H':Hp}(k:Kp F H H')(h:∀a∈G,a∈F):Kp G H H':=λb o e z=>k b o e (z.imp (h b) id)
section
variable{K:PySem.W.Frag}{H H':Hp}
theorem KL.kp{a:Addr}{xs:List V}{F:List Addr}(h:KL K H a xs)(k:Kp F H H'):KL K H' a xs:=by
 rcases h with ⟨o,h⟩ | h
 ·exact .inl ⟨o,k _ _ h (.inr (.inr ⟨_,_,rfl⟩))⟩
 ·exact .inr h
theorem KL.sq{a:Addr}{xs:List V}(h:KL K H a xs):Za K H a xs:=by
 rcases h with ⟨o,h⟩ | ⟨its,n,h,hz,r⟩
 ·exact .inl (.inr ⟨o,h⟩)
 ·exact .inr ⟨_,its,n,h,rfl,rfl,rfl,hz,r⟩
mutual
theorem RdF.kp:∀{v:V} {d:Ad} {F:List Addr},RdF K H v d F->Kp F H H'->RdF K H' v d F
 | _,_,_,.non,_=>.non
 | _,_,_,.bl b,_=>.bl b
 | _,_,_,.int i,_=>.int i
 | _,_,_,.str x,_=>.str x
 | _,_,_,.lst h l hs,k=>.lst (k _ _ h (.inl Aa)) l (RdFs.kp hs (k.sub λ_ z=>Ae _ z))
 | _,_,_,.tup h l hs,k=>.tup (k _ _ h (.inr (.inl ⟨_,rfl⟩))) l (RdFs.kp hs k)
 | _,_,_,.dic h e hs,k=>.dic (k _ _ h (.inl Aa)) e (RdFs.kp hs (k.sub λ_ z=>nomatch z))
 | _,_,_,.dik h e hs,k=>.dik (k _ _ h (.inl Aa)) e (RdFs.kp hs (k.sub λ_ z=>nomatch z))
 | _,_,_,.dnm h e hs,k=>.dnm (k _ _ h (.inl Aa)) e (RdFs.kp hs (k.sub λ_ z=>nomatch z))
theorem RdFs.kp:∀{v:List V} {d:List Ad} {F:List Addr},RdFs K H v d F->Kp F H H'->RdFs K H' v d F
 | _,_,_,.nil,_=>.nil
 | _,_,_,.cons h hs,k=>.cons (RdF.kp h (k.sub λ_ z=>An _ z)) (RdFs.kp hs (k.sub λ_ z=>Ai _ z))
end
theorem Nx:∀n,(aF n).depth=n
 | 0=>by simp [aF,Cv]
 | n+1=>by
  have:=Nx n
  simp only[aF,Cv,Bk,this]
  omega
theorem wU{ks:List (Int×Ad)}:100<=(PyData.dict (HJ ks)).depth:=by
 have:=Nx 100
 simp only[HJ,Cv,PyData.depthKv,this]
 omega
theorem xK{a:Addr}{ks:List (List Int×Ad)}:100<=(PyData.dict (GK a ks)).depth:=by
 have:=Nx 100
 simp only[GK,Cv,PyData.depthKv,this]
 omega
theorem vA{ks:List (List Int×Ad)}:100<=(PyData.dict (GB ks)).depth:=by
 have:=Nx 100
 simp only[GB,Cv,PyData.depthKv,this]
 omega
mutual
theorem RdF.rd:∀{v:V} {d:Ad} {F:List Addr},RdF K H v d F->d.depth<=90->RdV K H v d
 | _,_,_,.non,_=>.non
 | _,_,_,.bl b,_=>.bl b
 | _,_,_,.int i,_=>.int i
 | _,_,_,.str x,_=>.str x
 | _,_,_,.lst h l hs,z=>.lst (Za.of h) (RdFs.rd hs (by simp only[Cv] at z; omega))
 | _,_,_,.tup h l hs,z=>.tup (Vi.of h) (RdFs.rd hs (by simp only[Cv] at z; omega))
 | _,_,_,.dic h e hs,z=>absurd (Ba vA z) (by decide)
 | _,_,_,.dik h e hs,z=>absurd (Ba wU z) (by decide)
 | _,_,_,.dnm h e hs,z=>absurd (Ba xK z) (by decide)
theorem RdFs.rd:∀{v:List V} {d:List Ad} {F:List Addr},RdFs K H v d F->Bk d<=90->RdVs K H v d
 | _,_,_,.nil,_=>.nil
 | _,_,_,.cons h hs,z=>.cons (RdF.rd h (by simp only[Bk] at z; omega)) (RdFs.rd hs (by simp only[Bk] at z; omega))
end
mutual
theorem RdF.dom:∀{v:V} {d:Ad} {F:List Addr},RdF K H v d F->∀a∈F,∃o,H a=some o
 | _,_,_,.non,_,z=>nomatch z
 | _,_,_,.bl b,_,z=>nomatch z
 | _,_,_,.int i,_,z=>nomatch z
 | _,_,_,.str x,_,z=>nomatch z
 | _,_,_,.lst h l hs,b,z=>by
  rcases Ap.mp z with rfl | z
  ·exact ⟨_,h⟩
  ·exact RdFs.dom hs b z
 | _,_,_,.tup h l hs,b,z=>RdFs.dom hs b z
 | _,_,_,.dic h e hs,b,z=>⟨_,Af.mp z▸h⟩
 | _,_,_,.dik h e hs,b,z=>⟨_,Af.mp z▸h⟩
 | _,_,_,.dnm h e hs,b,z=>⟨_,Af.mp z▸h⟩
theorem RdFs.dom:∀{v:List V} {d:List Ad} {F:List Addr},RdFs K H v d F->∀a∈F,∃o,H a=some o
 | _,_,_,.nil,_,z=>nomatch z
 | _,_,_,.cons h hs,b,z=>by
  rcases Aw.mp z with z | z
  ·exact RdF.dom h b z
  ·exact RdFs.dom hs b z
end
theorem RdFs.len:∀{v:List V} {d:List Ad} {F:List Addr},RdFs K H v d F->v.length=d.length
 | _,_,_,.nil=>rfl
 | _,_,_,.cons _ t=>by rw[Bq,Bq,RdFs.len t]
theorem RdFs.get:∀{v:List V} {d:List Ad} {F:List Addr} {i:Nat} {e:Ad},RdFs K H v d F->d[i]? = some e->∃x G,v[i]? = some x/\RdF K H x e G/\G.Sublist F
 | _,_,_,_,_,.nil,z=>by simp at z
 | _,_,_,0,_,.cons h _,z=>by
  simp at z
  subst z
  exact ⟨_,_,rfl,h,List.sublist_append_left _ _⟩
 | _,_,_,i+1,e,.cons _ t,z=>by
  obtain ⟨x,G,h1,h2,h3⟩:=RdFs.get (i:=i) (e:=e) t (by simpa using z)
  exact ⟨x,G,by simpa using h1,h2,h3.trans (Bw _ _)⟩
theorem RdFs.app:∀{v w:List V} {d e:List Ad} {F G:List Addr},RdFs K H v d F->RdFs K H w e G->RdFs K H (v++w) (d++e) (F++G)
 | _,_,_,_,_,_,.nil,h=>h
 | _,_,_,_,_,_,.cons a t,h=>by
  rw[Ee]
  exact .cons a (RdFs.app t h)
theorem RdFs.snoc{v:List V}{d:List Ad}{F G:List Addr}{x:V}{e:Ad}(t:RdFs K H v d F)(h:RdF K H x e G):RdFs K H (v++[x]) (d++[e]) (F++G):=by
 have:=t.app (.cons h .nil)
 rw[El] at this
 exact this
end
mutual
def imm:Ad->Bool
 | .list _=>false
 | .dict _=>false
 | .tuple xs=>Eg xs
 | _=>true
def Eg:List Ad->Bool
 | []=>true
 | x::xs=>imm x && Eg xs
end
theorem oQ:∀{xs:List Ad},Eg xs=true↔∀x∈xs,imm x=true
 | []=>by simp [Eg]
 | x::xs=>by simp [Eg,oQ (xs:=xs)]
theorem Qh{α:Type}{f:α->Ad}(h:∀a,imm (f a)=true)(l:List α):Eg (l.map f)=true:=oQ.mpr λx hx=>by
 obtain ⟨a,_,rfl⟩:=Ci.mp hx
 exact h a
theorem cE(ns:List Int):imm (Co ns)=true:=by
 unfold Co
 rw[imm]
 exact Qh (λ_=>by simp [imm]) ns
section
variable{K:PySem.W.Frag}{H H':Hp}
mutual
theorem RdF.imm:∀{v:V} {d:Ad} {F:List Addr},RdF K H v d F->DL.imm d=true->F=[]
 | _,_,_,.non,_=>rfl
 | _,_,_,.bl b,_=>rfl
 | _,_,_,.int i,_=>rfl
 | _,_,_,.str x,_=>rfl
 | _,_,_,.lst h l hs,k=>by simp [DL.imm] at k
 | _,_,_,.tup h l hs,k=>RdFs.imm hs (by simpa [DL.imm] using k)
 | _,_,_,.dic h e hs,k=>by simp [DL.imm] at k
 | _,_,_,.dik h e hs,k=>by simp [DL.imm] at k
 | _,_,_,.dnm h e hs,k=>by simp [DL.imm] at k
theorem RdFs.imm:∀{v:List V} {d:List Ad} {F:List Addr},RdFs K H v d F->Eg d=true->F=[]
 | _,_,_,.nil,_=>rfl
 | _,_,_,.cons h hs,k=>by
  rw[Eg,Di] at k
  rw[RdF.imm h k.1,RdFs.imm hs k.2]
  rfl
end
end
inductive Md where
 | pk | sh | tp | ow
 deriving DecidableEq
inductive DV where
 | un
 | dat (m:Md) (d:Ad)
 | drw
 | dT (kvs:List (List Zv×Ad))
 | val (v:V)
 | scr (ns:List Int)
 | acc (ds:List Ad)
 | grd (Hc:Hp)
 | tpl (xs:List V)
structure DS where
 sl:List DV
 n:Nat
structure Ent where
 v:Option V
 x:DV
 F:List Addr
def Pl:DV->Bool
 | .dat .pk _=>true
 | _=>false
def EY:DV->Bool
 | .drw=>true
 | _=>false
def V6:DV->Bool
 | .drw=>true
 | .acc _=>true
 | .dT _=>true
 | .grd _=>true
 | _=>false
def cells(e:Ent):List Addr:=match e.x with
 | .dat .ow _=>e.F
 | .dat .tp _=>e.F.take 1
 | .drw=>e.F
 | .dT _=>e.F
 | .acc _=>e.F.take 1
 | .grd _=>e.F
 | _=>[]
theorem Gq(e:Ent):∀a∈cells e,a∈e.F:=by
 obtain ⟨v,x,F⟩:=e
 intro a h
 cases x with
 | un=>exact nomatch h
 | val _=>exact nomatch h
 | scr _=>exact nomatch h
 | drw=>exact h
 | dT _=>exact h
 | grd _=>exact h
 | tpl _=>exact nomatch h
 | acc _=>exact (Gj _ _).subset h
 | dat m d =>
  cases m with
  | pk=>exact nomatch h
  | sh=>exact nomatch h
  | tp=>exact (Gj _ _).subset h
  | ow=>exact h
def Vq(e f:Ent):Prop:=((Pl f.x=false\/V6 e.x=true)->∀a∈cells e,a∉f.F)/\((Pl e.x=false\/V6 f.x=true)->∀a∈cells f,a∉e.F)
theorem Vq.symm{e f:Ent}(h:Vq e f):Vq f e:=⟨h.2,h.1⟩
def Gx(K:PySem.W.Frag)(H:Hp)(n:Nat)(e:Ent):Prop:=match e.x with
 | .un=>e.F=[]
 | .dat m d=>∃v,e.v=some v/\RdF K H v d e.F/\(m=.ow->e.F.Nodup)/\(m=.tp->∀a l,e.F=a::l->a∉l)
 | .drw=>∃dr c k f,e.v=some (.ref dr)/\e.F=[dr]/\cW H dr c k f/\0<=k/\k<=(n:Int)
 | .dT kvs=>∃a ks,e.v=some (.ref a)/\e.F=[a]/\H a=some (.dT ks)/\ks.map (·.1)=kvs.map (·.1)/\RdFs K H (ks.map (·.2)) (kvs.map (·.2)) []
 | .val v=>e.v=some v/\e.F=[]
 | .scr ns=>∃a,e.v=some (.ref a)/\e.F=[]/\KL K H a (ns.map V.int)/\ns.length<=63
 | .acc ds=>∃a xs G,e.v=some (.ref a)/\e.F=a::G/\H a=some (.lst xs)/\RdFs K H xs ds G/\ds.length<=Ax/\a∉G
 | .grd Hc=>∀a∈e.F,∃o,Hc a=some o/\H a=some o
 | .tpl xs=>∃t,e.v=some (.ref t)/\H t=some (.tup xs)/\e.F=[]
structure At(K:PySem.W.Frag)(H0:Hp)(X:Addr->Prop)(n:Nat)(E:List Ent)(H:Hp):Prop where
 ok:∀e∈E,Gx K H n e
 sep:E.Pairwise Vq
 new:∀e∈E,∀a∈cells e,H0 a=none\/(X a/\EY e.x=true)
 same:∀b o,¬ X b->H0 b=some o->H b=some o
 dom:∀b o,H0 b=some o->∃o',H b=some o'
 xd:∀b,X b->H0 b≠none/\∃c k f,cW H b c k f/\0<=k/\k<=(n:Int)
section
variable{K:PySem.W.Frag}{H0 H H':Hp}{X:Addr->Prop}{n n':Nat}{E E' S T:List Ent}{e f:Ent}
theorem At.perm(h:At K H0 X n E H)(p:E.Perm E'):At K H0 X n E' H :=
 ⟨λe he=>h.ok e (p.mem_iff.mpr he),(p.pairwise_iff λ{a b}=>Vq.symm).mp h.sep,λe he=>h.new e (p.mem_iff.mpr he),h.same,h.dom,h.xd⟩
theorem At.sub(h:At K H0 X n E H)(p:E'.Sublist E):At K H0 X n E' H :=
 ⟨λe he=>h.ok e (p.subset he),h.sep.sublist p,λe he=>h.new e (p.subset he),h.same,h.dom,h.xd⟩
theorem At.drop(h:At K H0 X n (S++e::T) H):At K H0 X n (S++T) H:=h.sub ((Dd S).append (Dv _ _))
theorem j8:(S++e::T).Perm (e::(S++T)):=Fz
theorem At.mid(h:At K H0 X n (S++e::T) H):At K H0 X n (e::(S++T)) H:=h.perm j8
theorem At.tomid(h:At K H0 X n (e::(S++T)) H):At K H0 X n (S++e::T) H:=h.perm j8.symm
theorem Gx.dom(h:Gx K H n e):∀a∈e.F,∃o,H a=some o:=by
 obtain ⟨v,x,F⟩:=e
 intro a ha
 cases x with
 | un=>rw[show F=[] from h] at ha; cases ha
 | val _=>rw[show F=[] from h.2] at ha; cases ha
 | scr _ =>
  obtain ⟨_,_,hF,_⟩:=h
  rw[show F=[] from hF] at ha; cases ha
 | dat m d =>
  obtain ⟨w,_,h,_⟩:=h
  obtain ⟨xs,z⟩:=h.dom a ha
  exact ⟨_,z⟩
 | drw =>
  obtain ⟨dr,c,k,f,_,hF,h,_⟩:=h
  rw[show F=[dr] from hF] at ha
  rw[Af.mp ha]
  exact ⟨_,h⟩
 | grd Hc =>
  obtain ⟨o,_,z⟩:=h a ha
  exact ⟨o,z⟩
 | tpl xs =>
  obtain ⟨_,_,_,hF⟩:=h
  rw[show F=[] from hF] at ha; cases ha
 | dT kvs =>
  obtain ⟨b,ks,_,hF,h,_⟩:=h
  rw[show F=[b] from hF] at ha
  rw[Af.mp ha]
  exact ⟨_,h⟩
 | acc ds =>
  obtain ⟨b,ks,G,_,hF,h,hr,_⟩:=h
  rw[show F=b::G from hF] at ha
  rcases Ap.mp ha with rfl | ha
  ·exact ⟨_,h⟩
  ·obtain ⟨xs,z⟩:=hr.dom a ha
   exact ⟨_,z⟩
theorem Gx.kp(h:Gx K H n e)(k:Kp e.F H H')(hn:n<=n'):Gx K H' n' e:=by
 obtain ⟨v,x,F⟩:=e
 cases x with
 | un=>exact h
 | val _=>exact h
 | scr _ =>
  obtain ⟨a,h1,h2,h3,h4⟩:=h
  exact ⟨a,h1,h2,h3.kp k,h4⟩
 | dat m d =>
  obtain ⟨w,h1,h2,h3⟩:=h
  exact ⟨w,h1,h2.kp k,h3⟩
 | drw =>
  obtain ⟨dr,c,kk,f,h1,hF,h2,h3,h4⟩:=h
  have hF':F=[dr]:=hF
  subst hF'
  exact ⟨dr,c,kk,f,h1,rfl,k _ _ h2 (.inl Aa),h3,by omega⟩
 | tpl xs =>
  obtain ⟨t,h1,h2,h3⟩:=h
  exact ⟨t,h1,k _ _ h2 (.inr (.inl ⟨_,rfl⟩)),h3⟩
 | grd Hc =>
  intro a ha
  obtain ⟨o,h1,h2⟩:=h a ha
  exact ⟨o,h1,k _ _ h2 (.inl ha)⟩
 | dT kvs =>
  obtain ⟨b,ks,h1,hF,h2,h3,h4⟩:=h
  have hF':F=[b]:=hF
  subst hF'
  exact ⟨b,ks,h1,rfl,k _ _ h2 (.inl Aa),h3,h4.kp (k.sub λ_ z=>nomatch z)⟩
 | acc ds =>
  obtain ⟨b,ks,G,h1,hF,h2,h3,h4⟩:=h
  have hF':F=b::G:=hF
  subst hF'
  exact ⟨b,ks,G,h1,rfl,k _ _ h2 (.inl Aa),h3.kp (k.sub λ_ z=>Ae _ z),h4⟩
theorem At.grow(h:At K H0 X n E H)(s:Nh H H')(hn:n<=n'):At K H0 X n' E H' :=
 ⟨λe he=>(h.ok e he).kp (Kp.of s) hn,h.sep,h.new,λb o nx e=>s _ _ (h.same b o nx e),λb o e=>let ⟨o',q⟩:=h.dom b o e; ⟨o',s _ _ q⟩,λb hb=>let ⟨z,c,k,f,h1,h2,h3⟩:=h.xd b hb; ⟨z,c,k,f,s _ _ h1,h2,by omega⟩⟩
theorem At.free(h:At K H0 X n E H){a:Addr}(ha:H a=none):∀e∈E,a∉e.F:=λe he z=>by
 obtain ⟨o,q⟩:=(h.ok e he).dom a z
 rw[ha] at q; cases q
theorem At.push(h:At K H0 X n E H)(ok:Gx K H n e)(sep:∀f∈E,Vq e f)(new:∀a∈cells e,H0 a=none\/(X a/\EY e.x=true)):At K H0 X n (e::E) H :=
 ⟨λg hg=>by
  rcases Ap.mp hg with rfl | hg
  ·exact ok
  ·exact h.ok g hg,Bl.mpr ⟨sep,h.sep⟩,λg hg=>by
  rcases Ap.mp hg with rfl | hg
  ·exact new
  ·exact h.new g hg,h.same,h.dom,h.xd⟩
theorem At.new0(h:At K H0 X n E H){p:Addr}(hp:H p=none):H0 p=none:=by
 cases q:H0 p with
 | none=>rfl
 | some o =>
  obtain ⟨o',z⟩:=h.dom p o q
  rw[hp] at z; cases z
theorem A5{v:Option V}{m:Md}{d:Ad}:Vq ⟨v,.dat m d,[]⟩ f:=by
 refine ⟨λ_ a ha=>?_,λ_ a _=>Cj⟩
 have:=Gq _ a ha
 cases this
theorem At.pushI(h:At K H0 X n (S++T) H){v:V}{m:Md}{d:Ad}(r:RdF K H v d []):At K H0 X n (S++⟨some v,.dat m d,[]⟩::T) H :=
 (h.push (e:=⟨some v,.dat m d,[]⟩) ⟨v,rfl,r,λ_=>Cy,λ_ a l z=>nomatch z⟩ (λf _=>A5) (λa ha=>nomatch Gq _ a ha)).tomid
def wk:Md->Md->Bool
 | _,.pk=>true
 | .pk,_=>false
 | _,.sh=>true
 | .sh,_=>false
 | _,.tp=>true
 | .tp,.ow=>false
 | .ow,.ow=>true
theorem lQ{v:Option V}{m m':Md}{d:Ad}{F:List Addr}(w:wk m m'=true):∀a∈cells ⟨v,.dat m' d,F⟩,a∈cells ⟨v,.dat m d,F⟩:=by
 intro a ha
 cases m <;> cases m' <;> first | exact absurd w (by decide) | exact ha | exact absurd ha Cj | exact (Gj 1 F).subset ha
theorem uD{α:Type}{F:List α}(h:F.Nodup):∀a l,F=a::l->a∉l:=λa l e=>by
 subst e
 exact (Cd.mp h).1
theorem Gx.wk{v:Option V}{m m':Md}{d:Ad}{F:List Addr}(w:wk m m'=true)(h:Gx K H n ⟨v,.dat m d,F⟩):Gx K H n ⟨v,.dat m' d,F⟩:=by
 obtain ⟨u,h1,h2,h3,h4⟩:=h
 refine ⟨u,h1,h2,λe=>?_,λe=>?_⟩
 ·subst e
  cases m <;> first | exact absurd w (by decide) | exact h3 rfl
 ·subst e
  cases m <;> first | exact absurd w (by decide) | exact h4 rfl | exact uD (h3 rfl)
theorem Vq.wk{v:Option V}{m m':Md}{d:Ad}{F:List Addr}(w:wk m m'=true)(h:Vq ⟨v,.dat m d,F⟩ f):Vq ⟨v,.dat m' d,F⟩ f:=by
 refine ⟨λhp a ha=>?_,λhp a ha=>?_⟩
 ·rcases hp with hp | hp
  ·exact h.1 (.inl hp) a (lQ w a ha)
  ·cases hp
 ·rcases hp with hp | hp
  ·refine h.2 (.inl ?_) a ha
   cases m <;> cases m' <;> first | rfl | exact absurd w (by decide) | exact absurd hp (by show ¬ (true=false); decide)
  ·exact h.2 (.inr hp) a ha
theorem At.wk{v:Option V}{m m':Md}{d:Ad}{F:List Addr}(w:wk m m'=true)(h:At K H0 X n (⟨v,.dat m d,F⟩::E) H):At K H0 X n (⟨v,.dat m' d,F⟩::E) H:=by
 have hs:=Bl.mp h.sep
 refine (h.sub (Dv _ _)).push ((h.ok _ Aa).wk w) (λf hf=>(hs.1 f hf).wk w) λa ha=>?_
 rcases h.new _ Aa a (lQ w a ha) with z | z
 ·exact .inl z
 ·cases z.2
end
abbrev DE:=DS->(DV->DS->Prop)->Prop
abbrev DT:=DS->(Bool->DS->Prop)->Prop
abbrev DA:=DS->(List DV->DS->Prop)->Prop
structure DEnds where
 nx:DS->Prop
 rt:DV->DS->Prop
 bk:DS->Prop:=λ_=>False
 ct:DS->Prop:=λ_=>False
abbrev DB:=DEnds->DS->Prop
abbrev DG:=DV->DS->(DS->Prop)->Prop
abbrev yA:=List DV->DS->(DS->Prop)->Prop
def vs(S:List Ent):L2.St:=S.map Ent.v
def Sl(S:List Ent)(δ:DS):Prop:=S.map Ent.x=δ.sl
section
variable(K:PySem.W.Frag)
def LE(de:DE):TE:=λσ H Q=>∃(H0:Hp) (X:Addr->Prop) (S T:List Ent) (δ:DS) (P:DV->DS->Prop),vs S=σ/\Sl S δ/\At K H0 X δ.n (S++T) H/\de δ P /\
 ∀x δ' v F S' H',vs S'=σ->Sl S' δ'->At K H0 X δ'.n (S'++⟨some v,x,F⟩::T) H'->P x δ'->Q v H'
def LT(dt:DT):TT:=λσ H Q=>∃(H0:Hp) (X:Addr->Prop) (S T:List Ent) (δ:DS) (P:Bool->DS->Prop),vs S=σ/\Sl S δ/\At K H0 X δ.n (S++T) H/\dt δ P /\
 ∀b δ' S' H',vs S'=σ->Sl S' δ'->At K H0 X δ'.n (S'++T) H'->P b δ'->Q b H'
def LA(da:DA):TA:=λσ H Q=>∃(H0:Hp) (X:Addr->Prop) (S T:List Ent) (δ:DS) (P:List DV->DS->Prop),vs S=σ/\Sl S δ/\At K H0 X δ.n (S++T) H/\da δ P /\
 ∀xs δ' As us S' H',vs S'=σ->Sl S' δ'->As.map Ent.x=xs->As.map Ent.v=us.map some->At K H0 X δ'.n (S'++(As++T)) H'->P xs δ'->Q us H'
def LS(db:DB):TS:=λD σ H=>∃(H0:Hp) (X:Addr->Prop) (S T:List Ent) (δ:DS) (P:DEnds),vs S=σ/\Sl S δ/\(∀e∈T,Pl e.x=false)/\At K H0 X δ.n (S++T) H/\db P δ /\
 (∀δ' S' H',Sl S' δ'->At K H0 X δ'.n (S'++T) H'->P.nx δ'->D.nx (vs S') H') /\
 (∀x δ' v F S' H',Sl S' δ'->At K H0 X δ'.n (S'++⟨some v,x,F⟩::T) H'->P.rt x δ'->D.rt v H') /\
 (∀δ' S' H',Sl S' δ'->At K H0 X δ'.n (S'++T) H'->P.bk δ'->D.bk (vs S') H') /\
 (∀δ' S' H',Sl S' δ'->At K H0 X δ'.n (S'++T) H'->P.ct δ'->D.ct (vs S') H')
def LG(dg:DG):TG:=λv σ H Q=>∃(H0:Hp) (X:Addr->Prop) (S T:List Ent) (δ:DS) (x:DV) (F:List Addr) (P:DS->Prop),vs S=σ/\Sl S δ/\At K H0 X δ.n (S++⟨some v,x,F⟩::T) H/\dg x δ P /\
 ∀δ' S' H',Sl S' δ'->At K H0 X δ'.n (S'++T) H'->P δ'->Q (vs S') H'
def IH(dg:yA):E9:=λus σ H Q=>∃(H0:Hp) (X:Addr->Prop) (S T As:List Ent) (δ:DS) (P:DS->Prop),vs S=σ/\Sl S δ/\As.map Ent.v=us.map some/\At K H0 X δ.n (S++(As++T)) H/\dg (As.map Ent.x) δ P /\
 ∀δ' S' H',Sl S' δ'->At K H0 X δ'.n (S'++T) H'->P δ'->Q (vs S') H'
end
abbrev Em(X:Cx)(e:Expr)(de:DE):Prop:=PE X e (LE X.K de)
abbrev Zg(X:Cx)(e:Expr)(dt:DT):Prop:=PT X e (LT X.K dt)
abbrev W1(X:Cx)(e:Expr)(dt:DT):Prop:=PW X e (LT X.K dt)
abbrev iP(X:Cx)(es:List Expr)(da:DA):Prop:=PA X es (LA X.K da)
abbrev uV(X:Cx)(st:Stmt)(db:DB):Prop:=PS X st (LS X.K db)
abbrev Yx(X:Cx)(st:List Stmt)(db:DB):Prop:=cM X st (LS X.K db)
abbrev FA(X:Cx)(tg:Expr)(dg:DG):Prop:=PG X tg (LG X.K dg)
abbrev M9(X:Cx)(tg:List Expr)(dg:yA):Prop:=AB X tg (IH X.K dg)
theorem PE.imp{X:Cx}{e:Expr}{t t':TE}(h:PE X e t)(k:∀σ H Q,t' σ H Q->t σ H Q):PE X e t':=λpins s σ H Q I q=>h pins s σ H Q I (k σ H Q q)
theorem PT.imp{X:Cx}{e:Expr}{t t':TT}(h:PT X e t)(k:∀σ H Q,t' σ H Q->t σ H Q):PT X e t':=λpins s σ H Q I q=>h pins s σ H Q I (k σ H Q q)
theorem PW.imp{X:Cx}{e:Expr}{t t':TT}(h:PW X e t)(k:∀σ H Q,t' σ H Q->t σ H Q):PW X e t':=λwh pins s σ H Q I q=>h wh pins s σ H Q I (k σ H Q q)
theorem PA.imp{X:Cx}{e:List Expr}{t t':TA}(h:PA X e t)(k:∀σ H Q,t' σ H Q->t σ H Q):PA X e t':=λpos pins s σ H Q I q=>h pos pins s σ H Q I (k σ H Q q)
theorem PG.imp{X:Cx}{e:Expr}{t t':TG}(h:PG X e t)(k:∀v σ H Q,t' v σ H Q->t v σ H Q):PG X e t':=λpins s σ H v u Q I r q=>h pins s σ H v u Q I r (k v σ H Q q)
theorem AB.imp{X:Cx}{e:List Expr}{t t':E9}(h:AB X e t)(k:∀v σ H Q,t' v σ H Q->t v σ H Q):AB X e t':=λpins s σ H v u Q I r q=>h pins s σ H v u Q I r (k v σ H Q q)
section
variable{K:PySem.W.Frag}{H:Hp}{v:V}{F:List Addr}
theorem RdF.int_inv{i:Int}(h:RdF K H v (.int i) F):v=.int i/\F=[]:=by cases h; exact ⟨rfl,rfl⟩
theorem RdF.bl_inv{i:Bool}(h:RdF K H v (.bool i) F):v=.bl i/\F=[]:=by cases h; exact ⟨rfl,rfl⟩
theorem RdF.str_inv{i:Str}(h:RdF K H v (.str i) F):v=.str i/\F=[]:=by cases h; exact ⟨rfl,rfl⟩
theorem RdF.non_inv(h:RdF K H v .none F):v=.non/\F=[]:=by cases h; exact ⟨rfl,rfl⟩
theorem RdF.list_inv{ds:List Ad}(h:RdF K H v (.list ds) F):∃a xs G,v=.ref a/\H a=some (.lst xs)/\RdFs K H xs ds G/\F=a::G/\ds.length<=Ax:=by
 cases h with
 | lst h l hs=>exact ⟨_,_,_,rfl,h,hs,rfl,l⟩
theorem RdF.tup_inv{ds:List Ad}(h:RdF K H v (.tuple ds) F):∃a xs,v=.ref a/\H a=some (.tup xs)/\RdFs K H xs ds F/\ds.length<=Ax:=by
 cases h with
 | tup h l hs=>exact ⟨_,_,rfl,h,hs,l⟩
end
section
variable{K:PySem.W.Frag}{H0 H H':Hp}{X:Addr->Prop}{n:Nat}{E S T:List Ent}{v:V}{m:Md}{d:Ad}{F:List Addr}
theorem At.told(h:At K H0 X n E H)(he:⟨some v,.dat m d,F⟩∈E):RdF K H v d F:=by
 obtain ⟨w,e1,h1,_⟩:=h.ok _ he
 cases e1
 exact h1
theorem mem_mid{e:Ent}:e∈S++e::T:=Ai _ Aa
theorem Ff{e f:Ent}:f∈S++e::f::T:=Ai _ (Ae _ Aa)
theorem At.drop2{e f:Ent}(h:At K H0 X n (S++e::f::T) H):At K H0 X n (S++T) H:=h.drop.drop
theorem At.dropL{As:List Ent}(h:At K H0 X n (S++(As++T)) H):At K H0 X n (S++T) H:=h.sub ((Dd S).append (Bw As T))
end
def mI:Md->Md
 | .ow=>.pk
 | .tp=>.pk
 | m=>m
def E3(i:Nat):DE:=λδ P=>match δ.sl[i]? with
 | some (.dat m d)=>P (.dat (mI m) d) δ
 | _=>False
def dC(d:Ad):DE:=λδ P=>P (.dat .ow d) δ
theorem Lh{S:List Ent}{δ:DS}{i:Nat}{x:DV}(h:Sl S δ)(e:δ.sl[i]? = some x):∃ent,S[i]? = some ent/\ent.x=x:=by
 unfold Sl at h
 rw[<- h,Cn] at e
 cases q:S[i]? with
 | none=>rw[q] at e; cases e
 | some ent=>rw[q] at e; exact ⟨ent,rfl,Br e⟩
theorem Qv{S:List Ent}{i:Nat}{e:Ent}(h:S[i]? = some e):(vs S)[i]? = some e.v:=by
 unfold vs
 rw[Cn,h]
 rfl
theorem At.look{K:PySem.W.Frag}{H0 H:Hp}{X:Addr->Prop}{n:Nat}{S T:List Ent}{u:Option V}{v:V}{m:Md}{d:Ad}{F:List Addr}(h:At K H0 X n (S++T) H)(he:⟨u,.dat m d,F⟩∈S)(hu:u=some v):At K H0 X n (S++⟨some v,.dat (mI m) d,F⟩::T) H:=by
 subst hu
 obtain ⟨S1,S2,rfl⟩:=List.append_of_mem he
 have hp:((S1++⟨some v,.dat m d,F⟩::S2)++T).Perm (⟨some v,.dat m d,F⟩::(S1++(S2++T))):=by
  rw[Ee,En]
  exact Fz
 have h2:=h.perm hp
 have hs:=Bl.mp h2.sep
 refine (h.push (e:=⟨some v,.dat (mI m) d,F⟩) ?_ (λf hf=>?_) λa ha=>?_).tomid
 ·obtain ⟨w,e1,h1,_⟩:=h2.ok _ Aa
  refine ⟨w,e1,h1,λz=>?_,λz=>?_⟩ <;> cases m <;> cases z
 ·refine ⟨λ_ a ha=>?_,λhq a ha=>?_⟩
  ·cases m <;> exact nomatch ha
  ·rcases Ap.mp (hp.mem_iff.mp hf) with rfl | hf
   ·rcases hq with hq | hq
    ·cases m <;> first | cases hq; done | exact nomatch ha
    ·cases hq
   ·refine (hs.1 f hf).2 ?_ a ha
    rcases hq with hq | hq
    ·refine .inl ?_
     cases m <;> first | rfl | exact hq
    ·exact .inr hq
 ·cases m <;> exact nomatch ha
section
variable{X:Cx}{e:Expr}
theorem Am{i:Nat}(h:PE X e (kF i)):Em X e (E3 i):=by
 refine PE.imp h λσ H Q h=>?_
 obtain ⟨H0,Y,S,T,δ,P,rfl,hS,hA,hd,k⟩:=h
 unfold E3 at hd
 split at hd
 ·rename_i m d e1
  obtain ⟨ent,e2,e3⟩:=Lh hS e1
  have hm:ent∈S:=Ay e2
  obtain ⟨u,x,F⟩:=ent
  subst e3
  obtain ⟨v,hv,_⟩:=hA.ok _ (An _ hm)
  refine ⟨v,by rw[Qv e2]; exact congrArg some hv,k _ δ v F S H rfl hS (hA.look hm hv) hd⟩
 ·exact hd.elim
theorem Xp{v:V}{d:Ad}(h:PE X e (tC v))(r:∀H,RdF X.K H v d []):Em X e (dC d):=by
 refine PE.imp h λσ H Q h=>?_
 obtain ⟨H0,Y,S,T,δ,P,rfl,hS,hA,hd,k⟩:=h
 exact k _ δ v [] S H rfl hS (hA.pushI (r H)) hd
theorem Bu{i j pos}:Em X (.Constant (.int i) j pos) (dC (.int i)):=Xp Gc λ_=>.int i
theorem Yc{i j pos}:Em X (.Constant (.bool i) j pos) (dC (.bool i)):=Xp DN λ_=>.bl i
theorem Dy{i j pos}:Em X (.Constant (.str i) j pos) (dC (.str i)):=Xp Xt λ_=>.str i
theorem On{j pos}:Em X (.Constant .none j pos) (dC .none):=Xp aJ λ_=>.non
end
def CC(de:DE):DE:=λδ P=>de δ λx δ'=>match x with
 | .dat _ d=>imm d=true/\P (.dat .ow d) δ'
 | _=>False
theorem Kj{X:Cx}{e:Expr}{de:DE}(h:Em X e de):Em X e (CC de):=by
 refine PE.imp h λσ H Q h=>?_
 obtain ⟨H0,Y,S,T,δ,P,rfl,hS,hA,hd,k⟩:=h
 refine ⟨H0,Y,S,T,δ,_,rfl,hS,hA,hd,λx δ' v F S' H' e1 e2 hA' p=>?_⟩
 cases x with
 | dat m d =>
  have r:=hA'.told mem_mid
  obtain rfl:=r.imm p.1
  exact k _ δ' v [] S' H' e1 e2 (hA'.drop.pushI r) p.2
 | _=>exact p.elim
def vO(i:Nat):DE:=λδ P=>match δ.sl[i]? with
 | some (.dat m d)=>P (.dat m d) ⟨δ.sl.set i .un,δ.n⟩
 | _=>False
theorem Wi{α:Type}:∀{l:List α} {i:Nat} {x y:α},l[i]? = some x->(y::l).Perm (x::l.set i y)
 | [],i,x,y,h=>by simp at h
 | z::l,0,x,y,h=>by
  simp at h
  subst h
  exact Ef _ _ _
 | z::l,i+1,x,y,h=>by
  have ih:=Wi (l:=l) (i:=i) (x:=x) (y:=y) (by simpa using h)
  rw[List.set_cons_succ]
  exact (Ef z y l).trans ((ih.cons z).trans (Ef x z _))
theorem Qa{X:Cx}{e:Expr}{i:Nat}(h:PE X e (kF i)):Em X e (vO i):=by
 refine PE.imp h λσ H Q h=>?_
 obtain ⟨H0,Y,S,T,δ,P,rfl,hS,hA,hd,k⟩:=h
 unfold vO at hd
 split at hd
 ·rename_i m d e1
  obtain ⟨ent,e2,e3⟩:=Lh hS e1
  have hm:ent∈S:=Ay e2
  obtain ⟨u,x,F⟩:=ent
  subst e3
  obtain ⟨v,hv,hv2⟩:=hA.ok _ (An _ hm)
  have hv':u=some v:=hv
  subst hv'
  refine ⟨v,by rw[Qv e2],k _ _ v F (S.set i ⟨some v,.un,[]⟩) H ?_ ?_ ?_ hd⟩
  ·unfold vs
   rw[La]
   apply Zd
   intro j
   rw[Pw]
   split
   ·rename_i hij
    subst hij
    rw[Cn,e2]
    split
    ·rfl
    ·rename_i hj
     rw[Ab] at hj
     exact absurd (Av.mp e2).1 hj
   ·rfl
  ·unfold Sl at hS ⊢
   rw[La,hS]
  ·have hp:=hA.push (e:=⟨some v,.un,[]⟩) (show Gx X.K H δ.n ⟨some v,.un,[]⟩ from rfl) (λf _=>⟨λ_ a ha=>(nomatch ha),λ_ a _=>Cj⟩) (λa ha=>(nomatch ha))
   have p1:(⟨some v,.un,[]⟩::(S++T)).Perm ((S.set i ⟨some v,.un,[]⟩)++⟨some v,.dat m d,F⟩::T):=by
    rw[<- En]
    exact ((Wi (y:=(⟨some v,.un,[]⟩ : Ent)) e2).append_right T).trans (by rw[En]; exact List.perm_middle.symm)
   exact hp.perm p1
 ·exact hd.elim
abbrev D2:=DV->DV->(DV->Prop)->Prop
def eZ(K:PySem.W.Frag)(r:R2)(rd:D2):Prop:=∀(H0:Hp) (X:Addr->Prop) (n:Nat) (S T:List Ent) (x y:DV) (v w:V) (F G:List Addr) (H:Hp) (Q:VK) (P:DV->Prop),
 At K H0 X n (S++⟨some w,y,G⟩::⟨some v,x,F⟩::T) H->rd x y P->(∀z u F' H',At K H0 X n (S++⟨some u,z,F'⟩::T) H'->P z->Q u H')->r v w H Q
def Tz(rd:D2)(da db:DE):DE:=λδ P=>da δ λx δ1=>db δ1 λy δ2=>rd x y λz=>P z δ2
theorem op_le{K:PySem.W.Frag}{r:R2}{rd:D2}{da db:DE}(o:eZ K r rd):∀σ H Q,LE K (Tz rd da db) σ H Q->BP r (LE K da) (LE K db) σ H Q:=by
 intro σ H Q h
 obtain ⟨H0,Y,S,T,δ,P,rfl,hS,hA,hd,k⟩:=h
 refine ⟨H0,Y,S,T,δ,_,rfl,hS,hA,hd,λx δ1 v F S1 H1 e1 e2 hA1 p1=>?_⟩
 refine ⟨H0,Y,S1,⟨some v,x,F⟩::T,δ1,_,e1,e2,hA1,p1,λy δ2 w G S2 H2 e3 e4 hA2 p2=>?_⟩
 exact o H0 Y δ2.n S2 T x y v w F G H2 Q _ hA2 p2 λz u F' H' hA3 p3=>k z δ2 u F' S2 H' e3 e4 hA3 p3
section
variable{X:Cx}{a b:Expr}{da db:DE}{pos:Pos}{r:R2}{rd:D2}
theorem Uc{op:Operator}(ho:Ue X (Jj op) r)(o:eZ X.K r rd)(ha:Em X a da)(hb:Em X b db):Em X (.BinOp a op b pos) (Tz rd da db):=PE.imp (Kc ho ha hb) (op_le o)
theorem gA{op:CmpOp}(ho:Ue X (Ge op) r)(o:eZ X.K r rd)(ha:Em X a da)(hb:Em X b db)(hm:Fm op b=false):Em X (.Compare a [op] [b] pos) (Tz rd da db):=PE.imp (qL ho ha hb hm) (op_le o)
theorem CM(ho:L4 X r)(o:eZ X.K r rd)(ha:Em X a da)(hb:Em X b db)(hs:iS b):Em X (.Subscript a b pos) (Tz rd da db):=PE.imp (cF ho ha hb hs) (op_le o)
end
def BC(C:Int->Int->Prop)(g:Int->Int->Ad):D2:=λx y P=>match x,y with
 | .dat _ (.int i),.dat _ (.int j)=>C i j/\P (.dat .ow (g i j))
 | _,_=>False
def gB(g:Int->Int->Ad):D2:=λx y P=>match x,y with
 | .dat _ (.int i),.dat _ (.int j)=>P (.dat .ow (g i j))
 | _,_=>False
section
variable{K:PySem.W.Frag}
theorem U4{C:Int->Int->Prop}{g:Int->Int->V}{g':Int->Int->Ad}(h:∀i j H,RdF K H (g i j) (g' i j) []):eZ K (rI C g) (BC C g'):=by
 intro H0 X n S T x y v w F G H Q P hA hd k
 unfold BC at hd
 split at hd
 ·obtain ⟨rfl,_⟩:=(hA.told Ff).int_inv
  obtain ⟨rfl,_⟩:=(hA.told mem_mid).int_inv
  exact ⟨_,_,rfl,rfl,hd.1,k _ _ [] H (hA.drop2.pushI (h _ _ H)) hd.2⟩
 ·exact hd.elim
theorem Ya{g:Int->Int->V}{g':Int->Int->Ad}(h:∀i j H,RdF K H (g i j) (g' i j) []):eZ K (E7 g) (gB g'):=by
 intro H0 X n S T x y v w F G H Q P hA hd k
 unfold gB at hd
 split at hd
 ·obtain ⟨rfl,_⟩:=(hA.told Ff).int_inv
  obtain ⟨rfl,_⟩:=(hA.told mem_mid).int_inv
  exact ⟨_,_,rfl,rfl,k _ _ [] H (hA.drop2.pushI (h _ _ H)) hd⟩
 ·exact hd.elim
end
abbrev rdAdd:D2:=gB λi j=>.int (i+j)
abbrev rdSub:D2:=gB λi j=>.int (i - j)
abbrev rdMul:D2:=BC C0 λi j=>.int (i * j)
abbrev rdDiv:D2:=BC V7 λi j=>.int (i / j)
abbrev rdMod:D2:=BC (λ_ j=>0<j) λi j=>.int (i % j)
abbrev rdLt:D2:=gB λi j=>.bool (decide (i<j))
abbrev rdLe:D2:=gB λi j=>.bool (decide (i<=j))
abbrev rdGt:D2:=gB λi j=>.bool (decide (j<i))
abbrev rdGe:D2:=gB λi j=>.bool (decide (j<=i))
section
variable{X:Cx}{a b:Expr}{da db:DE}{pos:Pos}
theorem Qo(ha:Em X a da)(hb:Em X b db):Em X (.BinOp a .Add b pos) (Tz rdAdd da db):=Uc bF (Ya λ_ _ _=>.int _) ha hb
theorem zK(ha:Em X a da)(hb:Em X b db):Em X (.BinOp a .Sub b pos) (Tz rdSub da db):=Uc Z5 (Ya λ_ _ _=>.int _) ha hb
theorem Z2(ha:Em X a da)(hb:Em X b db):Em X (.BinOp a .Mult b pos) (Tz rdMul da db):=Uc Ww (U4 λ_ _ _=>.int _) ha hb
theorem Mb(ha:Em X a da)(hb:Em X b db):Em X (.BinOp a .FloorDiv b pos) (Tz rdDiv da db):=Uc gU (U4 λ_ _ _=>.int _) ha hb
theorem Fx(ha:Em X a da)(hb:Em X b db):Em X (.BinOp a .Mod b pos) (Tz rdMod da db):=Uc Xh (U4 λ_ _ _=>.int _) ha hb
theorem DY(ha:Em X a da)(hb:Em X b db):Em X (.Compare a [.Lt] [b] pos) (Tz rdLt da db):=gA Q5 (Ya λ_ _ _=>.bl _) ha hb (Ku _)
theorem DR(ha:Em X a da)(hb:Em X b db):Em X (.Compare a [.Gt] [b] pos) (Tz rdGt da db):=gA Q4 (Ya λ_ _ _=>.bl _) ha hb (Ku _)
end
def cT(ne:Bool):D2:=λx y P=>match x,y with
 | .dat _ d,.dat _ e=>d.depth<=60/\e.depth<=60/\P (.dat .ow (.bool (match ne with | true=>!Ds d e | false=>Ds d e)))
 | _,_=>False
def oA(ne:Bool):D2:=λx y P=>match x,y with
 | .dat _ d,.dat _ (.list es)=>Bk es<=60/\d.depth<=60/\P (.dat .ow (.bool (match ne with | true=>!(es.any λe=>Ds e d) | false=>es.any λe=>Ds e d)))
 | .dat _ d,.dat _ (.tuple es)=>Bk es<=60/\d.depth<=60/\P (.dat .ow (.bool (match ne with | true=>!(es.any λe=>Ds e d) | false=>es.any λe=>Ds e d)))
 | _,_=>False
section
variable{K:PySem.W.Frag}
theorem R1:eZ K (CJ K) (cT false):=by
 intro H0 X n S T x y v w F G H Q P hA hd k
 unfold cT at hd
 split at hd
 ·exact ⟨_,_,(hA.told Ff).rd (Ba hd.1 (by decide)),(hA.told mem_mid).rd (Ba hd.2.1 (by decide)),hd.1,k _ _ [] H (hA.drop2.pushI (.bl _)) hd.2.2⟩
 ·exact hd.elim
theorem BV:eZ K (EU K) (cT true):=by
 intro H0 X n S T x y v w F G H Q P hA hd k
 unfold cT at hd
 split at hd
 ·exact ⟨_,_,(hA.told Ff).rd (Ba hd.1 (by decide)),(hA.told mem_mid).rd (Ba hd.2.1 (by decide)),hd.1,k _ _ [] H (hA.drop2.pushI (.bl _)) hd.2.2⟩
 ·exact hd.elim
theorem R5{ne:Bool}:eZ K (AL K ne) (oA ne):=by
 intro H0 X n S T x y v w F G H Q P hA hd k
 unfold oA at hd
 split at hd
 ·obtain ⟨a,xs,G',rfl,hq,hs,_,_⟩:=(hA.told mem_mid).list_inv
  refine ⟨a,xs,_,_,rfl,.inl (Za.of hq),(hA.told Ff).rd (Ba hd.2.1 (by decide)),hs.rd (Ba hd.1 (by decide)),hd.1,?_⟩
  cases ne with
  | true=>exact k _ _ [] H (hA.drop2.pushI (.bl _)) hd.2.2
  | false=>exact k _ _ [] H (hA.drop2.pushI (.bl _)) hd.2.2
 ·obtain ⟨a,xs,rfl,hq,hs,_⟩:=(hA.told mem_mid).tup_inv
  refine ⟨a,xs,_,_,rfl,.inr (Vi.of hq),(hA.told Ff).rd (Ba hd.2.1 (by decide)),hs.rd (Ba hd.1 (by decide)),hd.1,?_⟩
  cases ne with
  | true=>exact k _ _ [] H (hA.drop2.pushI (.bl _)) hd.2.2
  | false=>exact k _ _ [] H (hA.drop2.pushI (.bl _)) hd.2.2
 ·exact hd.elim
def isNone:Ad->Bool
 | .none=>true
 | _=>false
theorem rP{v:V}{H:Hp}{d:Ad}{F:List Addr}(r:RdF K H v d F):decide (v=.non)=isNone d:=by
 cases r <;> simp [isNone]
def Yj(ne:Bool):D2:=λx y P=>match x,y with
 | .dat _ d,.dat _ .none=>P (.dat .ow (.bool (match ne with | true=>!isNone d | false=>isNone d)))
 | _,_=>False
theorem W7:eZ K (λx y H Q=>y=.non/\Q (.bl (decide (x=.non))) H) (Yj false):=by
 intro H0 X n S T x y v w F G H Q P hA hd k
 unfold Yj at hd
 split at hd
 ·obtain ⟨rfl,_⟩:=(hA.told mem_mid).non_inv
  refine ⟨rfl,k _ _ [] H (hA.drop2.pushI (m:=.ow) (.bl _)) ?_⟩
  rw[rP (hA.told Ff)]
  exact hd
 ·exact hd.elim
theorem B1:eZ K (λx y H Q=>y=.non/\Q (.bl (!decide (x=.non))) H) (Yj true):=by
 intro H0 X n S T x y v w F G H Q P hA hd k
 unfold Yj at hd
 split at hd
 ·rename_i m d m'
  obtain ⟨rfl,_⟩:=(hA.told mem_mid).non_inv
  refine ⟨rfl,k _ _ [] H (hA.drop2.pushI (m:=.ow) (.bl _)) ?_⟩
  rw[rP (hA.told Ff)]
  exact hd
 ·exact hd.elim
end
section
variable{X:Cx}{a b:Expr}{da db:DE}{pos:Pos}
theorem wI(hu:X.A.units+64<cLine)(ha:Em X a da)(hb:Em X b db):Em X (.Compare a [.Eq] [b] pos) (Tz (cT false) da db):=gA (xU hu) R1 ha hb (Ku _)
end
def Nt:Md->Md
 | .ow=>.ow
 | .tp=>.sh
 | m=>m
theorem At.part{K:PySem.W.Frag}{H0 H:Hp}{X:Addr->Prop}{n:Nat}{S T:List Ent}{v w:V}{m:Md}{d e:Ad}{F G:List Addr}(h:At K H0 X n (S++⟨some v,.dat m d,F⟩::T) H)(r:RdF K H w e G)(hG:G.Sublist F):At K H0 X n (S++⟨some w,.dat (Nt m) e,G⟩::T) H:=by
 have h2:=h.mid
 have hs:=Bl.mp h2.sep
 obtain ⟨v',e1,h1,hn,ht⟩:=h2.ok _ Aa
 have cs:∀a∈cells ⟨some w,.dat (Nt m) e,G⟩,a∈cells ⟨some v,.dat m d,F⟩:=λa ha=>by
  cases m with
  | ow=>exact hG.subset ha
  | tp=>exact nomatch ha
  | sh=>exact nomatch ha
  | pk=>exact nomatch ha
 refine (h.drop.push (e:=⟨some w,.dat (Nt m) e,G⟩) ⟨w,rfl,r,λz=>?_,λz=>?_⟩ (λf hf=>?_) λa ha=>?_).tomid
 ·cases m with
  | ow=>exact (hn rfl).sublist hG
  | _=>cases z
 ·cases m <;> cases z
 ·refine ⟨λhp a ha=>(hs.1 f hf).1 ?_ a (cs a ha),λhp a ha z=>(hs.1 f hf).2 ?_ a ha (hG.subset z)⟩
  ·rcases hp with hp | hp
   ·exact .inl hp
   ·cases hp
  ·rcases hp with hp | hp
   ·refine .inl ?_
    cases m <;> first | rfl | exact hp
   ·exact .inr hp
 ·rcases h2.new _ Aa a (cs a ha) with z | z
  ·exact .inl z
  ·cases z.2
def yP:D2:=λx y P=>match x,y with
 | .dat m (.list ds),.dat _ (.int i)=>∃d,Re ds i=some d/\P (.dat (Nt m) d)
 | .dat m (.tuple ds),.dat _ (.int i)=>∃d,Re ds i=some d/\P (.dat (Nt m) d)
 | .dat _ (.str z),.dat _ (.int i)=>z.length<=Ax/\∃c,Re z.cps.toList i=some c/\P (.dat .ow (.str ⟨#[c]⟩))
 | _,_=>False
theorem vF{K:PySem.W.Frag}{H:Hp}{xs:List V}{ds:List Ad}{F:List Addr}{i:Int}{d:Ad}(r:RdFs K H xs ds F)(h:Re ds i=some d):∃x G,Re xs i=some x/\RdF K H x d G/\G.Sublist F:=by
 unfold Re at h ⊢
 rw[r.len]
 cases e:oH ds.length i with
 | none=>rw[e] at h; cases h
 | some j =>
  rw[e] at h
  exact r.get h
theorem BR{K:PySem.W.Frag}:eZ K (IC K) yP:=by
 intro H0 X n S T x y v w F G H Q P hA hd k
 unfold yP at hd
 split at hd
 ·obtain ⟨d,hi,p⟩:=hd
  obtain ⟨rfl,_⟩:=(hA.told mem_mid).int_inv
  have r:=hA.told Ff
  have hA':=hA.drop
  obtain ⟨a,xs,G0,rfl,hq,hs,hG,_⟩:=r.list_inv
  obtain ⟨x,G',h1,h2,h3⟩:=vF hs hi
  subst hG
  exact .inl ⟨_,_,_,_,rfl,rfl,Za.of hq,h1,k _ _ G' H (hA'.part h2 (h3.trans (Dv _ _))) p⟩
 ·obtain ⟨d,hi,p⟩:=hd
  obtain ⟨rfl,_⟩:=(hA.told mem_mid).int_inv
  have r:=hA.told Ff
  have hA':=hA.drop
  obtain ⟨a,xs,rfl,hq,hs,_⟩:=r.tup_inv
  obtain ⟨x,G',h1,h2,h3⟩:=vF hs hi
  exact .inr (.inl ⟨_,_,_,_,rfl,rfl,Vi.of hq,h1,k _ _ G' H (hA'.part h2 h3) p⟩)
 ·obtain ⟨hz,c,hi,p⟩:=hd
  obtain ⟨rfl,_⟩:=(hA.told mem_mid).int_inv
  obtain ⟨rfl,_⟩:=(hA.told Ff).str_inv
  exact .inr (.inr ⟨_,_,_,rfl,rfl,hz,hi,k _ _ [] H (hA.drop2.pushI (.str _)) p⟩)
 ·exact hd.elim
theorem Kh{X:Cx}{a b:Expr}{da db:DE}{pos:Pos}(ha:Em X a da)(hb:Em X b db)(hs:iS b:=by intro _ _; rfl):Em X (.Subscript a b pos) (Tz yP da db):=CM X0 BR ha hb hs
def qK:Md->Md
 | .ow=>.ow
 | .pk=>.pk
 | _=>.tp
def lU(i:Bool)(m:Md)(ds:List Ad)(P:DV->Prop):Prop:=match i with
 | true=>Eg ds=true/\P (.dat .ow (.list ds))
 | false=>P (.dat (qK m) (.list ds))
def cU(i:Bool)(m:Md)(ds:List Ad)(P:DV->Prop):Prop:=match i with
 | true=>Eg ds=true/\P (.dat .ow (.tuple ds))
 | false=>P (.dat (Nt m) (.tuple ds))
section
variable{K:PySem.W.Frag}{H0 H:Hp}{X:Addr->Prop}{n:Nat}{S T:List Ent}{v w:V}{m:Md}{d e:Ad}{F G:List Addr}{p:Addr}{xs:List V}{ds:List Ad}{P:DV->Prop}{i:Bool}
theorem At.newI(h:At K H0 X n (S++T) H)(r:RdFs K H xs ds G)(hi:Eg ds=true)(hz:ds.length<=Ax)(hp:H p=none)(m:Md):At K H0 X n (S++⟨some (.ref p),.dat m (.list ds),[p]⟩::T) (upd H p (.lst xs)):=by
 obtain rfl:=r.imm hi
 have s1:=Gu hp (.lst xs)
 have h1:=h.grow (n':=n) s1 (Al _)
 refine (h1.push (e:=⟨some (.ref p),.dat m (.list ds),[p]⟩) ⟨_,rfl,.lst Et hz (r.kp (Kp.of s1)),λ_=>Cd.mpr ⟨Cj,Cy⟩,λ_ a l z=>by cases z; exact Cj⟩ (λf hf=>?_) λa ha=>?_).tomid
 ·have nf:=h.free hp f hf
  refine ⟨λ_ a ha z=>?_,λ_ a ha z=>?_⟩
  ·have:=Gq _ a ha
   rw[Af.mp this] at z
   exact nf z
  ·rw[Af.mp z] at ha
   exact nf (Gq _ _ ha)
 ·have:=Gq _ a ha
  rw[Af.mp this]
  exact .inl (h.new0 hp)
theorem At.newL(h:At K H0 X n (S++⟨some v,.dat m d,F⟩::T) H)(r:RdFs K H xs ds G)(hG:G.Sublist F)(hz:ds.length<=Ax)(hp:H p=none)(q:lU i m ds P):∃z F',At K H0 X n (S++⟨some (.ref p),z,F'⟩::T) (upd H p (.lst xs))/\P z:=by
 cases i with
 | true=>exact ⟨_,_,h.drop.newI r q.1 hz hp .ow,q.2⟩
 | false =>
  have q:P (.dat (qK m) (.list ds)):=q
  refine ⟨_,p::G,?_,q⟩
  have s1:=Gu hp (.lst xs)
  have h2:=h.mid
  have hs:=Bl.mp h2.sep
  obtain ⟨v',e1,_,hn,_⟩:=h2.ok _ Aa
  have h1:=h.drop.grow (n':=n) s1 (Al _)
  have npF:p∉F:=h2.free hp _ Aa
  have npG:p∉G:=λz=>npF (hG.subset z)
  have cs:∀a∈cells ⟨some (.ref p),.dat (qK m) (.list ds),p::G⟩,a=p\/(a∈cells ⟨some v,.dat m d,F⟩):=λa ha=>by
   cases m with
   | ow =>
    rcases Ap.mp ha with z | z
    ·exact .inl z
    ·exact .inr (hG.subset z)
   | tp=>exact .inl (Af.mp ha)
   | sh=>exact .inl (Af.mp ha)
   | pk=>exact nomatch ha
  refine (h1.push (e:=⟨some (.ref p),.dat (qK m) (.list ds),p::G⟩) ⟨_,rfl,.lst Et hz (r.kp (Kp.of s1)),λz=>?_,λz a l e=>?_⟩ (λf hf=>?_) λa ha=>?_).tomid
  ·cases m with
   | ow=>exact Cd.mpr ⟨npG,(hn rfl).sublist hG⟩
   | _=>cases z
  ·cases e
   exact npG
  ·have nf:=h2.free hp f (Ae _ hf)
   refine ⟨λhq a ha z=>?_,λhq a ha z=>?_⟩
   ·rcases cs a ha with rfl | hc
    ·exact nf z
    ·refine (hs.1 f hf).1 ?_ a hc z
     rcases hq with hq | hq
     ·exact .inl hq
     ·cases hq
   ·rcases Ap.mp z with rfl | z
    ·exact nf (Gq _ _ ha)
    ·refine (hs.1 f hf).2 ?_ a ha (hG.subset z)
     rcases hq with hq | hq
     ·refine .inl ?_
      cases m <;> first | rfl | exact hq
     ·exact .inr hq
  ·rcases cs a ha with rfl | hc
   ·exact .inl (h2.new0 hp)
   ·rcases h2.new _ Aa a hc with z | z
    ·exact .inl z
    ·cases z.2
theorem At.newT(h:At K H0 X n (S++⟨some v,.dat m d,F⟩::T) H)(r:RdFs K H xs ds G)(hG:G.Sublist F)(hz:ds.length<=Ax)(hp:H p=none)(q:cU i m ds P):∃z F',At K H0 X n (S++⟨some (.ref p),z,F'⟩::T) (upd H p (.tup xs))/\P z:=by
 have s1:=Gu hp (.tup xs)
 have h1:=h.grow (n':=n) s1 (Al _)
 cases i with
 | true =>
  obtain rfl:=r.imm q.1
  exact ⟨_,[],h1.drop.pushI (.tup Et hz (r.kp (Kp.of s1))),q.2⟩
 | false=>exact ⟨_,G,h1.part (.tup Et hz (r.kp (Kp.of s1))) hG,q⟩
theorem At.oldT{t:Addr}(h:At K H0 X n (S++⟨some v,.dat m d,F⟩::T) H)(r:RdFs K H xs ds G)(hG:G.Sublist F)(hz:ds.length<=Ax)(ht:H t=some (.tup xs))(q:cU i m ds P):∃z F',At K H0 X n (S++⟨some (.ref t),z,F'⟩::T) H/\P z:=by
 cases i with
 | true =>
  obtain rfl:=r.imm q.1
  exact ⟨_,[],h.drop.pushI (.tup ht hz r),q.2⟩
 | false=>exact ⟨_,G,h.part (.tup ht hz r) hG,q⟩
end
def Y6:DA:=λδ P=>P [] δ
def mF(de:DE)(da:DA):DA:=λδ P=>de δ λx δ1=>da δ1 λxs δ2=>P (x::xs) δ2
section
variable{X:Cx}{e:Expr}{es:List Expr}{de:DE}{da:DA}
theorem Au:iP X [] Y6:=by
 refine PA.imp Jk λσ H Q h=>?_
 obtain ⟨H0,Y,S,T,δ,P,rfl,hS,hA,hd,k⟩:=h
 exact k [] δ [] [] S H rfl hS rfl rfl hA hd
theorem Ak(ha:Em X e de)(hr:iP X es da)(hs:Bf (e::es) X.env=(false,eval e X.env)::Bf es X.env:=by rfl):iP X (e::es) (mF de da):=by
 refine PA.imp (Eb ha hr hs) λσ H Q h=>?_
 obtain ⟨H0,Y,S,T,δ,P,rfl,hS,hA,hd,k⟩:=h
 refine ⟨H0,Y,S,T,δ,_,rfl,hS,hA,hd,λx δ1 v F S1 H1 e1 e2 hA1 p1=>?_⟩
 refine ⟨H0,Y,S1,⟨some v,x,F⟩::T,δ1,_,e1,e2,hA1,p1,λxs δ2 As us S2 H2 e3 e4 ex eu hA2 p2=>?_⟩
 refine k (x::xs) δ2 (⟨some v,x,F⟩::As) (v::us) S2 H2 e3 e4 (by rw[Ar,ex]) (by rw[Ar,Ar,eu]) (hA2.perm ((Kf S2).append ?_)) p2
 exact Fz
end
def allOw:List DV->Bool
 | []=>true
 | .dat .ow _::xs=>allOw xs
 | _=>false
def noPk:List DV->Bool
 | []=>true
 | .dat .pk _::_=>false
 | .dat _ _::xs=>noPk xs
 | _=>false
def datas:List DV->Option (List Ad)
 | []=>some []
 | .dat _ d::xs=>(datas xs).map (d::·)
 | _=>none
def pkMd(top:Md)(xs:List DV):Md:=if allOw xs=true then .ow else if noPk xs=true then top else .pk
section
variable{K:PySem.W.Frag}{H0 H:Hp}{X:Addr->Prop}{n:Nat}{S T As:List Ent}
theorem cH:∀{As:List Ent} {us:List V} {ds:List Ad},As.map Ent.v=us.map some->datas (As.map Ent.x)=some ds->(∀e∈As,Gx K H n e)->RdFs K H us ds (As.flatMap Ent.F)
 | [],us,ds,e,h,_=>by
  cases us with
  | nil=>cases h; exact .nil
  | cons _ _=>cases e
 | ent::As,us,ds,e,h,ok=>by
  cases us with
  | nil=>cases e
  | cons u us =>
   rw[Ar,Ar] at e
   obtain ⟨e1,e2⟩:=Le e
   obtain ⟨v,x,F⟩:=ent
   have e1':v=some u:=e1
   subst e1'
   rw[Ar] at h
   cases x with
   | dat m d =>
    rw[show datas (DV.dat m d::As.map Ent.x)=(datas (As.map Ent.x)).map (d::·) from rfl] at h
    cases q:datas (As.map Ent.x) with
    | none=>rw[q] at h; cases h
    | some es =>
     rw[q] at h
     cases h
     obtain ⟨w,ew,rw',_⟩:=ok _ Aa
     cases ew
     rw[Ld]
     exact .cons rw' (cH e2 q λf hf=>ok f (Ae _ hf))
   | _=>cases h
theorem Oz:∀{As:List Ent},allOw (As.map Ent.x)=true->∀e∈As,∃d,e.x=.dat .ow d
 | [],_,_,h=>nomatch h
 | ⟨v,x,F⟩::As,h,e,he=>by
  rw[Ar] at h
  have hx:(∃d,x=.dat .ow d)/\allOw (As.map Ent.x)=true:=by
   cases x with
   | dat m d=>cases m <;> first | exact ⟨⟨d,rfl⟩,h⟩ | cases h
   | _=>cases h
  rcases Ap.mp he with rfl | he
  ·exact hx.1
  ·exact Oz hx.2 e he
theorem kR:∀{As:List Ent},noPk (As.map Ent.x)=true->∀e∈As,Pl e.x=false
 | [],_,_,h=>nomatch h
 | ⟨v,x,F⟩::As,h,e,he=>by
  rw[Ar] at h
  have hx:Pl x=false/\noPk (As.map Ent.x)=true:=by
   cases x with
   | dat m d=>cases m <;> first | exact ⟨rfl,h⟩ | cases h
   | _=>cases h
  rcases Ap.mp he with rfl | he
  ·exact hx.1
  ·exact kR hx.2 e he
theorem bL:∀{As:List Ent},(∀e∈As,∃d,e.x=.dat .ow d)->(∀e∈As,Gx K H n e)->As.Pairwise Vq->(As.flatMap Ent.F).Nodup
 | [],_,_,_=>Cy
 | ent::As,ho,ok,hs=>by
  rw[Ld]
  have hc:=Bl.mp hs
  obtain ⟨v,x,F⟩:=ent
  obtain ⟨d,hd⟩:=ho _ Aa
  have hd':x=.dat .ow d:=hd
  subst hd'
  obtain ⟨w,_,_,hn,_⟩:=ok _ Aa
  refine Fo.mpr ⟨hn rfl,bL (λe he=>ho e (Ae _ he)) (λe he=>ok e (Ae _ he)) hc.2,λa ha b hb z=>?_⟩
  subst z
  obtain ⟨f,hf,hb⟩:=Jo.mp hb
  obtain ⟨d',hd'⟩:=ho f (Ae _ hf)
  exact (hc.1 f hf).1 (.inl (by rw[hd']; rfl)) a ha hb
theorem At.pack{v:V}{d:Ad}{N:List Addr}{H':Hp}{top:Md}(h:At K H0 X n (S++(As++T)) H)(s:Nh H H')(hN:∀a∈N,H a=none)(ndN:N.Nodup)(htop:(top=.tp/\N.length=1)\/(top=.sh/\N=[]))(r:RdF K H' v d (N++As.flatMap Ent.F)):At K H0 X n (S++⟨some v,.dat (pkMd top (As.map Ent.x)) d,N++As.flatMap Ent.F⟩::T) H':=by
 have hp:(S++(As++T)).Perm (As++(S++T)):=by
  rw[<- Ee,<- Ee]
  exact sA.append_right T
 have h2:=h.perm hp
 have hs:=Dw.mp h2.sep
 have h1:=(h.dropL).grow (n':=n) s (Al _)
 have nN:∀a∈N,∀f∈As++(S++T),a∉f.F:=λa ha f hf=>h2.free (hN a ha) f hf
 have nFlat:∀a∈N,a∉As.flatMap Ent.F:=λa ha z=>by
  obtain ⟨f,hf,z⟩:=Jo.mp z
  exact nN a ha f (An _ hf) z
 have cs:∀a∈cells ⟨some v,.dat (pkMd top (As.map Ent.x)) d,N++As.flatMap Ent.F⟩,a∈N\/(allOw (As.map Ent.x)=true/\∃f∈As,a∈cells f):=λa ha=>by
  unfold pkMd at ha
  by_cases hw:allOw (As.map Ent.x)=true
  ·rw[if_pos hw] at ha
   rcases Aw.mp ha with z | z
   ·exact .inl z
   ·obtain ⟨f,hf,z⟩:=Jo.mp z
    obtain ⟨d',hd'⟩:=Oz hw f hf
    refine .inr ⟨hw,f,hf,?_⟩
    unfold cells
    rw[hd']
    exact z
  ·rw[if_neg hw] at ha
   by_cases hk:noPk (As.map Ent.x)=true
   ·rw[if_pos hk] at ha
    rcases htop with ⟨rfl,h1⟩ | ⟨rfl,rfl⟩
    ·match N,h1,ha with
     | [b],_,ha=>exact .inl ha
    ·exact nomatch ha
   ·rw[if_neg hk] at ha
    exact nomatch ha
 refine (h1.push (e:=⟨some v,.dat (pkMd top (As.map Ent.x)) d,N++As.flatMap Ent.F⟩) ⟨_,rfl,r,λz=>?_,λz a l e=>?_⟩ (λf hf=>?_) λa ha=>?_).tomid
 ·have hw:allOw (As.map Ent.x)=true:=by
   unfold pkMd at z
   by_cases hw:allOw (As.map Ent.x)=true
   ·exact hw
   ·rw[if_neg hw] at z
    split at z
    ·rcases htop with ⟨rfl,_⟩ | ⟨rfl,_⟩ <;> cases z
    ·cases z
  refine Fo.mpr ⟨ndN,bL (Oz hw) (λe he=>h2.ok e (An _ he)) hs.1,λa ha b hb e=>?_⟩
  subst e
  exact nFlat a ha hb
 ·have ht:top=.tp:=by
   unfold pkMd at z
   split at z
   ·cases z
   ·split at z
    ·exact z
    ·cases z
  subst ht
  rcases htop with ⟨_,h1⟩ | ⟨h1,_⟩
  ·match N,h1,e,nFlat with
   | [b],_,e,nFlat =>
    cases e
    exact nFlat a Aa
  ·cases h1
 ·have hf':f∈As++(S++T):=Ai _ hf
  refine ⟨λhq a ha z=>?_,λhq a ha z=>?_⟩
  ·rcases cs a ha with hn | ⟨_,g,hg,hc⟩
   ·exact nN a hn f hf' z
   ·refine (hs.2.2 g hg f hf).1 ?_ a hc z
    rcases hq with hq | hq
    ·exact .inl hq
    ·cases hq
  ·rcases Aw.mp z with z | z
   ·exact nN a z f hf' (Gq _ _ ha)
   ·obtain ⟨g,hg,z⟩:=Jo.mp z
    refine (hs.2.2 g hg f hf).2 ?_ a ha z
    rcases hq with hq | hq
    ·refine .inl ?_
     have hq':Pl (.dat (pkMd top (As.map Ent.x)) d)=false:=hq
     unfold pkMd at hq'
     by_cases hw:allOw (As.map Ent.x)=true
     ·obtain ⟨d',hd'⟩:=Oz hw g hg
      rw[hd']
      rfl
     ·rw[if_neg hw] at hq'
      by_cases hk:noPk (As.map Ent.x)=true
      ·exact kR hk g hg
      ·rw[if_neg hk] at hq'
       cases hq'
    ·exact .inr hq
 ·rcases cs a ha with hn | ⟨_,g,hg,hc⟩
  ·exact .inl (h2.new0 (hN a hn))
  ·rcases h2.new g (An _ hg) a hc with z | z
   ·exact .inl z
   ·obtain ⟨d',hd'⟩:=Oz (by assumption) g hg
    rw[hd'] at z
    cases z.2
end
def CG(da:DA):DE:=λδ P=>da δ λxs δ'=>match datas xs with
 | some ds=>ds.length<=1000/\P (.dat (pkMd .sh xs) (.tuple ds)) δ'
 | none=>False
def CT(da:DA):DE:=λδ P=>da δ λxs δ'=>match datas xs with
 | some ds=>ds.length<=1000/\P (.dat (pkMd .tp xs) (.list ds)) δ'
 | none=>False
section
variable{X:Cx}{es:List Expr}{da:DA}{pos:Pos}
theorem Sg{x1}(h:iP X es da):Em X (.Tuple es x1 pos) (CG da):=by
 refine PE.imp (o9 h) λσ H Q h=>?_
 obtain ⟨H0,Y,S,T,δ,P,rfl,hS,hA,hd,k⟩:=h
 refine ⟨H0,Y,S,T,δ,_,rfl,hS,hA,hd,λxs δ' As us S' H' e1 e2 ex eu hA' p=>?_⟩
 cases q:datas xs with
 | none=>rw[q] at p; exact p.elim
 | some ds =>
  rw[q] at p
  subst ex
  have r:=cH eu q λe he=>hA'.ok e (Ai _ (An _ he))
  have hl:=r.len
  have hz:ds.length<=Ax:=sz p.1
  refine ⟨by omega,λt ht=>?_⟩
  have s1:=Gu ht (.tup us)
  exact k _ δ' _ _ S' _ e1 e2 (hA'.pack (N:=[]) s1 (λ_ z=>nomatch z) Cy (.inr ⟨rfl,rfl⟩) (.tup Et hz (r.kp (Kp.of s1)))) p.2
theorem Fn(h:iP X es da):Em X (.List es pos) (CT da):=by
 refine PE.imp (zV h) λσ H Q h=>?_
 obtain ⟨H0,Y,S,T,δ,P,rfl,hS,hA,hd,k⟩:=h
 refine ⟨H0,Y,S,T,δ,_,rfl,hS,hA,hd,λxs δ' As us S' H' e1 e2 ex eu hA' p=>?_⟩
 cases q:datas xs with
 | none=>rw[q] at p; exact p.elim
 | some ds =>
  rw[q] at p
  subst ex
  have r:=cH eu q λe he=>hA'.ok e (Ai _ (An _ he))
  have hl:=r.len
  have hz:ds.length<=Ax:=sz p.1
  refine ⟨by omega,λt ht=>?_⟩
  have s1:=Gu ht (.lst us)
  exact k _ δ' _ _ S' _ e1 e2 (hA'.pack (N:=[t]) s1 (λa z=>by rw[Af.mp z]; exact ht) (Cd.mpr ⟨Cj,Cy⟩) (.inl ⟨rfl,rfl⟩) (.lst Et hz (r.kp (Kp.of s1)))) p.2
end
end DL
namespace Nd
open PySem PySem.Spec PyProof.Rows L2
section
variable{X:Cx}
def Q8:V->Option Int->Option Int->Hp->VK->Prop:=λx lo hi H Q=>∃a xs,x=.ref a/\H a=some (.tup xs)/\∀p H',H' p=some (.tup (bV xs lo hi))->Nh H H'->Q (.ref p) H'
theorem C7:AF X Q8:=by
 intro pins s σ H x v vl vu lo hi sl Q I rx hs pl pu h
 obtain ⟨a,xs,rfl,hx',q⟩:=h
 have hx:Vi X.K H a xs:=Vi.of hx'
 cases rx
 by_cases hw:HT.sIx xs.length 0 lo=0/\HT.sIx xs.length xs.length hi=xs.length
 ·obtain ⟨its,r,ht,hz⟩:=I.tuple hx
  have hlen:its.toArray.size=xs.length:=by rw[Aq]; exact r.length.symm
  refine ⟨"tuple",_,Eo.lookup,ht.typeIs,?_⟩
  refine Tx ht hs pl pu (by rw[hlen]; exact hw) ⟨.ref a,H,I,rfl,q a H ?_ (Nh.refl _)⟩
  unfold bV
  rw[hw.1,hw.2,Os,Nat.sub_zero,Dr]
  exact hx'
 ·exact Y2 pins s σ H (.ref a) (.ref a) vl vu lo hi sl Q I rfl hs pl pu ⟨a,xs,rfl,hx,hw,λp np=>q p _ Et (Gu np _)⟩
end
end Nd
namespace Ts
open PySem PyProof.Rows
def le(blt:Keyed->Keyed->Bool)(x y:Keyed):Prop:=blt y x=false
abbrev lst(p q out:Array Keyed)(i j:Nat):Array Keyed:=out++q.extract j q.size++p.extract i p.size
def X(xs:Array Keyed)(i:Nat):Keyed:=xs[i]?.getD (Ly,Ly)
variable{blt:Keyed->Keyed->Bool}
end Ts
namespace Ts
open PySem PyProof.Rows L2
end Ts
namespace DL
open PySem L2 Nd
def Ls{α:Type}(xs:List α)(lo hi:Option Int):List α:=(xs.drop (HT.sIx xs.length 0 lo)).take (HT.sIx xs.length xs.length hi - HT.sIx xs.length 0 lo)
theorem lH{α β:Type}(f:α->β)(xs:List α)(lo hi:Option Int):Ls (xs.map f) lo hi=(Ls xs lo hi).map f:=by
 unfold Ls
 rw[Ab,List.map_take,List.map_drop]
theorem Nf{α:Type}(xs:List α)(lo hi:Option Int):(Ls xs lo hi).Sublist xs:=(Gj _ _).trans (List.drop_sublist _ _)
theorem sZ{α:Type}(xs:List α)(k:Nat):Ls xs none (some (k:Int))=xs.take k:=by
 unfold Ls
 rw[HT.sIx_none,HT.sIx_nat,Os,Nat.sub_zero]
 by_cases h:k<=xs.length
 ·rw[Nat.min_eq_left h]
 ·rw[Nat.min_eq_right (by omega),Dr,Kz (by omega)]
section
variable{K:PySem.W.Frag}{H:Hp}
theorem RdFs.drop:∀(n:Nat) {xs:List V} {ds:List Ad} {F:List Addr},RdFs K H xs ds F->∃G,RdFs K H (xs.drop n) (ds.drop n) G/\G.Sublist F
 | 0,_,_,F,h=>⟨F,h,Dd _⟩
 | n+1,_,_,_,.nil=>⟨[],.nil,Dd _⟩
 | n+1,_,_,_,.cons _ t=>by
  obtain ⟨G,h1,h2⟩:=RdFs.drop n t
  exact ⟨G,h1,h2.trans (Bw _ _)⟩
theorem RdFs.take:∀(n:Nat) {xs:List V} {ds:List Ad} {F:List Addr},RdFs K H xs ds F->∃G,RdFs K H (xs.take n) (ds.take n) G/\G.Sublist F
 | 0,_,_,F,h=>⟨[],.nil,List.nil_sublist _⟩
 | n+1,_,_,_,.nil=>⟨[],.nil,Dd _⟩
 | n+1,_,_,_,.cons a t=>by
  obtain ⟨G,h1,h2⟩:=RdFs.take n t
  exact ⟨_,.cons a h1,(Dd _).append h2⟩
theorem RdFs.cut{xs:List V}{ds:List Ad}{F:List Addr}(h:RdFs K H xs ds F)(lo hi:Option Int):∃G,RdFs K H (bV xs lo hi) (Ls ds lo hi) G/\G.Sublist F:=by
 unfold bV Ls
 rw[h.len]
 obtain ⟨G,h1,h2⟩:=h.drop (HT.sIx ds.length 0 lo)
 obtain ⟨G',h3,h4⟩:=h1.take (HT.sIx ds.length ds.length hi - HT.sIx ds.length 0 lo)
 exact ⟨G',h3,h4.trans h2⟩
theorem RdFs.ints:∀ns:List Int,RdFs K H (ns.map V.int) (ns.map Bs) []
 | []=>.nil
 | n::ns=>RdFs.cons (F:=[]) (.int n) (RdFs.ints ns)
theorem RdFs.ints_inv:∀{ns:List Int} {xs:List V} {F:List Addr},RdFs K H xs (ns.map Bs) F->xs=ns.map V.int/\F=[]
 | [],_,_,h=>by cases h; exact ⟨rfl,rfl⟩
 | n::ns,_,_,h=>by
  rw[Ar] at h
  cases h with
  | cons a t =>
   obtain ⟨rfl,rfl⟩:=a.int_inv
   obtain ⟨rfl,rfl⟩:=RdFs.ints_inv t
   exact ⟨rfl,rfl⟩
theorem RdFs.bools_inv:∀{ns:List Bool} {xs:List V} {F:List Addr},RdFs K H xs (ns.map PyData.bool) F->xs=ns.map V.bl/\F=[]
 | [],_,_,h=>by cases h; exact ⟨rfl,rfl⟩
 | n::ns,_,_,h=>by
  rw[Ar] at h
  cases h with
  | cons a t =>
   obtain ⟨rfl,rfl⟩:=a.bl_inv
   obtain ⟨rfl,rfl⟩:=RdFs.bools_inv t
   exact ⟨rfl,rfl⟩
end
theorem aH{a b:List Ad}:Eg (a++b)=(Eg a && Eg b):=by
 induction a with
 | nil=>simp [Eg]
 | cons x a ih=>simp [Eg,ih,Bool.and_assoc]
theorem Rw(ns:List Int):Eg (ns.map Bs)=true:=Qh (λ_=>by simp [imm]) ns
def qE:D2:=λx y P=>match x,y with
 | .dat _ (.list ds),.dat _ (.list es)=>Eg ds=true/\Eg es=true/\ds.length+es.length<=1000000/\P (.dat .ow (.list (ds++es)))
 | _,_=>False
def iL:D2:=λx y P=>match x,y with
 | .dat _ (.tuple ds),.dat _ (.tuple es)=>Eg ds=true/\Eg es=true/\ds.length+es.length<=1000000/\P (.dat .ow (.tuple (ds++es)))
 | _,_=>False
def HV:D2:=λx y P=>match x,y with
 | .dat _ (.list ds),.dat _ (.int k)=>Eg ds=true /\ -1000000<=k/\k<=1000000/\ds.length * k.toNat<=1000000/\P (.dat .ow (.list (Ib k.toNat ds).flatten))
 | _,_=>False
def iV:D2:=λx y P=>match x,y with
 | .dat _ (.str i),.dat _ (.str j)=>i.length+j.length<=1000000/\P (.dat .ow (.str (i++j)))
 | _,_=>False
section
variable{K:PySem.W.Frag}
theorem X1:eZ K AS qE:=by
 intro H0 X n S T x y v w F G H Q P hA hd k
 unfold qE at hd
 split at hd
 ·obtain ⟨i1,i2,hz,p⟩:=hd
  obtain ⟨b,ys,G1,rfl,hb,rb,_,_⟩:=(hA.told mem_mid).list_inv
  obtain ⟨a,xs,G2,rfl,ha,ra,_,_⟩:=(hA.told Ff).list_inv
  have l1:=ra.len
  have l2:=rb.len
  refine ⟨a,b,xs,ys,rfl,rfl,ha,hb,dA (by omega),λq hq=>?_⟩
  exact k _ _ _ _ (hA.drop2.newI (ra.app rb) (by rw[aH,i1,i2]; rfl) (by rw[Be]; exact dA (by omega)) hq .ow) p
 ·exact hd.elim
theorem M6:eZ K (R6 K) iL:=by
 intro H0 X n S T x y v w F G H Q P hA hd k
 unfold iL at hd
 split at hd
 ·obtain ⟨i1,i2,hz,p⟩:=hd
  obtain ⟨b,ys,rfl,hb,rb,zb⟩:=(hA.told mem_mid).tup_inv
  obtain ⟨a,xs,rfl,ha,ra,za⟩:=(hA.told Ff).tup_inv
  have l1:=ra.len
  have l2:=rb.len
  obtain rfl:=ra.imm i1
  obtain rfl:=rb.imm i2
  refine ⟨a,b,xs,ys,rfl,rfl,Vi.of ha,Vi.of hb,dA (by omega),λe=>?_,λe=>?_,λq hq=>?_⟩
  ·subst e
   obtain rfl:=Rb.mp (l1.symm.trans rfl)
   exact k _ _ [] _ (hA.drop2.pushI (.tup hb zb rb)) p
  ·subst e
   obtain rfl:=Rb.mp (l2.symm.trans rfl)
   rw[El] at p
   exact k _ _ [] _ (hA.drop2.pushI (.tup ha za ra)) p
  ·have s1:=Gu hq (.tup (xs++ys))
   exact k _ _ [] _ ((hA.drop2.grow s1 (Al _)).pushI (.tup Et (by rw[Be]; exact dA (by omega)) ((ra.app rb).kp (Kp.of s1)))) p
 ·exact hd.elim
theorem L6:eZ K (λx y H Q=>∃i j,x=.str i/\y=.str j/\i.length+j.length<=Ax/\Q (.str (i++j)) H) iV:=by
 intro H0 X n S T x y v w F G H Q P hA hd k
 unfold iV at hd
 split at hd
 ·obtain ⟨rfl,_⟩:=(hA.told mem_mid).str_inv
  obtain ⟨rfl,_⟩:=(hA.told Ff).str_inv
  exact ⟨_,_,rfl,rfl,dA hd.1,k _ _ [] H (hA.drop2.pushI (.str _)) hd.2⟩
 ·exact hd.elim
end
section
variable{X:Cx}{a b:Expr}{da db:DE}{pos:Pos}
theorem iF(ha:Em X a da)(hb:Em X b db):Em X (.BinOp a .Add b pos) (Tz qE da db):=Uc yH X1 ha hb
theorem G9(ha:Em X a da)(hb:Em X b db):Em X (.BinOp a .Add b pos) (Tz iL da db):=Uc B5 M6 ha hb
theorem Sr(ha:Em X a da)(hb:Em X b db):Em X (.BinOp a .Add b pos) (Tz iV da db):=Uc pJ L6 ha hb
end
abbrev DO:=DS->(Option Int->DS->Prop)->Prop
def LO(K:PySem.W.Frag)(do_:DO):TO:=λσ H Q=>∃(H0:Hp) (X:Addr->Prop) (S T:List Ent) (δ:DS) (P:Option Int->DS->Prop),vs S=σ/\Sl S δ/\At K H0 X δ.n (S++T) H/\do_ δ P /\
 ∀o δ' S' H',vs S'=σ->Sl S' δ'->At K H0 X δ'.n (S'++T) H'->P o δ'->Q o H'
abbrev S7(X:Cx)(e:Option Expr)(d:DO):Prop:=PO X e (LO X.K d)
theorem PO.imp{X:Cx}{e:Option Expr}{t t':TO}(h:PO X e t)(k:∀σ H Q,t' σ H Q->t σ H Q):PO X e t':=λpins s σ H Q I q=>h pins s σ H Q I (k σ H Q q)
def rJ:DO:=λδ P=>P none δ
def T1(de:DE):DO:=λδ P=>de δ λx δ'=>match x with
 | .dat _ (.int i)=>P (some i) δ'
 | _=>False
section
variable{X:Cx}{e:Expr}{de:DE}{lo hi:Option Expr}{dl dh:DO}{pos p2:Pos}
theorem Lp:S7 X none rJ:=by
 refine PO.imp E5 λσ H Q h=>?_
 obtain ⟨H0,Y,S,T,δ,P,rfl,hS,hA,hd,k⟩:=h
 exact k _ δ S H rfl hS hA hd
theorem Lo(h:Em X e de):S7 X (some e) (T1 de):=by
 refine PO.imp (A0 h) λσ H Q h=>?_
 obtain ⟨H0,Y,S,T,δ,P,rfl,hS,hA,hd,k⟩:=h
 refine ⟨H0,Y,S,T,δ,_,rfl,hS,hA,hd,λx δ' v F S' H' e1 e2 hA' p=>?_⟩
 split at p
 ·obtain ⟨rfl,_⟩:=(hA'.told mem_mid).int_inv
  exact ⟨_,rfl,k _ δ' S' H' e1 e2 hA'.drop p⟩
 ·exact p.elim
def IF(i:Bool)(de:DE)(dl dh:DO):DE:=λδ P=>de δ λx δ1=>dl δ1 λl δ2=>dh δ2 λh δ3=>match x with
 | .dat m (.list ds)=>lU i m (Ls ds l h) λz=>P z δ3
 | .dat m (.tuple ds)=>cU i m (Ls ds l h) λz=>P z δ3
 | _=>False
def GY(K:PySem.W.Frag):V->Option Int->Option Int->Hp->VK->Prop:=λx lo hi H Q=>Z0 K x lo hi H Q\/Q8 x lo hi H Q
theorem aT{i:Bool}(he:Em X e de)(hl:S7 X lo dl)(hh:S7 X hi dh):Em X (.Subscript e (.Slice lo hi none p2) pos) (IF i de dl dh):=by
 refine PE.imp (jQ (r:=GY X.K) (B3.or C7) he hl hh) λσ H Q h=>?_
 obtain ⟨H0,Y,S,T,δ,P,rfl,hS,hA,hd,k⟩:=h
 refine ⟨H0,Y,S,T,δ,_,rfl,hS,hA,hd,λx δ1 v F S1 H1 e1 e2 hA1 p1=>?_⟩
 refine ⟨H0,Y,S1,⟨some v,x,F⟩::T,δ1,_,e1,e2,hA1,p1,λl δ2 S2 H2 e3 e4 hA2 p2=>?_⟩
 refine ⟨H0,Y,S2,⟨some v,x,F⟩::T,δ2,_,e3,e4,hA2,p2,λh δ3 S3 H3 e5 e6 hA3 p3=>?_⟩
 split at p3
 ·obtain ⟨a,xs,G,rfl,ha,ra,rfl,hz⟩:=(hA3.told mem_mid).list_inv
  refine .inl ⟨a,xs,rfl,Za.of ha,λp hp=>?_⟩
  obtain ⟨G',h1,h2⟩:=ra.cut l h
  obtain ⟨z,F',hA4,p4⟩:=hA3.newL h1 (h2.trans (Dv _ _)) (Ba (Nf _ _ _).length_le hz) hp p3
  exact k z δ3 _ F' S3 _ e5 e6 hA4 p4
 ·obtain ⟨a,xs,rfl,ha,ra,hz⟩:=(hA3.told mem_mid).tup_inv
  refine .inr ⟨a,xs,rfl,ha,λp H' hp s1=>?_⟩
  obtain ⟨G',h1,h2⟩:=ra.cut l h
  obtain ⟨z,F',hA4,p4⟩:=(hA3.grow s1 (Al _)).oldT (h1.kp (Kp.of s1)) h2 (Ba (Nf _ _ _).length_le hz) hp p3
  exact k z δ3 _ F' S3 _ e5 e6 hA4 p4
 ·exact p3.elim
end
end DL
namespace NdS
open PySem PyProof.Rows
end NdS
namespace Nd
open PySem PySem.Spec PyProof.Rows L2 NdS
end Nd
namespace DL
open PySem L2 Nd
def kQ(x:Int):List Int->List Int
 | []=>[x]
 | y::l=>if x<y then x::y::l else if x=y then y::l else y::kQ x l
def aP(ns:List Int):List Int:=ns.foldr kQ []
theorem lT{x z:Int}:∀{l:List Int},z∈kQ x l↔z=x\/z∈l
 | []=>by simp [kQ]
 | y::l=>by
  unfold kQ
  split
  ·simp
  ·split
   ·rename_i h1 h2
    subst h2
    simp
   ·simp only[Ap,lT (l:=l)]
    constructor
    ·rintro (h | h | h) <;> simp [h]
    ·rintro (h | h | h) <;> simp [h]
theorem eY{x:Int}:∀{l:List Int},l.Pairwise (· < ·)->(kQ x l).Pairwise (· < ·)
 | [],_=>Gk _ _
 | y::l,h=>by
  obtain ⟨h1,h2⟩:=Bl.mp h
  unfold kQ
  split
  ·rename_i hx
   refine Bl.mpr ⟨λz hz=>?_,h⟩
   rcases Ap.mp hz with rfl | hz
   ·exact hx
   ·exact Int.lt_trans hx (h1 z hz)
  ·split
   ·exact h
   ·refine Bl.mpr ⟨λz hz=>?_,eY h2⟩
    rcases lT.mp hz with rfl | hz
    ·omega
    ·exact h1 z hz
theorem Sv:∀ns:List Int,(aP ns).Pairwise (· < ·)
 | []=>Fb
 | n::ns=>eY (Sv ns)
theorem xZ{x:Int}:∀{ns:List Int},x∈aP ns↔x∈ns
 | []=>Iff.rfl
 | n::ns=>by
  rw[show aP (n::ns)=kQ n (aP ns) from rfl,lT,xZ (ns:=ns),Ap]
theorem F6{l ns:List Int}(h:l.Pairwise (· < ·))(m:∀x,x∈l↔x∈ns):l=aP ns:=dU h (Sv ns) λx=>(m x).trans xZ.symm
abbrev DC:=List DV->(DV->Prop)->Prop
def Qu(K:PySem.W.Frag)(r:List V->Hp->VK->Prop)(rd:DC):Prop:=∀(H0:Hp) (X:Addr->Prop) (n:Nat) (S T As:List Ent) (us:List V) (H:Hp) (Q:VK) (P:DV->Prop),
 As.map Ent.v=us.map some->At K H0 X n (S++(As++T)) H->rd (As.map Ent.x) P->(∀z u F' H',At K H0 X n (S++⟨some u,z,F'⟩::T) H'->P z->Q u H')->r us H Q
def BF(rd:DC)(da:DA):DE:=λδ P=>da δ λxs δ1=>rd xs λz=>P z δ1
section
variable{X:Cx}{x:Str}{p pos:Pos}{e:Expr}{es:List Expr}{da:DA}{id T:String}{r:List V->Hp->VK->Prop}{rd:DC}
theorem O1{K:PySem.W.Frag}(o:Qu K r rd):∀σ H Q,LE K (BF rd da) σ H Q->FQ r (LA K da) σ H Q:=by
 intro σ H Q h
 obtain ⟨H0,Y,S,T,δ,P,rfl,hS,hA,hd,k⟩:=h
 refine ⟨H0,Y,S,T,δ,_,rfl,hS,hA,hd,λxs δ' As us S' H' e1 e2 ex eu hA' p=>?_⟩
 subst ex
 exact o H0 Y δ'.n S' T As us H' Q _ eu hA' p λz u F' H'' hA3 p3=>k z δ' u F' S' H'' e1 e2 hA3 p3
theorem Gg(hc:Kb X (.builtin id) r)(o:Qu X.K r rd)(hg:Gl X x)(hm:X.mg x=none)(hv:Hw x=some (.builtin id))(ha:iP X (e::es) da)(hn:x ≠ "__name__" := by decide)(hdb:(x == ("__debug__" : Str))=false:=by decide)(he:Bf (e::es) X.env=(false,eval e X.env)::Bf es X.env:=by rfl)(hpl:(Gn pos (Bf es X.env)).any (·.1)=false:=by rfl):Em X (.Call (.Name x p) (e::es) [] pos) (BF rd da) :=
 PE.imp (Pf hc hg hm hv ha hn hdb he hpl) (O1 o)
theorem Gs(hc:Kb X (.type T) r)(o:Qu X.K r rd)(hg:Gl X x)(hm:X.mg x=none)(hv:Hw x=some (.type T))(ha:iP X (e::es) da)(hn:x ≠ "__name__" := by decide)(hdb:(x == ("__debug__" : Str))=false:=by decide)(he:Bf (e::es) X.env=(false,eval e X.env)::Bf es X.env:=by rfl)(hpl:(Gn pos (Bf es X.env)).any (·.1)=false:=by rfl):Em X (.Call (.Name x p) (e::es) [] pos) (BF rd da) :=
 PE.imp (Su hc hg hm hv ha hn hdb he hpl) (O1 o)
end
theorem X5{α β:Type}{f:α->β}{l:List α}{x:β}(h:l.map f=[x]):∃a,l=[a]/\f a=x:=by
 cases l with
 | nil=>cases h
 | cons a t =>
  obtain ⟨h1,h2⟩:=Le h
  exact ⟨a,by rw[List.map_eq_nil_iff.mp h2],h1⟩
theorem CW{α β:Type}{f:α->β}{l:List α}{x y:β}(h:l.map f=[x,y]):∃a b,l=[a,b]/\f a=x/\f b=y:=by
 cases l with
 | nil=>cases h
 | cons a t =>
  obtain ⟨h1,h2⟩:=Le h
  obtain ⟨b,rfl,h3⟩:=X5 h2
  exact ⟨a,b,rfl,h1,h3⟩
theorem Ip{K:PySem.W.Frag}{H0 H:Hp}{X:Addr->Prop}{n:Nat}{S T As:List Ent}{us:List V}{x:DV}(eu:As.map Ent.v=us.map some)(hA:At K H0 X n (S++(As++T)) H)(ex:As.map Ent.x=[x]):∃v F,us=[v]/\At K H0 X n (S++⟨some v,x,F⟩::T) H:=by
 obtain ⟨⟨v,y,F⟩,rfl,h1⟩:=X5 ex
 obtain ⟨u,rfl,h2⟩:=X5 eu.symm
 have h1':y=x:=h1
 have h2':some u=v:=h2
 subst h1' h2'
 exact ⟨u,F,rfl,hA⟩
theorem zW{K:PySem.W.Frag}{H0 H:Hp}{X:Addr->Prop}{n:Nat}{S T As:List Ent}{us:List V}{x y:DV}(eu:As.map Ent.v=us.map some)(hA:At K H0 X n (S++(As++T)) H)(ex:As.map Ent.x=[x,y]):∃v F w G,us=[v,w]/\At K H0 X n (S++⟨some v,x,F⟩::⟨some w,y,G⟩::T) H:=by
 obtain ⟨⟨v,x',F⟩,⟨w,y',G⟩,rfl,h1,h2⟩:=CW ex
 obtain ⟨u,u',rfl,h3,h4⟩:=CW eu.symm
 have h1':x'=x:=h1
 have h2':y'=y:=h2
 have h3':some u=v:=h3
 have h4':some u'=w:=h4
 subst h1' h2' h3' h4'
 exact ⟨u,F,u',G,rfl,hA⟩
def qD:DC:=λxs P=>match xs with
 | [.dat _ (.list ds)]=>P (.dat .ow (.int ds.length))
 | [.dat _ (.tuple ds)]=>P (.dat .ow (.int ds.length))
 | [.dat _ (.str z)]=>z.length<=1000000/\P (.dat .ow (.int z.length))
 | _=>False
def FZ(i:Bool):DC:=λxs P=>match xs with
 | [.dat m (.list ds)]=>lU i m ds P
 | [.dat m (.tuple ds)]=>lU i m ds P
 | _=>False
def iR(i:Bool):DC:=λxs P=>match xs with
 | [.dat m (.list ds)]=>cU i m ds P
 | [.dat m (.tuple ds)]=>P (.dat m (.tuple ds))
 | _=>False
def zZ:DC:=λxs P=>match xs with
 | [.dat _ (.int i)]=>P (.dat .ow (.int i))
 | [.dat _ (.bool b)]=>P (.dat .ow (.int (if b=true then 1 else 0)))
 | _=>False
def GE:DC:=λxs P=>match xs with
 | [.dat _ (.list ds)]=>∃ns:List Int,ds=ns.map Bs/\ns≠[]/\∀M∈ns,(∀x∈ns,M<=x)->P (.dat .ow (.int M))
 | _=>False
def j4:DC:=λxs P=>match xs with
 | [.dat _ (.list ds)]=>∃bs:List Bool,ds=bs.map PyData.bool/\P (.dat .ow (.bool (bs.all id)))
 | _=>False
def w4:Ad->String
 | .none => "NoneType"
 | .bool _ => "bool"
 | .int _ => "int"
 | .str _ => "str"
 | .list _ => "list"
 | .tuple _ => "tuple"
 | .dict _ => "dict"
def Ua(d:Ad)(n:String):Bool:=w4 d == n || (w4 d == "bool" && n == "int")
def u5:DC:=λxs P=>match xs with
 | [.dat _ d,.val (.ty n)]=>(n = "int" \/ n = "bool" \/ n = "str" \/ n = "list" \/ n = "tuple")/\P (.dat .ow (.bool (Ua d n)))
 | _=>False
def i9:DC:=λxs P=>match xs with
 | [.dat _ d]=>(∃b,b<=400/\Po b d/\(b+12) * Mi d<=Ax)/\d.depth<=90/\P (.dat .ow (.str (Ro d)))
 | _=>False
section
variable{K:PySem.W.Frag}
theorem Ql:Qu K (λxs H Q=>∃x n,xs=[x]/\BU K x H n/\Q (.int n) H) qD:=by
 intro H0 X n S T As us H Q P eu hA hd k
 unfold qD at hd
 split at hd
 ·rename_i ex
  obtain ⟨v,F,rfl,hA⟩:=Ip eu hA ex
  obtain ⟨a,xs,G,rfl,ha,ra,_,_⟩:=(hA.told mem_mid).list_inv
  exact ⟨_,_,rfl,.inl ⟨xs,Za.of ha,ra.len.symm⟩,k _ _ [] H (hA.drop.pushI (.int _)) hd⟩
 ·rename_i ex
  obtain ⟨v,F,rfl,hA⟩:=Ip eu hA ex
  obtain ⟨a,xs,rfl,ha,ra,_⟩:=(hA.told mem_mid).tup_inv
  exact ⟨_,_,rfl,.inr ⟨xs,Vi.of ha,ra.len.symm⟩,k _ _ [] H (hA.drop.pushI (.int _)) hd⟩
 ·rename_i ex
  obtain ⟨v,F,rfl,hA⟩:=Ip eu hA ex
  obtain ⟨rfl,_⟩:=(hA.told mem_mid).str_inv
  exact ⟨_,_,rfl,⟨dA hd.1,rfl⟩,k _ _ [] H (hA.drop.pushI (.int _)) hd.2⟩
 ·exact hd.elim
theorem Vw{i:Bool}:Qu K (S5 K) (iR i):=by
 intro H0 X n S T As us H Q P eu hA hd k
 unfold iR at hd
 split at hd
 ·rename_i ex
  obtain ⟨v,F,rfl,hA⟩:=Ip eu hA ex
  obtain ⟨a,xs,G,rfl,ha,ra,rfl,hz⟩:=(hA.told mem_mid).list_inv
  refine ⟨a,xs,rfl,.inl ⟨Za.of ha,λl hl=>?_⟩⟩
  obtain ⟨z,F',h1,h2⟩:=hA.newT ra (Dv _ _) hz hl hd
  exact k _ _ _ _ h1 h2
 ·rename_i ex
  obtain ⟨v,F,rfl,hA⟩:=Ip eu hA ex
  obtain ⟨a,xs,rfl,ha,ra,hz⟩:=(hA.told mem_mid).tup_inv
  exact ⟨a,xs,rfl,.inr ⟨Vi.of ha,k _ _ F H hA hd⟩⟩
 ·exact hd.elim
theorem gL:Qu K (λxs H Q=>(∃i,xs=[V.int i]/\Q (.int i) H)\/∃k,xs=[V.bl k]/\Q (.int (if k then 1 else 0)) H) zZ:=by
 intro H0 X n S T As us H Q P eu hA hd k
 unfold zZ at hd
 split at hd
 ·rename_i ex
  obtain ⟨v,F,rfl,hA⟩:=Ip eu hA ex
  obtain ⟨rfl,_⟩:=(hA.told mem_mid).int_inv
  exact .inl ⟨_,rfl,k _ _ [] H (hA.drop.pushI (.int _)) hd⟩
 ·rename_i ex
  obtain ⟨v,F,rfl,hA⟩:=Ip eu hA ex
  obtain ⟨rfl,_⟩:=(hA.told mem_mid).bl_inv
  exact .inr ⟨_,rfl,k _ _ [] H (hA.drop.pushI (.int _)) hd⟩
 ·exact hd.elim
theorem AN:Qu K (λxs H Q=>∃(p:Addr) (bs:List Bool),xs=[.ref p]/\Za K H p (bs.map V.bl)/\Q (.bl (bs.all id)) H) j4:=by
 intro H0 X n S T As us H Q P eu hA hd k
 unfold j4 at hd
 split at hd
 ·rename_i ex
  obtain ⟨v,F,rfl,hA⟩:=Ip eu hA ex
  obtain ⟨bs,rfl,h1⟩:=hd
  obtain ⟨a,xs,G,rfl,ha,ra,rfl,hz⟩:=(hA.told mem_mid).list_inv
  obtain ⟨rfl,_⟩:=ra.bools_inv
  exact ⟨a,bs,rfl,Za.of ha,k _ _ [] H (hA.drop.pushI (.bl _)) h1⟩
 ·exact hd.elim
theorem L7{T n:String}{b:Bool}(h1:(Fk T == Fk n)=false)(h2:PySem.W.kitMeta n=true)(h3:(fastBuiltinMro T).map (λx=>x.contains (Fk n))=some b):PySem.W.kitOne K (.type T) (.type n)=some b:=U8 h1 h2 h3
theorem K0{d:Ad}{n:String}(hn:n = "int" \/ n = "bool" \/ n = "str" \/ n = "list" \/ n = "tuple"):PySem.W.kitOne K (.type (w4 d)) (.type n)=some (Ua d n):=by
 have main:∀T:String,(T = "NoneType" \/ T = "bool" \/ T = "int" \/ T = "str" \/ T = "list" \/ T = "tuple" \/ T = "dict")->PySem.W.kitOne K (.type T) (.type n)=some (T == n || (T == "bool" && n == "int")):=by
  intro T hT
  rcases hT with rfl | rfl | rfl | rfl | rfl | rfl | rfl <;> rcases hn with rfl | rfl | rfl | rfl | rfl <;> first | exact AD | exact L7 (by decide +kernel) (by decide +kernel) (by decide +kernel)
 unfold Ua
 refine main _ ?_
 cases d <;> simp [w4]
theorem Xw:Qu K (IG K) u5:=by
 intro H0 X n S T As us H Q P eu hA hd k
 unfold u5 at hd
 split at hd
 ·rename_i ex
  obtain ⟨v,F,w,G,rfl,hA⟩:=zW eu hA ex
  have hw:w=.ty _:=Br (hA.ok _ Ff).1
  subst hw
  have r:=hA.told mem_mid
  refine ⟨v,_,.type (w4 _),_,rfl,?_,K0 hd.1,k _ _ [] H (hA.drop2.pushI (.bl _)) hd.2⟩
  ·cases r with
   | non=>exact .non
   | bl b=>exact .bl b
   | int i=>exact .int i
   | str x=>exact .str x
   | lst h l hs=>exact .lst h
   | tup h l hs=>exact .tup h
   | dic h e hs=>exact .dT h
   | dik h e hs=>exact .dK h
   | dnm h e hs=>exact .dT h
 ·exact hd.elim
theorem aX:Qu K (EZ K) i9:=by
 intro H0 X n S T As us H Q P eu hA hd k
 unfold i9 at hd
 split at hd
 ·rename_i ex
  obtain ⟨v,F,rfl,hA⟩:=Ip eu hA ex
  exact ⟨_,_,rfl,⟨(hA.told mem_mid).rd hd.2.1,hd.1,hd.2.1⟩,k _ _ [] H (hA.drop.pushI (.str _)) hd.2.2⟩
 ·exact hd.elim
end
def dV(v:V):DE:=λδ P=>P (.val v) δ
section
variable{X:Cx}{e:Expr}
theorem Y3{v:V}(h:PE X e (tC v)):Em X e (dV v):=by
 refine PE.imp h λσ H Q h=>?_
 obtain ⟨H0,Y,S,T,δ,P,rfl,hS,hA,hd,k⟩:=h
 exact k _ δ v [] S H rfl hS ((hA.push (e:=⟨some v,.val v,[]⟩) ⟨rfl,rfl⟩ (λf _=>⟨λ_ a ha=>(nomatch ha),λ_ a _=>Cj⟩) (λa ha=>(nomatch ha))).tomid) hd
theorem eU{x:Str}{n:String}{pos:Pos}(hg:Gl X x)(hm:X.mg x=none)(hv:Hw x=some (.type n))(hn:x ≠ "__name__" := by decide)(hd:(x == ("__debug__" : Str))=false:=by decide):Em X (.Name x pos) (dV (.ty n)):=Y3 (qM hg hm hv rfl hn hd)
end
theorem vE{ns:List Int}(h:∀x∈ns,0<=x/\x<60):(aP ns).length<=60 :=
 Ba (NdS.len_leI ((Sv ns).imp λ{x y} h=>Int.ne_of_lt h) λe he=>Zr (h e (xZ.mp he)).1 (h e (xZ.mp he)).2) (by decide)
end DL
namespace Nd
open PySem PySem.Spec PyProof.Rows L2
end Nd
namespace Nd
open PySem PySem.Spec PyProof.Rows L2
open AutoSeq1 (wpAny_loadPart')
end Nd
namespace DL
open PySem L2 Nd
def dB(de:DE):DT:=λδ P=>de δ λx δ'=>match x with
 | .dat _ (.bool b)=>P b δ'
 | _=>False
def T3(dt:DT):DT:=λδ P=>dt δ λb δ'=>P (!b) δ'
def O8(dt du:DT):DT:=λδ P=>dt δ λb δ'=>match b with
 | true=>du δ' P
 | false=>P false δ'
def ED(dt du:DT):DT:=λδ P=>dt δ λb δ'=>match b with
 | true=>P true δ'
 | false=>du δ' P
def EX(de:DE):DE:=λδ P=>de δ λx δ'=>match x with
 | .dat _ (.bool b)=>P (.dat .ow (.bool (!b))) δ'
 | _=>False
def ER(da db:DE):DE:=λδ P=>da δ λx δ'=>match x with
 | .dat _ (.bool true)=>db δ' P
 | .dat _ (.bool false)=>P (.dat .ow (.bool false)) δ'
 | _=>False
def ET(dt:DT)(da db:DE):DE:=λδ P=>dt δ λb δ'=>match b with
 | true=>da δ' P
 | false=>db δ' P
def DQ(de:DE):DE:=λδ P=>de δ λx δ'=>match x with
 | .dat _ (.int i)=>P (.dat .ow (.int (-i))) δ'
 | _=>False
section
variable{K:PySem.W.Frag}{de:DE}
theorem FC:∀σ H Q,LT K (dB de) σ H Q->LE K de σ H λx H'=>∃k,x=.bl k/\Q k H':=by
 intro σ H Q h
 obtain ⟨H0,Y,S,T,δ,P,rfl,hS,hA,hd,k⟩:=h
 refine ⟨H0,Y,S,T,δ,_,rfl,hS,hA,hd,λx δ1 v F S1 H1 e1 e2 hA1 p1=>?_⟩
 split at p1
 ·obtain ⟨rfl,_⟩:=(hA1.told mem_mid).bl_inv
  exact ⟨_,rfl,k _ δ1 S1 H1 e1 e2 hA1.drop p1⟩
 ·exact p1.elim
end
section
variable{X:Cx}{a b c e:Expr}{da db de:DE}{dt du:DT}{pos:Pos}{Ih:List Expr}
theorem Xk(h:Em X e de)(he:∀whole,isTrue e X.env whole=(do let v <- whole; standAt e.pos; Pv [v] (truthy v)):=by intro _; rfl):Zg X e (dB de):=PT.imp (bZ h he) FC
theorem Nb{op:CmpOp}{r:R2}{rd:D2}(ho:Ue X (Ge op) r)(o:eZ X.K r rd)(ha:Em X a da)(hb:Em X b db)(hm:Fm op b=false):Zg X (.Compare a [op] [b] pos) (dB (Tz rd da db)):=by
 refine PT.imp (qT ho ha hb hm) λσ H Q h=>?_
 exact op_le o _ _ _ (FC σ H Q h)
theorem i6(ha:Em X a da)(hb:Em X b db):Zg X (.Compare a [.Lt] [b] pos) (dB (Tz rdLt da db)):=Nb Q5 (Ya λ_ _ _=>.bl _) ha hb (Ku _)
theorem BO(ha:Em X a da)(hb:Em X b db):Zg X (.Compare a [.LtE] [b] pos) (dB (Tz rdLe da db)):=Nb L2.op_le (Ya λ_ _ _=>.bl _) ha hb (Ku _)
theorem xH(ha:Em X a da)(hb:Em X b db):Zg X (.Compare a [.Gt] [b] pos) (dB (Tz rdGt da db)):=Nb Q4 (Ya λ_ _ _=>.bl _) ha hb (Ku _)
theorem S9(ha:Em X a da)(hb:Em X b db):Zg X (.Compare a [.GtE] [b] pos) (dB (Tz rdGe da db)):=Nb R9 (Ya λ_ _ _=>.bl _) ha hb (Ku _)
theorem Ji(hu:X.A.units+64<cLine)(ha:Em X a da)(hb:Em X b db):Zg X (.Compare a [.Eq] [b] pos) (dB (Tz (cT false) da db)):=Nb (xU hu) R1 ha hb (Ku _)
theorem Ub(hu:X.A.units+64<cLine)(ha:Em X a da)(hb:Em X b db):Zg X (.Compare a [.NotEq] [b] pos) (dB (Tz (cT true) da db)):=Nb (AK hu) BV ha hb (Ku _)
theorem O9(hu:X.A.units+64<cLine)(ha:Em X a da)(hb:Em X b db)(hm:Fm .In b=false:=by with_unfolding_all rfl):Zg X (.Compare a [.In] [b] pos) (dB (Tz (oA false) da db)):=Nb (W6 hu) R5 ha hb hm
theorem kC(hu:X.A.units+64<cLine)(ha:Em X a da)(hb:Em X b db)(hm:Fm .NotIn b=false:=by with_unfolding_all rfl):Zg X (.Compare a [.NotIn] [b] pos) (dB (Tz (oA true) da db)):=Nb (uU hu) R5 ha hb hm
theorem zS(ha:Em X a da)(hb:Em X b db):Zg X (.Compare a [.Is] [b] pos) (dB (Tz (Yj false) da db)):=Nb wF W7 ha hb (Ku _)
theorem N6(ha:Em X a da)(hb:Em X b db):Zg X (.Compare a [.IsNot] [b] pos) (dB (Tz (Yj true) da db)):=Nb C9 B1 ha hb (Ku _)
theorem Wz(h:Zg X a dt):Zg X (.UnaryOp .Not a pos) (T3 dt):=by
 refine PT.imp (oZ h) λσ H Q h=>?_
 obtain ⟨H0,Y,S,T,δ,P,rfl,hS,hA,hd,k⟩:=h
 exact ⟨H0,Y,S,T,δ,_,rfl,hS,hA,hd,λb δ' S' H' e1 e2 hA' p=>k _ δ' S' H' e1 e2 hA' p⟩
theorem Qe(h:Zg X a dt):W1 X (.BoolOp .And [a] pos) dt:=B8 h
theorem bI(h:Zg X a dt):W1 X (.BoolOp .Or [a] pos) dt:=yF h
theorem Uv(h:Zg X a dt)(hb:W1 X (.BoolOp .And (b::Ih) pos) du):W1 X (.BoolOp .And (a::b::Ih) pos) (O8 dt du):=by
 refine PW.imp (Z4 h hb) λσ H Q h=>?_
 obtain ⟨H0,Y,S,T,δ,P,rfl,hS,hA,hd,k⟩:=h
 refine ⟨H0,Y,S,T,δ,_,rfl,hS,hA,hd,λb δ' S' H' e1 e2 hA' p=>?_⟩
 cases b with
 | true=>exact cX ⟨H0,Y,S',T,δ',P,e1,e2,hA',p,k⟩
 | false=>exact Xf (k _ δ' S' H' e1 e2 hA' p)
theorem Wg(h:Zg X a dt)(hb:W1 X (.BoolOp .Or (b::Ih) pos) du):W1 X (.BoolOp .Or (a::b::Ih) pos) (ED dt du):=by
 refine PW.imp (S6 h hb) λσ H Q h=>?_
 obtain ⟨H0,Y,S,T,δ,P,rfl,hS,hA,hd,k⟩:=h
 refine ⟨H0,Y,S,T,δ,_,rfl,hS,hA,hd,λb δ' S' H' e1 e2 hA' p=>?_⟩
 cases b with
 | true=>exact cX (k _ δ' S' H' e1 e2 hA' p)
 | false=>exact Xf ⟨H0,Y,S',T,δ',P,e1,e2,hA',p,k⟩
theorem Yy(h:W1 X a dt):Zg X a dt:=PW.pt h
theorem U2{op}(h:Em X a da):Em X (.BoolOp op [a] pos) da:=Z8 h
theorem AY(h:Em X a da)(hb:Em X (.BoolOp .And (b::Ih) pos) db):Em X (.BoolOp .And (a::b::Ih) pos) (ER da db):=by
 refine PE.imp (W2 h hb) λσ H Q h=>?_
 obtain ⟨H0,Y,S,T,δ,P,rfl,hS,hA,hd,k⟩:=h
 refine ⟨H0,Y,S,T,δ,_,rfl,hS,hA,hd,λx δ1 v F S1 H1 e1 e2 hA1 p1=>?_⟩
 split at p1
 ·obtain ⟨rfl,_⟩:=(hA1.told mem_mid).bl_inv
  exact ⟨_,rfl,cX ⟨H0,Y,S1,T,δ1,P,e1,e2,hA1.drop,p1,k⟩⟩
 ·obtain ⟨rfl,_⟩:=(hA1.told mem_mid).bl_inv
  exact ⟨_,rfl,Xf (k _ δ1 _ [] S1 H1 e1 e2 (hA1.drop.pushI (.bl _)) p1)⟩
 ·exact p1.elim
theorem T9(h:Em X a da):Em X (.UnaryOp .Not a pos) (EX da):=by
 refine PE.imp (Y9 h) λσ H Q h=>?_
 obtain ⟨H0,Y,S,T,δ,P,rfl,hS,hA,hd,k⟩:=h
 refine ⟨H0,Y,S,T,δ,_,rfl,hS,hA,hd,λx δ1 v F S1 H1 e1 e2 hA1 p1=>?_⟩
 split at p1
 ·obtain ⟨rfl,_⟩:=(hA1.told mem_mid).bl_inv
  exact ⟨_,rfl,k _ δ1 _ [] S1 H1 e1 e2 (hA1.drop.pushI (.bl _)) p1⟩
 ·exact p1.elim
theorem nQ(h:Em X a da):Em X (.UnaryOp .USub a pos) (DQ da):=by
 refine PE.imp (CA Z9 h) λσ H Q h=>?_
 obtain ⟨H0,Y,S,T,δ,P,rfl,hS,hA,hd,k⟩:=h
 refine ⟨H0,Y,S,T,δ,_,rfl,hS,hA,hd,λx δ1 v F S1 H1 e1 e2 hA1 p1=>?_⟩
 split at p1
 ·obtain ⟨rfl,_⟩:=(hA1.told mem_mid).int_inv
  exact ⟨_,rfl,k _ δ1 _ [] S1 H1 e1 e2 (hA1.drop.pushI (.int _)) p1⟩
 ·exact p1.elim
theorem t7(hc:Zg X c dt)(ha:Em X a da)(hb:Em X b db):Em X (.IfExp c a b pos) (ET dt da db):=by
 refine PE.imp (zF hc ha hb) λσ H Q h=>?_
 obtain ⟨H0,Y,S,T,δ,P,rfl,hS,hA,hd,k⟩:=h
 refine ⟨H0,Y,S,T,δ,_,rfl,hS,hA,hd,λb δ' S' H' e1 e2 hA' p=>?_⟩
 cases b with
 | true=>exact cX ⟨H0,Y,S',T,δ',P,e1,e2,hA',p,k⟩
 | false=>exact Xf ⟨H0,Y,S',T,δ',P,e1,e2,hA',p,k⟩
end
theorem PS.impD{X:Cx}{st:Stmt}{t t':TS}(h:PS X st t)(k:∀D σ H,t' D σ H->t D σ H):PS X st t':=λpins s σ H D I q=>h pins s σ H D I (k D σ H q)
theorem cM.impD{X:Cx}{st:List Stmt}{t t':TS}(h:cM X st t)(k:∀D σ H,t' D σ H->t D σ H):cM X st t':=λpins s σ H D I q=>h pins s σ H D I (k D σ H q)
def P4:DB:=λD δ=>D.nx δ
def V5(t u:DB):DB:=λD δ=>t { D with nx:=λδ'=>u D δ' } δ
def AC(de:DE):DB:=λD δ=>de δ D.rt
def O2(de:DE):DB:=λD δ=>de δ λ_ δ'=>D.nx δ'
def GX(dt:DT)(t u:DB):DB:=λD δ=>dt δ λb δ'=>match b with
 | true=>t D δ'
 | false=>u D δ'
def mH(de:DE)(dg:DG):DB:=λD δ=>de δ λx δ'=>dg x δ' D.nx
section
variable{X:Cx}{st:Stmt}{e tg c:Expr}{t u:DB}{Ih:List Stmt}{de:DE}{dg:DG}{dt:DT}{pos:Pos}
theorem Eu:Yx X [] P4:=by
 refine cM.impD Vv λD σ H h=>?_
 obtain ⟨H0,Y,S,T,δ,P,rfl,hS,hT,hA,hd,k1,k2,k3,k4⟩:=h
 exact k1 δ S H hS hA hd
theorem Bt(h1:uV X st t)(h2:Yx X Ih u):Yx X (st::Ih) (V5 t u):=by
 refine cM.impD (Gv h1 h2) λD σ H h=>?_
 obtain ⟨H0,Y,S,T,δ,P,rfl,hS,hT,hA,hd,k1,k2,k3,k4⟩:=h
 exact ⟨H0,Y,S,T,δ,_,rfl,hS,hT,hA,hd,λδ' S' H' e2 hA' p=>⟨H0,Y,S',T,δ',P,rfl,e2,hT,hA',p,k1,k2,k3,k4⟩,k2,k3,k4⟩
theorem Cu(h1:uV X st t):Yx X [st] t:=Lj h1
theorem Ek(he:Em X e de):uV X (.Return (some e) pos) (AC de):=by
 refine PS.impD (Qf he) λD σ H h=>?_
 obtain ⟨H0,Y,S,T,δ,P,rfl,hS,hT,hA,hd,k1,k2,k3,k4⟩:=h
 exact ⟨H0,Y,S,T,δ,_,rfl,hS,hA,hd,λx δ' v F S' H' e1 e2 hA' p=>k2 x δ' v F S' H' e2 hA' p⟩
theorem Hs{a b:List Stmt}(hc:Zg X c dt)(ha:Yx X a t)(hb:Yx X b u):uV X (.If c a b pos) (GX dt t u):=by
 refine PS.impD (eL hc ha hb) λD σ H h=>?_
 obtain ⟨H0,Y,S,T,δ,P,rfl,hS,hT,hA,hd,k1,k2,k3,k4⟩:=h
 refine ⟨H0,Y,S,T,δ,_,rfl,hS,hA,hd,λb δ' S' H' e1 e2 hA' p=>?_⟩
 cases b with
 | true=>exact cX ⟨H0,Y,S',T,δ',P,e1,e2,hT,hA',p,k1,k2,k3,k4⟩
 | false=>exact Xf ⟨H0,Y,S',T,δ',P,e1,e2,hT,hA',p,k1,k2,k3,k4⟩
theorem gV{K:PySem.W.Frag}{te:TE}{g:TG}(h1:∀σ H Q,LE K de σ H Q->te σ H Q)(h2:∀v σ H Q,LG K dg v σ H Q->g v σ H Q):∀D σ H,LS K (mH de dg) D σ H->K9 te g D σ H:=by
 intro D σ H h
 obtain ⟨H0,Y,S,T,δ,P,rfl,hS,hT,hA,hd,k1,k2,k3,k4⟩:=h
 refine h1 _ _ _ ⟨H0,Y,S,T,δ,_,rfl,hS,hA,hd,λx δ' v F S' H' e1 e2 hA' p=>?_⟩
 exact h2 _ _ _ _ ⟨H0,Y,S',T,δ',x,F,P.nx,e1,e2,hA',p,λδ2 S2 H2 e3 hA2 q=>k1 δ2 S2 H2 e3 hA2 q⟩
theorem X3(he:Em X e de)(hg:FA X tg dg)(hs:swapsWithSole [tg] e pos.line X.env=pure false:=by rfl)(hw:swappedStores [tg] e X.env=pure none:=by rfl)(h1:(Ic [tg] X.env).map (·.2)=[Qz tg X.env]:=by rfl):uV X (.Assign [tg] e pos) (mH de dg):=PS.impD (fT he hg hs hw h1) (gV (λ_ _ _ h=>h) λ_ _ _ _ h=>h)
end
def My(i:Nat):DG:=λx δ P=>match x with
 | .dat .pk _=>False
 | .dat _ d=>P ⟨δ.sl.set i (.dat .sh d),δ.n⟩
 | .val v=>P ⟨δ.sl.set i (.val v),δ.n⟩
 | .drw=>P ⟨δ.sl.set i .drw,δ.n⟩
 | .dT kvs=>P ⟨δ.sl.set i (.dT kvs),δ.n⟩
 | _=>False
def aO(i:Nat):DG:=λx δ P=>match x with
 | .dat .ow d=>P ⟨δ.sl.set i (.dat .ow d),δ.n⟩
 | .dat .tp d=>P ⟨δ.sl.set i (.dat .tp d),δ.n⟩
 | _=>False
theorem At.store{K:PySem.W.Frag}{H0 H:Hp}{X:Addr->Prop}{n:Nat}{S T:List Ent}{e:Ent}{i:Nat}(h:At K H0 X n (S++e::T) H):At K H0 X n (S.set i e++T) H:=by
 by_cases hi:i<S.length
 ·have hx:S[i]? = some S[i]:=by simp [hi]
  have p:(S++e::T).Perm (S[i]::(S.set i e++T)):=by
   refine Fz.trans ?_
   rw[<- En,<- En]
   exact (Wi hx).append_right T
  exact (h.perm p).sub (Dv _ _)
 ·rw[List.set_eq_of_length_le (by omega)]
  exact h.drop
theorem oF{S:List Ent}{i:Nat}{v:V}{x:DV}{F:List Addr}:vs (S.set i ⟨some v,x,F⟩)=(vs S).set i (some v):=by
 unfold vs
 rw[La]
theorem oB{S:List Ent}{δ:DS}{i n:Nat}{v:V}{x:DV}{F:List Addr}(h:Sl S δ):Sl (S.set i ⟨some v,x,F⟩) ⟨δ.sl.set i x,n⟩:=by
 unfold Sl at h ⊢
 rw[La,h]
theorem Zs{K:PySem.W.Frag}{i:Nat}:∀v σ H Q,LG K (My i) v σ H Q->Yl i v σ H Q:=by
 intro v σ H Q h
 obtain ⟨H0,Y,S,T,δ,x,F,P,rfl,hS,hA,hd,k⟩:=h
 show Q ((vs S).set i (some v)) H
 have fin:∀y,At K H0 Y δ.n (S++⟨some v,y,F⟩::T) H->P ⟨δ.sl.set i y,δ.n⟩->Q ((vs S).set i (some v)) H:=λy hA' p=>by
  rw[<- oF (x:=y) (F:=F)]
  exact k _ _ H (oB hS) hA'.store p
 unfold My at hd
 split at hd
 ·exact hd.elim
 ·rename_i m d hm
  refine fin _ ?_ hd
  refine (hA.mid.wk ?_).tomid
  cases m <;> first | rfl | exact (hm rfl).elim
 ·exact fin _ hA hd
 ·exact fin _ hA hd
 ·exact fin _ hA hd
 ·exact hd.elim
theorem nZ{K:PySem.W.Frag}{i:Nat}:∀v σ H Q,LG K (aO i) v σ H Q->Yl i v σ H Q:=by
 intro v σ H Q h
 obtain ⟨H0,Y,S,T,δ,x,F,P,rfl,hS,hA,hd,k⟩:=h
 show Q ((vs S).set i (some v)) H
 have fin:∀y,At K H0 Y δ.n (S++⟨some v,y,F⟩::T) H->P ⟨δ.sl.set i y,δ.n⟩->Q ((vs S).set i (some v)) H:=λy hA' p=>by
  rw[<- oF (x:=y) (F:=F)]
  exact k _ _ H (oB hS) hA'.store p
 unfold aO at hd
 split at hd
 ·exact fin _ hA hd
 ·exact fin _ hA hd
 ·exact hd.elim
section
variable{X:Cx}{pos:Pos}
theorem Hz{i:Nat}{x:Str}(hN:X.N.Nodup)(hi:X.N[i]? = some x)(hx:Loc X.env.scope x)(hf:X.fn x=true\/X.env.scope.names.lookup x=some .local:=by first | exact .inl rfl | exact .inr rfl | assumption):FA X (.Name x pos) (My i):=PG.imp (Qn hN hi hx hf) Zs
theorem Dz{i:Nat}{x:Str}{e:Expr}{de:DE}{pos':Pos}(hN:X.N.Nodup)(hi:X.N[i]? = some x)(hx:Loc X.env.scope x)(he:Em X e de)(hs:Ir e (some (.Name x pos')) pos.line X.env=pure false:=by rfl)(hf:X.fn x=true\/X.env.scope.names.lookup x=some .local:=by first | exact .inl rfl | exact .inr rfl | assumption):uV X (.Assign [.Name x pos'] e pos) (mH de (My i)):=PS.impD (Na hN hi hx he hs hf) (gV (λ_ _ _ h=>h) Zs)
theorem Tf{i:Nat}{x:Str}{e:Expr}{de:DE}{pos':Pos}(hN:X.N.Nodup)(hi:X.N[i]? = some x)(hx:Loc X.env.scope x)(he:Em X e de)(hs:Ir e (some (.Name x pos')) pos.line X.env=pure false:=by rfl)(hf:X.fn x=true\/X.env.scope.names.lookup x=some .local:=by first | exact .inl rfl | exact .inr rfl | assumption):uV X (.Assign [.Name x pos'] e pos) (mH de (aO i)):=PS.impD (Na hN hi hx he hs hf) (gV (λ_ _ _ h=>h) nZ)
end
def zX:yA:=λxs δ P=>match xs with
 | []=>P δ
 | _=>False
def pM(g:DG)(gs:yA):yA:=λxs δ P=>match xs with
 | x::r=>g x δ λδ'=>gs r δ' P
 | []=>False
def vP(n:Nat)(gs:yA):DG:=λx δ P=>match x with
 | .dat m (.tuple ds)=>ds.length=n/\gs (ds.map λd=>.dat (Nt m) d) δ P
 | _=>False
theorem At.unpack{K:PySem.W.Frag}{H0 H:Hp}{X:Addr->Prop}{n:Nat}{m:Md}:∀{us:List V} {ds:List Ad} {F:List Addr} {E:List Ent},RdFs K H us ds F->(m=.ow->F.Nodup)->(∀f∈E,Vq ⟨none,.dat (Nt m) .none,F⟩ f)->(∀a∈cells ⟨none,.dat (Nt m) .none,F⟩,H0 a=none)->At K H0 X n E H->∃As:List Ent,As.map Ent.v=us.map some/\As.map Ent.x=ds.map (λd=>.dat (Nt m) d)/\(∀e∈As,∀a∈e.F,a∈F)/\At K H0 X n (As++E) H
 | _,_,_,_,.nil,_,_,_,h=>⟨[],rfl,rfl,λ_ z=>(nomatch z),h⟩
 | _,_,_,E,.cons (x:=x) (d:=d) (F:=F1) (G:=G1) a t,hn,hs,hnew,h=>by
  have cs:∀{G:List Addr} {u:Option V} {d':Ad},(∀b∈G,b∈F1++G1)->∀b∈cells ⟨u,.dat (Nt m) d',G⟩,b∈cells ⟨none,.dat (Nt m) .none,F1++G1⟩:=λ{G u d'} hG b hb=>by
   cases m with
   | ow=>exact hG b hb
   | _=>exact nomatch hb
  have sub:∀{G:List Addr} {u:Option V} {d':Ad} {f:Ent},(∀b∈G,b∈F1++G1)->Vq ⟨none,.dat (Nt m) .none,F1++G1⟩ f->Vq ⟨u,.dat (Nt m) d',G⟩ f:=λ{G u d' f} hG q=>by
   refine ⟨λhp b hb=>q.1 ?_ b (cs hG b hb),λhp b hb z=>q.2 ?_ b hb (hG b z)⟩
   ·rcases hp with hp | hp
    ·exact .inl hp
    ·cases hp
   ·rcases hp with hp | hp
    ·refine .inl ?_
     cases m <;> exact hp
    ·exact .inr hp
  obtain ⟨As,h1,h2,h3,h4⟩:=At.unpack (m:=m) t (λz=>(Fo.mp (hn z)).2.1) (λf hf=>sub (λb hb=>Ai _ hb) (hs f hf)) (λb hb=>hnew b (cs (λb hb=>Ai _ hb) b hb)) h
  refine ⟨⟨some x,.dat (Nt m) d,F1⟩::As,by rw[Ar,Ar,h1],by rw[Ar,Ar,h2],λe he b hb=>?_,?_⟩
  ·rcases Ap.mp he with rfl | he
   ·exact An _ hb
   ·exact Ai _ (h3 e he b hb)
  ·refine h4.push ⟨x,rfl,a,λz=>?_,λz=>?_⟩ (λf hf=>?_) λb hb=>.inl (hnew b (cs (λb hb=>An _ hb) b hb))
   ·cases m with
    | ow=>exact (Fo.mp (hn rfl)).1
    | _=>cases z
   ·cases m <;> cases z
   ·rcases Aw.mp hf with hf | hf
    ·have hx:f.x∈As.map Ent.x:=Ci.mpr ⟨f,hf,rfl⟩
     rw[h2] at hx
     obtain ⟨d',_,ed⟩:=Ci.mp hx
     refine ⟨λhp b hb z=>?_,λhp b hb z=>?_⟩
     ·cases m with
      | ow=>exact (Fo.mp (hn rfl)).2.2 b hb b (h3 f hf b z) rfl
      | _=>exact nomatch hb
     ·cases m with
      | ow=>exact (Fo.mp (hn rfl)).2.2 b z b (h3 f hf b (Gq _ _ hb)) rfl
      | _ =>
       unfold cells at hb
       rw[<- ed] at hb
       exact nomatch hb
    ·exact sub (λb hb=>An _ hb) (hs f hf)
section
variable{X:Cx}{pos:Pos}
theorem J6:M9 X [] zX:=by
 refine AB.imp qP λus σ H Q h=>?_
 obtain ⟨H0,Y,S,T,As,δ,P,rfl,hS,eu,hA,hd,k⟩:=h
 match As,hA,hd,eu with
 | [],hA,hd,eu =>
  cases us with
  | nil=>exact ⟨rfl,k δ S H hS hA hd⟩
  | cons _ _=>cases eu
 | _::_,hA,hd,eu=>exact hd.elim
theorem bD{e:Expr}{es:List Expr}{g:DG}{gs:yA}(h1:FA X e g)(h2:M9 X es gs)(hs:(Ic (e::es) X.env).map (·.2)=Qz e X.env::(Ic es X.env).map (·.2):=by rfl):M9 X (e::es) (pM g gs):=by
 refine AB.imp (cA h1 h2 hs) λus σ H Q h=>?_
 obtain ⟨H0,Y,S,T,As,δ,P,rfl,hS,eu,hA,hd,k⟩:=h
 match As,hA,hd,eu with
 | [],hA,hd,eu=>exact hd.elim
 | ⟨v,x,F⟩::As,hA,hd,eu =>
  cases us with
  | nil=>cases eu
  | cons u us =>
   rw[Ar,Ar] at eu
   obtain ⟨e1,e2⟩:=Le eu
   have e1':v=some u:=e1
   subst e1'
   refine ⟨u,us,rfl,H0,Y,S,As++T,δ,x,F,_,rfl,hS,hA,hd,λδ' S' H' e3 hA' p=>?_⟩
   exact ⟨H0,Y,S',T,As,δ',P,rfl,e3,e2,hA',p,k⟩
theorem AX{es:List Expr}{kk:Nat}{gs:yA}{n:Nat}(hc:X.calm=true)(h:M9 X es gs)(hn:(Ic es X.env).length=n:=by rfl)(hst:(Ic es X.env).findIdx? (·.1)=none:=by rfl):FA X (.Tuple es kk pos) (vP n gs):=by
 refine PG.imp (zE hc h hn hst) λv σ H Q h=>?_
 obtain ⟨H0,Y,S,T,δ,x,F,P,rfl,hS,hA,hd,k⟩:=h
 unfold vP at hd
 split at hd
 ·rename_i m ds
  obtain ⟨a,xs,rfl,ha,ra,hz⟩:=(hA.told mem_mid).tup_inv
  have hm:=hA.mid
  have hp:=Bl.mp hm.sep
  obtain ⟨w,_,_,hnd,_⟩:=hm.ok _ Aa
  have cs:∀b∈cells ⟨none,.dat (Nt m) .none,F⟩,b∈cells ⟨some (.ref a),.dat m (.tuple ds),F⟩:=λb hb=>by
   cases m with
   | ow=>exact hb
   | _=>exact nomatch hb
  obtain ⟨As,h1,h2,h3,h4⟩:=At.unpack (m:=m) (E:=S++T) ra hnd (λf hf=>by
   refine ⟨λhq b hb=>(hp.1 f hf).1 ?_ b (cs b hb),λhq b hb=>(hp.1 f hf).2 ?_ b hb⟩
   ·rcases hq with hq | hq
    ·exact .inl hq
    ·cases hq
   ·rcases hq with hq | hq
    ·refine .inl ?_
     cases m <;> first | rfl | exact hq
    ·exact .inr hq) (λb hb=>by
   rcases hm.new _ Aa b (cs b hb) with z | z
   ·exact z
   ·cases z.2) hA.drop
  refine ⟨a,xs,rfl,Vi.of ha,by rw[ra.len]; exact hd.1,H0,Y,S,T,As,δ,P,rfl,hS,h1,h4.perm ?_,by rw[h2]; exact hd.2,k⟩
  rw[<- Ee,<- Ee]
  exact sA.append_right T
 ·exact hd.elim
end
theorem oJ{K:PySem.W.Frag}{H0 H:Hp}{X:Addr->Prop}{n:Nat}{E:List Ent}(h:At K H0 X n E H):∀{e f:Ent},e∈E->f∈E->e=f\/Vq e f:=by
 have main:∀{E:List Ent},E.Pairwise Vq->∀{e f:Ent},e∈E->f∈E->e=f\/Vq e f:=by
  intro E
  induction E with
  | nil=>intro _ e f he; cases he
  | cons g E ih =>
   intro hp e f he hf
   have hc:=Bl.mp hp
   rcases Ap.mp he with he | he
   ·subst he
    rcases Ap.mp hf with hf | hf
    ·exact .inl hf.symm
    ·exact .inr (hc.1 f hf)
   ·rcases Ap.mp hf with hf | hf
    ·rw[hf]
     exact .inr (hc.1 e he).symm
    ·exact ih hc.2 he hf
 intro e f he hf
 exact main h.sep he hf
abbrev DI:=DS->(Md->List Ad->DS->Prop)->Prop
structure IterOk(K:PySem.W.Frag)(J:It)(hid:List Ent)(m:Md)(ds:List Ad):Prop where
 md:m=.sh\/m=.pk
 hd:∀e∈hid,cells e=[]
 np:m=.sh->∀e∈hid,Pl e.x=false
 go:∀H n i,(∀e∈hid,Gx K H n e)->i<ds.length->J.go i H
 yld:∀H n i x H',(∀e∈hid,Gx K H n e)->i<ds.length->J.yld i H x H'->Nh H H'/\∃d F,ds[i]? = some d/\RdF K H' x d F/\∀a∈F,∃e∈hid,a∈e.F
 stop:∀H n,(∀e∈hid,Gx K H n e)->J.stop ds.length H
def LI(K:PySem.W.Frag)(di:DI):TI:=λσ H R=>∃(H0:Hp) (X:Addr->Prop) (S T:List Ent) (δ:DS) (P:Md->List Ad->DS->Prop),vs S=σ/\Sl S δ/\At K H0 X δ.n (S++T) H/\di δ P /\
 ∀m ds δ' J hid S' H',vs S'=σ->Sl S' δ'->At K H0 X δ'.n (S'++(hid++T)) H'->IterOk K J hid m ds->ds.length<=Ax->P m ds δ'->R J H'
abbrev E2(X:Cx)(tg iter:Expr)(di:DI):Prop:=PI X tg iter (LI X.K di)
theorem PI.imp{X:Cx}{tg e:Expr}{t t':TI}(h:PI X tg e t)(k:∀σ H Q,t' σ H Q->t σ H Q):PI X tg e t':=λpins s σ H Q I q=>h pins s σ H Q I (k σ H Q q)
def Kr:Md->Md
 | .pk=>.pk
 | _=>.sh
theorem iU(m:Md):wk m (Kr m)=true:=by cases m <;> rfl
theorem At.item{K:PySem.W.Frag}{H0 H H':Hp}{X:Addr->Prop}{n:Nat}{S T hid:List Ent}{m:Md}{v:V}{d:Ad}{F:List Addr}(h:At K H0 X n (S++(hid++T)) H)(s:Nh H H')(r:RdF K H' v d F)(hF:∀a∈F,∃e∈hid,a∈e.F)(md:m=.sh\/m=.pk)(hh:∀e∈hid,cells e=[])(np:m=.sh->∀e∈hid,Pl e.x=false):At K H0 X n (S++⟨some v,.dat m d,F⟩::(hid++T)) H':=by
 have h1:=h.grow (n':=n) s (Al _)
 have c0:∀a,a∉cells ⟨some v,.dat m d,F⟩:=λa ha=>by
  rcases md with rfl | rfl <;> exact nomatch ha
 refine (h1.push (e:=⟨some v,.dat m d,F⟩) ⟨v,rfl,r,λz=>?_,λz=>?_⟩ (λf hf=>⟨λ_ a ha=>absurd ha (c0 a),λhq a ha z=>?_⟩) λa ha=>absurd ha (c0 a)).tomid
 ·rcases md with rfl | rfl <;> cases z
 ·rcases md with rfl | rfl <;> cases z
 ·obtain ⟨e,he,ze⟩:=hF a z
  have he':e∈S++(hid++T):=Ai _ (An _ he)
  rcases oJ h he' hf with rfl | q
  ·rw[hh e he] at ha
   cases ha
  ·refine q.2 ?_ a ha ze
   rcases hq with hq | hq
   ·refine .inl (np ?_ e he)
    rcases md with rfl | rfl
    ·rfl
    ·cases hq
   ·exact .inr hq
def IA(de:DE):DI:=λδ P=>de δ λx δ'=>match x with
 | .dat m (.list ds)=>P (Kr m) ds δ'
 | .dat m (.tuple ds)=>P (Kr m) ds δ'
 | _=>False
def jX(da:DA):DI:=λδ P=>da δ λxs δ'=>match xs with
 | [.dat _ (.int j)]=>-1000000<=j/\j<=1000000/\P .sh ((Cc j.toNat).map λi:Nat=>.int i) δ'
 | _=>False
def GM(da:DA):DI:=λδ P=>da δ λxs δ'=>match xs with
 | [.dat m (.list ds)]=>P (Kr m) (ds.zipIdx.map λp=>.tuple [.int p.2,p.1]) δ'
 | _=>False
def FN(da:DA):DI:=λδ P=>da δ λxs δ'=>match xs with
 | [.dat m (.tuple ds)]=>P (Kr m) (ds.zipIdx.map λp=>.tuple [.int p.2,p.1]) δ'
 | _=>False
section
variable{K:PySem.W.Frag}
theorem Tb{H:Hp}{n:Nat}{v:V}{m:Md}{d:Ad}{F:List Addr}{hid:List Ent}(h:∀e∈hid,Gx K H n e)(he:⟨some v,.dat m d,F⟩∈hid):RdF K H v d F:=by
 obtain ⟨w,e1,h1,_⟩:=h _ he
 cases e1
 exact h1
theorem xJ{v:Option V}{m:Md}{d:Ad}{F:List Addr}:cells ⟨v,.dat (Kr m) d,F⟩=[]:=by cases m <;> rfl
theorem yT{v:Option V}{m:Md}{d:Ad}{F:List Addr}:∀e∈[(⟨v,.dat (Kr m) d,F⟩ : Ent)],cells e=[]:=λe he=>by
 rw[Af.mp he]
 exact xJ
theorem T2{v:Option V}{m:Md}{d:Ad}{F:List Addr}:Kr m=.sh->∀e∈[(⟨v,.dat (Kr m) d,F⟩ : Ent)],Pl e.x=false:=λz e he=>by
 rw[Af.mp he]
 show Pl (.dat (Kr m) d)=false
 rw[z]
 rfl
theorem rH(m:Md):Kr m=.sh\/Kr m=.pk:=by cases m <;> simp [Kr]
theorem fE{a:Addr}{m:Md}{ds:List Ad}{F:List Addr}:IterOk K (HQ K a) [⟨some (.ref a),.dat (Kr m) (.list ds),F⟩] (Kr m) ds where
 md:=rH m
 hd:=yT
 np:=T2
 go:=λH n i h hi=>by
  obtain ⟨b,xs,G,e,hb,rb,_,_⟩:=(Tb h Aa).list_inv
  cases e
  have hl:=rb.len
  exact ⟨xs,xs[i],Za.of hb,by simp [show i<xs.length by omega]⟩
 yld:=λH n i x H' h hi y=>by
  obtain ⟨b,xs,G,e,hb,rb,rfl,_⟩:=(Tb h Aa).list_inv
  cases e
  obtain ⟨rfl,y⟩:=y
  have hx:=y xs (Za.of hb)
  obtain ⟨x',F',h1,h2,h3⟩:=rb.get (i:=i) (e:=ds[i]) (by simp [hi])
  rw[hx] at h1
  cases h1
  exact ⟨Nh.refl _,ds[i],F',by simp [hi],h2,λc hc=>⟨_,Aa,Ae _ (h3.subset hc)⟩⟩
 stop:=λH n h=>by
  obtain ⟨b,xs,G,e,hb,rb,_,_⟩:=(Tb h Aa).list_inv
  cases e
  exact ⟨xs,Za.of hb,by rw[rb.len]; exact Al _⟩
theorem vU{a:Addr}{m:Md}{ds:List Ad}{F:List Addr}:IterOk K (FV K a) [⟨some (.ref a),.dat (Kr m) (.tuple ds),F⟩] (Kr m) ds where
 md:=rH m
 hd:=yT
 np:=T2
 go:=λH n i h hi=>by
  obtain ⟨b,xs,e,hb,rb,_⟩:=(Tb h Aa).tup_inv
  cases e
  have hl:=rb.len
  exact ⟨xs,xs[i],Vi.of hb,by simp [show i<xs.length by omega]⟩
 yld:=λH n i x H' h hi y=>by
  obtain ⟨b,xs,e,hb,rb,_⟩:=(Tb h Aa).tup_inv
  cases e
  obtain ⟨rfl,y⟩:=y
  have hx:=y xs (Vi.of hb)
  obtain ⟨x',F',h1,h2,h3⟩:=rb.get (i:=i) (e:=ds[i]) (by simp [hi])
  rw[hx] at h1
  cases h1
  exact ⟨Nh.refl _,ds[i],F',by simp [hi],h2,λc hc=>⟨_,Aa,h3.subset hc⟩⟩
 stop:=λH n h=>by
  obtain ⟨b,xs,e,hb,rb,_⟩:=(Tb h Aa).tup_inv
  cases e
  exact ⟨xs,Vi.of hb,by rw[rb.len]; exact Al _⟩
theorem nU{lo:Int}{n:Nat}:IterOk K (EG lo n) [] .sh ((Cc n).map λi:Nat=>.int (lo+i)) where
 md:=.inl rfl
 hd:=λ_ z=>nomatch z
 np:=λ_ _ z=>nomatch z
 go:=λH k i h hi=>by
  show i<n
  simpa using hi
 yld:=λH k i x H' h hi y=>by
  obtain ⟨rfl,rfl⟩:=y
  rw[Ab,Dx] at hi
  exact ⟨Nh.refl _,.int (lo+i),[],by simp [hi],.int _,λ_ z=>nomatch z⟩
 stop:=λH k h=>by simp [EG]
end
section
variable{X:Cx}{tg e:Expr}{de:DE}{di:DI}
def dL(de:DE):DI:=λδ P=>de δ λx δ'=>match x with
 | .dat m (.list ds)=>P (Kr m) ds δ'
 | _=>False
def ID(de:DE):DI:=λδ P=>de δ λx δ'=>match x with
 | .dat m (.tuple ds)=>P (Kr m) ds δ'
 | _=>False
theorem N7(h:Em X e de):E2 X tg e (dL de):=by
 refine PI.imp (qX h) λσ H R h=>?_
 obtain ⟨H0,Y,S,T,δ,P,rfl,hS,hA,hd,k⟩:=h
 refine ⟨H0,Y,S,T,δ,_,rfl,hS,hA,hd,λx δ1 v F S1 H1 e1 e2 hA1 p1=>?_⟩
 split at p1
 ·obtain ⟨a,xs,G,rfl,ha,ra,rfl,hz⟩:=(hA1.told mem_mid).list_inv
  exact ⟨a,rfl,⟨xs,Za.of ha⟩,k _ _ δ1 _ [_] S1 H1 e1 e2 ((hA1.mid.wk (iU _)).tomid) fE hz p1⟩
 ·exact p1.elim
theorem HZ(h:Em X e de):E2 X tg e (ID de):=by
 refine PI.imp (V1 h) λσ H R h=>?_
 obtain ⟨H0,Y,S,T,δ,P,rfl,hS,hA,hd,k⟩:=h
 refine ⟨H0,Y,S,T,δ,_,rfl,hS,hA,hd,λx δ1 v F S1 H1 e1 e2 hA1 p1=>?_⟩
 split at p1
 ·obtain ⟨a,xs,rfl,ha,ra,hz⟩:=(hA1.told mem_mid).tup_inv
  exact ⟨a,rfl,⟨xs,Vi.of ha⟩,k _ _ δ1 _ [_] S1 H1 e1 e2 ((hA1.mid.wk (iU _)).tomid) vU hz p1⟩
 ·exact p1.elim
variable{es:List Expr}{da:DA}{a b:Expr}{p pos tp:Pos}{elts:List Expr}{kt:Nat}
theorem Mu(hg:Gl X "range")(hm:X.mg "range" = none)(ha:iP X [a] da)(hs:Bf [a] X.env=[(false,eval a X.env)]:=by rfl):E2 X tg (.Call (.Name "range" p) [a] [] pos) (jX da):=by
 refine PI.imp (uS hg hm ha hs) λσ H R h=>?_
 obtain ⟨H0,Y,S,T,δ,P,rfl,hS,hA,hd,k⟩:=h
 refine ⟨H0,Y,S,T,δ,_,rfl,hS,hA,hd,λxs δ' As us S' H' e1 e2 ex eu hA' p=>?_⟩
 split at p
 ·obtain ⟨v,F,rfl,hA2⟩:=Ip eu hA' ex
  obtain ⟨rfl,_⟩:=(hA2.told mem_mid).int_inv
  obtain ⟨j0,j1,pp⟩:=p
  refine ⟨_,rfl,by omega,by omega,k _ _ δ' _ [] S' H' e1 e2 hA2.drop nU (by rw[Ab,Dx]; exact dA (by omega)) ?_⟩
  simpa using pp
 ·exact p.elim
end
def CI(di:DI)(dg:DG)(db:DB):DB:=λD δ=>di δ λm ds δ1=>m=.sh/\∃I:Nat->DS->Prop,I 0 δ1 /\
 (∀i d δ',ds[i]? = some d->I i δ'->dg (.dat .sh d) δ' λδ2=>db { D with nx:=I (i+1),ct:=I (i+1),bk:=D.nx } δ2)/\∀δ',I ds.length δ'->D.nx δ'
section
variable{X:Cx}{tg iter:Expr}{di:DI}{dg:DG}{db:DB}{body:List Stmt}{pos:Pos}
theorem At.dropH{K:PySem.W.Frag}{H0 H:Hp}{X:Addr->Prop}{n:Nat}{S T hid:List Ent}{e:Ent}(h:At K H0 X n (S++e::(hid++T)) H):At K H0 X n (S++e::T) H:=h.sub ((Dd S).append ((Bw hid T).cons₂ e))
theorem Ma(hp:PassesOwn (model X.prog X.w) X.A X.env X.xe)(hc:X.calm=true)(hi:E2 X tg iter di)(hg:FA X tg dg)(hb:Yx X body db)(hs:∀x,Ez iter X.env x=pure x:=by intro _; rfl):uV X (.For tg iter body [] pos) (CI di dg db):=by
 refine PS.impD (AU hp hc hi hg hb hs) λD σ H h=>?_
 obtain ⟨H0,Y,S,T,δ,P,rfl,hS,hT,hA,hd,k1,k2,k3,k4⟩:=h
 refine ⟨H0,Y,S,T,δ,_,rfl,hS,hA,hd,λm ds δ1 J hid S1 H1 e1 e2 hA1 it hz p1=>?_⟩
 obtain ⟨rfl,I,h0,hs,hf⟩:=p1
 rw[<- e1]
 have hT':∀e∈hid++T,Pl e.x=false:=λe he=>by
  rcases Aw.mp he with he | he
  ·exact it.np rfl e he
  ·exact hT e he
 refine ⟨λi q σ H=>q=ds.length - i/\i<=ds.length/\∃S δ,vs S=σ/\Sl S δ/\At X.K H0 Y δ.n (S++(hid++T)) H/\I i δ,⟨ds.length,by simp,Dm _,S1,δ1,rfl,e2,hA1,h0⟩,?_⟩
 (intro i q σ H q_; obtain ⟨rfl,hi,S2,δ2,rfl,e3,hA2,hI⟩ := q_)
 have hid_ok:∀e∈hid,Gx X.K H δ2.n e:=λe he=>hA2.ok e (Ai _ (An _ he))
 by_cases hlt:i<ds.length
 ·refine .inr ⟨it.go H δ2.n i hid_ok hlt,λσ' H'=>∃S δ,vs S=σ'/\Sl S δ/\At X.K H0 Y δ.n (S++(hid++T)) H'/\I (i+1) δ,λσ' H' q=>⟨ds.length - (i+1),by omega,rfl,hlt,q⟩,λx H' y=>?_⟩
  obtain ⟨s1,d,F,h1,h2,h3⟩:=it.yld H δ2.n i x H' hid_ok hlt y
  refine ⟨H0,Y,S2,hid++T,δ2,.dat .sh d,F,_,rfl,e3,hA2.item s1 h2 h3 it.md it.hd it.np,hs i d δ2 h1 hI,λδ3 S3 H3 e4 hA3 p3=>?_⟩
  refine ⟨H0,Y,S3,hid++T,δ3,_,rfl,e4,hT',hA3,p3,λδ4 S4 H4 e5 hA4 p4=>⟨S4,δ4,rfl,e5,hA4,p4⟩,λx δ4 v F S4 H4 e5 hA4 p4=>k2 x δ4 v F S4 H4 e5 hA4.dropH p4,
   λδ4 S4 H4 e5 hA4 p4=>k1 δ4 S4 H4 e5 hA4.dropL p4,λδ4 S4 H4 e5 hA4 p4=>⟨S4,δ4,rfl,e5,hA4,p4⟩⟩
 ·have e:i=ds.length:=by omega
  subst e
  exact .inl ⟨it.stop H δ2.n hid_ok,k1 δ2 S2 H e3 hA2.dropL (hf δ2 hI)⟩
end
end DL
namespace Nd
open PySem PySem.Spec PyProof.Rows L2
end Nd
namespace DL
open PySem L2 Nd
def al(e:Ent):Ent:=match e.x with
 | .dat m d=>⟨e.v,.dat (mI m) d,e.F⟩
 | .val _=>e
 | .scr _=>e
 | _=>⟨e.v,.un,[]⟩
def alD:DV->DV
 | .dat m d=>.dat (mI m) d
 | .val v=>.val v
 | .scr ns=>.scr ns
 | _=>.un
def g0(S:List Ent)(j:Nat):Ent:=match S[j]? with
 | some e=>al e
 | none=>⟨none,.un,[]⟩
def Xc(S:List Ent)(js:List Nat):List Ent:=js.map (g0 S)
def frD1(sl:List DV)(j:Nat):DV:=match sl[j]? with
 | some x=>alD x
 | none=>.un
def frD(sl:List DV)(js:List Nat):List DV:=js.map (frD1 sl)
theorem GJ(e:Ent):(al e).v=e.v:=by
 obtain ⟨v,x,F⟩:=e
 cases x <;> rfl
theorem HA(e:Ent):(al e).x=alD e.x:=by
 obtain ⟨v,x,F⟩:=e
 cases x <;> rfl
theorem lX(S:List Ent)(js:List Nat):vs (Xc S js)=Ft (vs S) js:=by
 unfold vs Xc Ft
 rw[Hl]
 refine Wo λj _=>?_
 rw[Cn]
 simp only[Um,g0]
 cases S[j]? with
 | none=>rfl
 | some e=>exact GJ e
theorem kE{S:List Ent}{δ:DS}(h:Sl S δ)(js:List Nat):(Xc S js).map Ent.x=frD δ.sl js:=by
 unfold Sl at h
 unfold Xc frD
 rw[Hl]
 refine Wo λj _=>?_
 simp only[Um,g0,frD1]
 rw[<- h,Cn]
 cases S[j]? with
 | none=>rfl
 | some e=>exact HA e
section
variable{K:PySem.W.Frag}{H0 H H':Hp}{X:Addr->Prop}{n:Nat}{E S T:List Ent}
theorem lW(e:Ent):cells (al e)=[]:=by
 obtain ⟨v,x,F⟩:=e
 cases x with
 | dat m d=>cases m <;> rfl
 | _=>rfl
theorem At.view1(h:At K H0 X n E H){e:Ent}(he:e∈E):At K H0 X n (al e::E) H:=by
 refine h.push ?_ (λf hf=>⟨λ_ a ha=>(by rw[lW] at ha; cases ha),λhq a ha z=>?_⟩) λa ha=>(by rw[lW] at ha; cases ha)
 ·have:=h.ok e he
  obtain ⟨v,x,F⟩:=e
  cases x with
  | dat m d =>
   obtain ⟨w,h1,h2,_⟩:=this
   exact ⟨w,h1,h2,λz=>(by cases m <;> cases z),λz=>(by cases m <;> cases z)⟩
  | val v=>exact this
  | scr ns=>exact this
  | _=>exact (rfl:([]:List Addr)=[])
 ·obtain ⟨v,x,F⟩:=e
  cases x with
  | dat m d =>
   rcases oJ h he hf with rfl | q
   ·rcases hq with hq | hq
    ·cases m <;> first | cases hq; done | exact nomatch ha
    ·cases hq
   ·refine q.2 ?_ a ha z
    rcases hq with hq | hq
    ·refine .inl ?_
     cases m <;> first | rfl | exact hq
    ·exact .inr hq
  | val v =>
   rw[show F=[] from (h.ok _ he).2] at z
   cases z
  | scr ns =>
   obtain ⟨_,_,hF,_⟩:=h.ok _ he
   rw[show F=[] from hF] at z
   cases z
  | _=>exact nomatch z
theorem At.blank(h:At K H0 X n E H){v:Option V}:At K H0 X n (⟨v,.un,[]⟩::E) H :=
 h.push (rfl:([]:List Addr)=[]) (λf _=>⟨λ_ a ha=>(nomatch ha),λ_ a _=>Cj⟩) (λa ha=>(nomatch ha))
theorem At.view(h:At K H0 X n E H)(hS:∀e∈S,e∈E):∀js:List Nat,At K H0 X n (Xc S js++E) H
 | []=>h
 | j::js=>by
  have ih:=At.view h hS js
  show At K H0 X n (g0 S j::(Xc S js++E)) H
  unfold g0
  cases e:S[j]? with
  | none=>exact ih.blank
  | some x=>exact ih.view1 (Ai _ (hS x (Ay e)))
theorem At.accNew(h:At K H0 X n E H){D:Addr}(hD:H D=Option.none):At K H0 X n (⟨some (.ref D),.acc [],[D]⟩::E) (upd H D (.lst [])):=by
 have s1:=Gu hD (.lst [])
 refine (h.grow (n':=n) s1 (Al _)).push ⟨D,[],[],rfl,rfl,Et,.nil,Dm _,Cj⟩ (λf hf=>?_) λa ha=>?_
 ·have nf:=h.free hD f hf
  refine ⟨λ_ a ha z=>?_,λ_ a ha z=>?_⟩
  ·rw[Af.mp ha] at z
   exact nf z
  ·rw[Af.mp z] at ha
   exact nf (Gq _ _ ha)
 ·rw[Af.mp ha]
  exact .inl (h.new0 hD)
theorem At.accPutG{D:Addr}{ds:List Ad}{v:V}{m:Md}{e:Ad}{F G:List Addr}(h:At K H0 X n (⟨some (.ref D),.acc ds,D::G⟩::⟨some v,.dat m e,F⟩::E) H)(hm:m≠.pk)(hz:ds.length+1<=Ax):∃xs,H D=some (.lst xs)/\xs.length=ds.length/\At K H0 X n (⟨some (.ref D),.acc (ds++[e]),D::(G++F)⟩::E) (upd H D (.lst (xs++[v]))):=by
 obtain ⟨a,xs,G',e1,e0,ha,ra,_,nG⟩:=h.ok _ Aa
 have e1':some (V.ref D)=some (V.ref a):=e1
 cases e1'
 have e0':D::G=D::G':=e0
 cases e0'
 have r:RdF K H v e F:=h.told (Ae _ Aa)
 have hs:=Bl.mp h.sep
 have hs2:=Bl.mp hs.2
 have h1:=(h.sub (Dv _ _)).sub (Dv _ _)
 have npk:Pl (.dat m e)=false:=by cases m <;> first | rfl | exact absurd rfl hm
 have nF:D∉F:=(hs.1 _ Aa).1 (.inr rfl) D Aa
 have kp:∀{F:List Addr},D∉F->Kp F H (upd H D (.lst (xs++[v]))):=λ{F} hF b o q z=>by
  have : b≠D:=by
   rintro rfl
   rw[ha] at q
   cases q
   rcases z with z | z
   ·exact hF z
   ·rcases z with ⟨_,z⟩ | ⟨_,_,z⟩ <;> cases z
  rw[Fd this]
  exact q
 have nD:H0 D=Option.none:=by
  rcases h.new _ Aa D Aa with z | z
  ·exact z
  ·cases z.2
 refine ⟨xs,ha,ra.len,?_⟩
 refine ⟨λf hf=>?_,?_,λf hf=>?_,λb o nx q=>?_,λb o q=>?_,λb hb=>?_⟩
 rotate_right
 ·obtain ⟨z,c,k,f,h1,h2⟩:=h.xd b hb
  refine ⟨z,c,k,f,(Fd ?_).trans h1,h2⟩
  rintro rfl
  exact z nD
 ·rcases Ap.mp hf with rfl | hf
  ·exact ⟨D,xs++[v],G++F,rfl,rfl,Et,(ra.kp (kp nG)).snoc (r.kp (kp nF)),by rw[Be]; exact hz,λz=>(Aw.mp z).elim nG nF⟩
  ·exact (h1.ok f hf).kp (kp ((hs.1 f (Ae _ hf)).1 (.inr rfl) D Aa)) (Al _)
 ·refine Bl.mpr ⟨λf hf=>⟨λhq a ha'=>(hs.1 f (Ae _ hf)).1 (.inr rfl) a ha',λhq a ha' z=>?_⟩,hs2.2⟩
  have z1:=(hs.1 f (Ae _ hf)).2 (.inl rfl) a ha'
  rcases Ap.mp z with z | z
  ·exact z1 (z▸Aa)
  ·rcases Aw.mp z with z | z
   ·exact z1 (Ae _ z)
   ·exact (hs2.1 f hf).2 (.inl npk) a ha' z
 ·rcases Ap.mp hf with rfl | hf
  ·intro a ha'
   rw[Af.mp ha']
   exact .inl nD
  ·exact h1.new f hf
 ·rw[Fd (Fi q nD)]
  exact h.same b o nx q
 ·rw[Fd (Fi q nD)]
  exact h.dom b o q
theorem At.accPut{D:Addr}{ds:List Ad}{v:V}{e:Ad}(h:At K H0 X n (⟨some (.ref D),.acc ds,[D]⟩::E) H)(r:RdF K H v e [])(hz:ds.length+1<=Ax):∃xs,H D=some (.lst xs)/\xs.length=ds.length/\At K H0 X n (⟨some (.ref D),.acc (ds++[e]),[D]⟩::E) (upd H D (.lst (xs++[v]))) :=
 At.accPutG (m:=.ow) (At.pushI (S:=[⟨some (.ref D),.acc ds,[D]⟩]) h r) (by decide) hz
def bP:Bool->Md
 | true=>.ow
 | false=>.tp
theorem At.accGetG{D:Addr}{ds:List Ad}{b:Bool}{G:List Addr}(h:At K H0 X n (⟨some (.ref D),.acc ds,D::G⟩::E) H)(hb:b=true->G=[]):At K H0 X n (⟨some (.ref D),.dat (bP b) (.list ds),D::G⟩::E) H:=by
 obtain ⟨a,xs,G',e1,e0,ha,ra,hz,nG⟩:=h.ok _ Aa
 have e1':some (V.ref D)=some (V.ref a):=e1
 cases e1'
 have e0':D::G=D::G':=e0
 cases e0'
 have hs:=Bl.mp h.sep
 have cs:∀a∈cells ⟨some (.ref D),.dat (bP b) (.list ds),D::G⟩,a=D:=λa ha'=>by
  cases b with
  | true=>rw[hb rfl] at ha'; exact Af.mp ha'
  | false=>exact Af.mp ha'
 refine (h.sub (Dv _ _)).push ⟨_,rfl,.lst ha hz ra,λz=>?_,λ_ a l e=>?_⟩ (λf hf=>⟨λhq a ha'=>?_,λhq a ha'=>(hs.1 f hf).2 (.inl rfl) a ha'⟩) λa ha'=>?_
 ·cases b with
  | true=>rw[hb rfl]; exact Cd.mpr ⟨Cj,Cy⟩
  | false=>cases z
 ·have e:D::G=a::l:=e
  cases e
  exact nG
 ·rw[cs a ha']
  exact (hs.1 f hf).1 (.inr rfl) D Aa
 ·rw[cs a ha']
  rcases h.new _ Aa D Aa with z | z
  ·exact .inl z
  ·cases z.2
theorem At.accGet{D:Addr}{ds:List Ad}(h:At K H0 X n (⟨some (.ref D),.acc ds,[D]⟩::E) H):At K H0 X n (⟨some (.ref D),.dat .ow (.list ds),[D]⟩::E) H:=At.accGetG (b:=true) h λ_=>rfl
end
def jA:DT:=λδ P=>P true δ
def X9(b:Bool)(m:Md)(e:Ad):Prop:=match b with
 | true=>imm e=true
 | false=>m≠.pk
def Pi(b:Bool)(dc:DT)(de:DE)(δ:DS)(yes:Ad->Nat->Prop)(no:Nat->Prop):Prop:=dc δ λc δ2=>match c with
 | true=>de δ2 λy δ3=>match y with
  | .dat m e=>X9 b m e/\yes e δ3.n
  | _=>False
 | false=>no δ2.n
def nV(b:Bool)(di:DI)(js:List Nat)(dc:DT)(de:DE):DE:=λδ P=>di δ λm ds δ1=>∃I:Nat->List Ad->Nat->Prop,I 0 [] δ1.n /\
 (∀i d acc n,ds[i]? = some d->I i acc n->Pi b dc de ⟨.dat m d::frD δ1.sl js,n⟩ (λe n'=>I (i+1) (acc++[e]) n') (λn'=>I (i+1) acc n')) /\
 ∀acc n,I ds.length acc n->P (.dat (bP b) (.list acc)) ⟨δ1.sl,n⟩
def pZ(b:Bool)(di:DI)(js:List Nat)(dc:DT)(de:DE):DE:=λδ P=>di δ λm ds δ1=>∃I:Nat->List Ad->Nat->Prop,I 0 [] δ1.n /\
 (∀i d acc n,ds[i]? = some d->I i acc n->∃d1 d2,d=.tuple [d1,d2]/\Pi b dc de ⟨.dat m d1::.dat m d2::frD δ1.sl js,n⟩ (λe n'=>I (i+1) (acc++[e]) n') (λn'=>I (i+1) acc n')) /\
 ∀acc n,I ds.length acc n->P (.dat (bP b) (.list acc)) ⟨δ1.sl,n⟩
def Nj:DT->DE->DS->(Ad->Nat->Prop)->(Nat->Prop)->Prop:=Pi true
def zN:DI->List Nat->DT->DE->DE:=nV true
def zL:DI->List Nat->DT->DE->DE:=pZ true
section
variable{K:PySem.W.Frag}{H0 H H':Hp}{Y:Addr->Prop}{n:Nat}{E S T:List Ent}
theorem lK{b:Bool}{dc:DT}{de:DE}{δ:DS}{yes:Ad->Nat->Prop}{no:Nat->Prop}{D:Addr}{G:List Addr}{acc:List Ad}{N1:Hp->Prop}{N2:VK}(hS:Sl S δ)(hb:b=true->G=[])(hA:At K H0 Y δ.n (S++⟨some (.ref D),.acc acc,D::G⟩::T) H)(h:Pi b dc de δ yes no)(hz:acc.length+1<=Ax)(k1:∀n' H',At K H0 Y n' (⟨some (.ref D),.acc acc,D::G⟩::T) H'->no n'->N1 H')(k2:∀e n' v H' G',(b=true->G'=[])->(∃xs,H' D=some (.lst xs)/\xs.length=acc.length/\At K H0 Y n' (⟨some (.ref D),.acc (acc++[e]),D::G'⟩::T) (upd H' D (.lst (xs++[v]))))->yes e n'->N2 v H'):LT K dc (vs S) H λc H2=>if c=true then LE K de (vs S) H2 N2 else N1 H2:=by
 refine ⟨H0,Y,S,⟨some (.ref D),.acc acc,D::G⟩::T,δ,_,rfl,hS,hA,h,λc δ2 S2 H2 e1 e2 hA2 p2=>?_⟩
 cases c with
 | false=>exact Xf (k1 _ _ (hA2.sub (Bw _ _)) p2)
 | true =>
  refine cX ⟨H0,Y,S2,⟨some (.ref D),.acc acc,D::G⟩::T,δ2,_,e1,e2,hA2,p2,λy δ3 v F S3 H3 e3 e4 hA3 p3=>?_⟩
  split at p3
  ·rename_i m e
   have r:=hA3.told mem_mid
   cases b with
   | true =>
    obtain rfl:=r.imm p3.1
    obtain rfl:=hb rfl
    exact k2 _ _ _ _ [] (λ_=>rfl) ((hA3.drop.sub (Bw _ _)).accPut r hz) p3.2
   | false =>
    have hA4:At K H0 Y δ3.n (⟨some v,.dat m e,F⟩::⟨some (.ref D),.acc acc,D::G⟩::T) H3:=hA3.sub (Bw _ _)
    exact k2 _ _ _ _ (G++F) (λz=>nomatch z) ((hA4.perm (Ef _ _ _)).accPutG p3.1 hz) p3.2
  ·exact p3.elim
theorem tE{dt:TT}:∀σ H Q,LT K jA σ H Q->gD σ H Q:=by
 intro σ H Q h
 obtain ⟨H0,Y,S,T,δ,P,rfl,hS,hA,hd,k⟩:=h
 exact k true δ S H rfl hS hA hd
theorem pT.imp{X:Cx}{e:List Expr}{t t':TT}(h:pT X e t)(k:∀σ H Q,t' σ H Q->t σ H Q):pT X e t':=λpins s σ H Q I q=>h pins s σ H Q I (k σ H Q q)
theorem B4{b:Bool}{di:DI}{js:List Nat}{dc:DT}{de:DE}:∀σ H Q,LE K (nV b di js dc de) σ H Q->bN (LI K di) js (LT K dc) (LE K de) σ H Q:=by
 intro σ H Q h
 obtain ⟨H0,Y,S,T,δ,P,rfl,hS,hA,hd,k⟩:=h
 refine ⟨H0,Y,S,T,δ,_,rfl,hS,hA,hd,λm ds δ1 J hid S1 H1 e1 e2 hA1 it hz p1=>?_⟩
 obtain ⟨I,h0,hs,hf⟩:=p1
 rw[<- e1]
 intro D hD
 refine ⟨λi q H=>q=ds.length - i/\i<=ds.length/\∃acc n G,(b=true->G=[])/\At K H0 Y n (⟨some (.ref D),.acc acc,D::G⟩::(S1++(hid++T))) H/\acc.length<=i/\I i acc n,⟨ds.length,by simp,Dm _,[],δ1.n,[],λ_=>rfl,hA1.accNew hD,Al _,h0⟩,?_⟩
 (intro i q H q_; obtain ⟨rfl,hi,acc,n,G,hG,hA2,hl,hI⟩ := q_)
 have hid_ok:∀e∈hid,Gx K H n e:=λe he=>hA2.ok e (Ae _ (Ai _ (An _ he)))
 by_cases hlt:i<ds.length
 ·refine .inr ⟨it.go H n i hid_ok hlt,λx H' y=>?_⟩
  obtain ⟨s1,d,F,h1,h2,h3⟩:=it.yld H n i x H' hid_ok hlt y
  have hA3:At K H0 Y n ((⟨some (.ref D),.acc acc,D::G⟩::S1)++⟨some x,.dat m d,F⟩::(hid++T)) H':=At.item (S:=⟨some (.ref D),.acc acc,D::G⟩::S1) hA2 s1 h2 h3 it.md it.hd it.np
  have hA4:=hA3.mid
  have hA5:=At.view (S:=S1) hA4 (λe he=>Ae _ (An _ (Ae _ he))) js
  have hA6:At K H0 Y n ((⟨some x,.dat m d,F⟩::Xc S1 js)++⟨some (.ref D),.acc acc,D::G⟩::(S1++(hid++T))) H':=hA5.mid
  have hS6:Sl (⟨some x,.dat m d,F⟩::Xc S1 js) ⟨.dat m d::frD δ1.sl js,n⟩:=by
   unfold Sl
   rw[Ar,kE e2]
  have hv:vs (⟨some x,.dat m d,F⟩::Xc S1 js)=some x::Ft (vs S1) js:=by
   rw[<- lX]
   rfl
  refine ⟨λH2=>∃m',m'<ds.length - i/\_,λy H3=>∃acc,H3 D=some (.lst acc)/\acc.length<Ax/\∃m',m'<ds.length - i/\_,λH2 q=>q,λy H3 q=>q,?_⟩
  rw[<- hv]
  refine lK hS6 hG hA6 (hs i d acc n h1 hI) (by omega) (λn' H2 hA7 p=>?_) (λe n' v H2 G' hG' hA7 p=>?_)
  ·exact ⟨ds.length - (i+1),by omega,rfl,hlt,acc,n',G,hG,hA7,by omega,p⟩
  ·obtain ⟨xs,g1,g2,g3⟩:=hA7
   exact ⟨xs,g1,by omega,ds.length - (i+1),by omega,rfl,hlt,acc++[e],n',G',hG',g3,by rw[Be]; simp; omega,p⟩
 ·have e:i=ds.length:=by omega
  subst e
  refine .inl ⟨it.stop H n hid_ok,k _ ⟨δ1.sl,n⟩ _ (D::G) S1 H e1 e2 ?_ (hf acc n hI)⟩
  have hA3:=hA2.accGetG hG
  have hA4:At K H0 Y n (⟨some (.ref D),.dat (bP b) (.list acc),D::G⟩::(S1++T)) H:=hA3.sub (((Dd S1).append (Bw hid T)).cons₂ _)
  exact hA4.tomid
theorem xY{b:Bool}{di:DI}{js:List Nat}{dc:DT}{de:DE}:∀σ H Q,LE K (pZ b di js dc de) σ H Q->xA K (LI K di) js (LT K dc) (LE K de) σ H Q:=by
 intro σ H Q h
 obtain ⟨H0,Y,S,T,δ,P,rfl,hS,hA,hd,k⟩:=h
 refine ⟨H0,Y,S,T,δ,_,rfl,hS,hA,hd,λm ds δ1 J hid S1 H1 e1 e2 hA1 it hz p1=>?_⟩
 obtain ⟨I,h0,hs,hf⟩:=p1
 rw[<- e1]
 intro D hD
 refine ⟨λi q H=>q=ds.length - i/\i<=ds.length/\∃acc n G,(b=true->G=[])/\At K H0 Y n (⟨some (.ref D),.acc acc,D::G⟩::(S1++(hid++T))) H/\acc.length<=i/\I i acc n,⟨ds.length,by simp,Dm _,[],δ1.n,[],λ_=>rfl,hA1.accNew hD,Al _,h0⟩,?_⟩
 (intro i q H q_; obtain ⟨rfl,hi,acc,n,G,hG,hA2,hl,hI⟩ := q_)
 have hid_ok:∀e∈hid,Gx K H n e:=λe he=>hA2.ok e (Ae _ (Ai _ (An _ he)))
 by_cases hlt:i<ds.length
 ·refine .inr ⟨it.go H n i hid_ok hlt,λx H' y=>?_⟩
  obtain ⟨s1,d,F,h1,h2,h3⟩:=it.yld H n i x H' hid_ok hlt y
  obtain ⟨d1,d2,rfl,hst⟩:=hs i d acc n h1 hI
  obtain ⟨t,xs,rfl,ht,rt,_⟩:=h2.tup_inv
  cases rt with
  | @cons w1 _ xs _ F1 _ r1 rt =>
   cases rt with
   | @cons w2 _ xs _ F2 G r2 rt =>
    cases rt
    have hA3:At K H0 Y n ((⟨some (.ref D),.acc acc,D::G⟩::S1)++⟨some w1,.dat m d1,F1⟩::(hid++T)) H':=At.item (S:=⟨some (.ref D),.acc acc,D::G⟩::S1) hA2 s1 r1 (λa ha=>h3 a (An _ ha)) it.md it.hd it.np
    have hA3':At K H0 Y n ((⟨some w1,.dat m d1,F1⟩::⟨some (.ref D),.acc acc,D::G⟩::S1)++(hid++T)) H':=hA3.mid
    have hA3'':At K H0 Y n ((⟨some w1,.dat m d1,F1⟩::⟨some (.ref D),.acc acc,D::G⟩::S1)++⟨some w2,.dat m d2,F2⟩::(hid++T)) H':=At.item hA3' (Nh.refl _) r2 (λa ha=>h3 a (Ai _ (An _ ha))) it.md it.hd it.np
    have hA4:At K H0 Y n (⟨some w1,.dat m d1,F1⟩::⟨some w2,.dat m d2,F2⟩::⟨some (.ref D),.acc acc,D::G⟩::(S1++(hid++T))) H':=hA3''.mid.perm (Ef _ _ _)
    have hA5:=At.view (S:=S1) hA4 (λe he=>Ae _ (Ae _ (Ae _ (An _ he)))) js
    have hA6:At K H0 Y n ((⟨some w1,.dat m d1,F1⟩::⟨some w2,.dat m d2,F2⟩::Xc S1 js)++⟨some (.ref D),.acc acc,D::G⟩::(S1++(hid++T))) H':=by
     have z:=hA5.mid
     refine z.perm ?_
     exact (Fz).cons _
    have hS6:Sl (⟨some w1,.dat m d1,F1⟩::⟨some w2,.dat m d2,F2⟩::Xc S1 js) ⟨.dat m d1::.dat m d2::frD δ1.sl js,n⟩:=by
     unfold Sl
     rw[Ar,Ar,kE e2]
    have hv:vs (⟨some w1,.dat m d1,F1⟩::⟨some w2,.dat m d2,F2⟩::Xc S1 js)=some w1::some w2::Ft (vs S1) js:=by
     rw[<- lX]
     rfl
    refine ⟨t,w1,w2,rfl,Vi.of ht,λH2=>∃m',m'<ds.length - i/\_,λy H3=>∃acc,H3 D=some (.lst acc)/\acc.length<Ax/\∃m',m'<ds.length - i/\_,λH2 q=>q,λy H3 q=>q,?_⟩
    rw[<- hv]
    refine lK hS6 hG hA6 hst (by omega) (λn' H2 hA7 p=>?_) (λe n' v H2 G' hG' hA7 p=>?_)
    ·exact ⟨ds.length - (i+1),by omega,rfl,hlt,acc,n',G,hG,hA7,by omega,p⟩
    ·obtain ⟨xs,g1,g2,g3⟩:=hA7
     exact ⟨xs,g1,by omega,ds.length - (i+1),by omega,rfl,hlt,acc++[e],n',G',hG',g3,by rw[Be]; simp; omega,p⟩
 ·have e:i=ds.length:=by omega
  subst e
  refine .inl ⟨it.stop H n hid_ok,k _ ⟨δ1.sl,n⟩ _ (D::G) S1 H e1 e2 ?_ (hf acc n hI)⟩
  have hA3:=hA2.accGetG hG
  have hA4:At K H0 Y n (⟨some (.ref D),.dat (bP b) (.list acc),D::G⟩::(S1++T)) H:=hA3.sub (((Dd S1).append (Bw hid T)).cons₂ _)
  exact hA4.tomid
end
section
variable{X:Cx}{elt iter c:Expr}{x x2 y0:Str}{px px2 pt py pos spos:Pos}{kt i0:Nat}{ifs:List Expr}{scope:Scope}{cl:List (Str×Addr)}{ys:List Str}{js:List Nat}{di:DI}{dc:DT}{de:DE}
theorem Lq:pT X [] (LT X.K jA):=pT.imp yE (tE (dt:=gD))
theorem C4(h:Zg X c dc):pT X [c] (LT X.K dc):=J1 h
theorem Zu(C:CompScope X scope cl x ys js)(hc:X.calm=true)(hi:E2 X (.Name x px) iter di)(ht:∀fp s H,pT (Er X scope cl (x::ys) fp s H) ifs (LT X.K dc))(he:∀fp s H,Em (Er X scope cl (x::ys) fp s H) elt de)(hs:∀x,Ez iter X.env x=pure x:=by intro _; rfl):Em X (.ListComp elt [⟨.Name x px,iter,ifs,0⟩] scope pos) (zN di js dc de):=PE.imp (N0 C hc hi ht he hs) B4
theorem vX(C:CompScope X scope cl x ys js)(own2:yM scope x2)(nd2:(x::x2::ys).Nodup)(hc:X.calm=true)(hi:E2 X (.Tuple [.Name x px,.Name x2 px2] kt pt) iter di)(ht:∀fp s H,pT (Er X scope cl (x::x2::ys) fp s H) ifs (LT X.K dc))(he:∀fp s H,Em (Er X scope cl (x::x2::ys) fp s H) elt de)(hs:∀x,Ez iter X.env x=pure x:=by intro _; rfl):Em X (.ListComp elt [⟨.Tuple [.Name x px,.Name x2 px2] kt pt,iter,ifs,0⟩] scope pos) (zL di js dc de):=PE.imp (t6 C own2 nd2 hc hi ht he hs) xY
def HC(o:Bool)(i:Nat):DG:=match o with
 | true=>aO i
 | false=>My i
theorem FY{K:PySem.W.Frag}{o:Bool}{i:Nat}:∀v σ H Q,LG K (HC o i) v σ H Q->Yl i v σ H Q:=by
 cases o with
 | true=>exact nZ
 | false=>exact Zs
end
end DL
namespace DL
open PySem PySem.Spec PyProof.Rows L2 Nd
section
variable{K:PySem.W.Frag}{H0 H H':Hp}{X:Addr->Prop}{n n':Nat}{E S T:List Ent}
theorem At.pushF(h:At K H0 X n E H){v:V}{d:Ad}{F:List Addr}(r:RdF K H v d F)(nd:F.Nodup)(fr:∀a∈F,∀f∈E,a∉f.F)(f0:∀a∈F,H0 a=none):At K H0 X n (⟨some v,.dat .ow d,F⟩::E) H:=by
 refine h.push ⟨v,rfl,r,λ_=>nd,λz=>nomatch z⟩ (λf hf=>⟨λ_ a ha z=>fr a ha f hf z,λ_ a ha z=>fr a z f hf (Gq _ _ ha)⟩) λa ha=>.inl (f0 a ha)
theorem At.drawn(h:At K H0 X n E H){e:Ent}{dr:Addr}(he:e∈E)(hx:e.x=.drw)(hv:e.v=some (.ref dr))(s:Yi dr H H')(hd:∃c k f,cW H' dr c k f/\0<=k/\k<=(n':Int))(hn:n<=n'):At K H0 X n' E H':=by
 obtain ⟨v,x,F⟩:=e
 have hx':x=.drw:=hx
 subst hx'
 obtain ⟨dr',c0,k0,f0,hv',hF,hd0,_⟩:=h.ok _ he
 have e1:some (V.ref dr)=some (V.ref dr'):=hv.symm.trans hv'
 cases e1
 have hF':F=[dr]:=hF
 subst hF'
 refine ⟨λf hf=>?_,h.sep,h.new,λb o nx q=>?_,λb o q=>?_,λb hb=>?_⟩
 rotate_right
 ·obtain ⟨z,c,k,f,h1,h2,h3⟩:=h.xd b hb
  by_cases hbd:b=dr
  ·subst hbd
   exact ⟨z,hd⟩
  ·exact ⟨z,c,k,f,s _ _ hbd h1,h2,by omega⟩
 ·rcases oJ h he hf with rfl | q
  ·obtain ⟨c,k,fl,h1,h2,h3⟩:=hd
   exact ⟨dr,c,k,fl,hv',rfl,h1,h2,h3⟩
  ·have nf:dr∉f.F:=q.1 (.inr rfl) dr Aa
   refine (h.ok f hf).kp (λb o eb z=>?_) hn
   by_cases hb:b=dr
   ·subst hb
    rcases z with z | z
    ·exact absurd z nf
    ·have hd0':H b=some (.lst _):=hd0
     rw[eb] at hd0'
     cases hd0'
     rcases z with ⟨_,z⟩ | ⟨_,_,z⟩ <;> cases z
   ·exact s b o hb eb
 ·have hb:b≠dr:=by
   rintro rfl
   rcases h.new _ he b Aa with z | z
   ·rw[z] at q; cases q
   ·exact nx z.1
  exact s b o hb (h.same b o nx q)
 ·by_cases hb:b=dr
  ·subst hb
   obtain ⟨c,k,fl,h1,_⟩:=hd
   exact ⟨_,h1⟩
  ·obtain ⟨o',z⟩:=h.dom b o q
   exact ⟨o',s b o' hb z⟩
end
abbrev PF:=List Ad->(Ad->Prop)->Prop
abbrev DF:=List Ad->Nat->(Ad->Nat->Prop)->Prop
def Zt(K:PySem.W.Frag)(pf:PF):Sp:=λus H Q _=>∃(As:List Ent) (n:Nat) (ds:List Ad) (R:Ad->Prop),As.map Ent.v=us.map some/\(∀e∈As,Gx K H n e)/\datas (As.map Ent.x)=some ds/\pf ds R /\
 ∀v d F H',R d->RdF K H' v d F->F.Nodup->(∀a∈F,H a=none)->Nh H H'->Q v H'
def Zp(K:PySem.W.Frag)(df:DF):Sp:=λus H Q _=>∃(dr:Addr) (ws:List V) (As:List Ent) (n:Nat) (ds:List Ad) (R:Ad->Nat->Prop),us=.ref dr::ws/\As.map Ent.v=ws.map some/\(∀e∈As,Gx K H n e)/\(∀e∈As,dr∉e.F)/\(∃c k f,cW H dr c k f/\0<=k/\k<=(n:Int))/\datas (As.map Ent.x)=some ds/\df ds n R /\
 ∀v d F n' H',n<=n'->R d n'->RdF K H' v d F->F.Nodup->(∀a∈F,H a=none)->(∃c k f,cW H' dr c k f/\0<=k/\k<=(n':Int))->Yi dr H H'->Q v H'
def wL(pf:PF)(da:DA):DE:=λδ P=>da δ λxs δ1=>match datas xs with
 | some ds=>pf ds λd=>P (.dat .ow d) δ1
 | none=>False
def oN(i:Nat)(df:DF)(da:DA):DE:=λδ P=>match δ.sl[i]? with
 | some .drw=>da δ λxs δ1=>match δ1.sl[i]? with
  | some .drw=>match datas xs with
   | some ds=>df ds δ1.n λd n'=>P (.dat .ow d) ⟨δ1.sl,n'⟩
   | none=>False
  | _=>False
 | _=>False
section
variable{X:Cx}{CX:nA}{k:Nat}{f:Addr}{fd:Bz}{ps:List Str}{pf:PF}{df:DF}{E:XK}{x:Str}{p pos:Pos}{e e0:Expr}{es:List Expr}{da:DA}
theorem Hm(F:FnOk X.prog X.w X.K X.mg X.base CX k f fd ps (Zt X.K pf))(hr:Room k X.A)(hg:Gl X x)(hm:X.mg x=some (.ref f))(hk:PySem.W.keepIn X.K (.ref f)=true)(hb:Binds X.K fd ps [])(hx:Mc CX X E)(ha:iP X (e::es) da)(hdb:(x == ("__debug__" : Str))=false:=by decide)(he:Bf (e::es) X.env=(false,eval e X.env)::Bf es X.env:=by rfl)(hpl:(Gn pos (Bf es X.env)).any (·.1)=false:=by rfl):Em X (.Call (.Name x p) (e::es) [] pos) (wL pf da):=by
 refine PE.imp (Vx F hr hg hm hk hb .nil hx ha hdb he hpl) λσ H Q h=>?_
 obtain ⟨H0,Y,S,T,δ,P,rfl,hS,hA,hd,kk⟩:=h
 refine ⟨H0,Y,S,T,δ,_,rfl,hS,hA,hd,λxs δ' As us S' H' e1 e2 ex eu hA' p=>?_⟩
 subst ex
 cases q:datas (As.map Ent.x) with
 | none=>rw[q] at p; exact p.elim
 | some ds =>
  rw[q] at p
  rw[El]
  refine ⟨As,δ'.n,ds,_,eu,λe he=>hA'.ok e (Ai _ (An _ he)),q,p,λv d F H'' r rd nd fr s=>?_⟩
  exact kk _ δ' v F S' H'' e1 e2 (((hA'.dropL.grow s (Al _)).pushF rd nd (λa ha=>hA'.dropL.free (fr a ha)) (λa ha=>hA'.new0 (fr a ha))).tomid) r
theorem EN(F:FnOk X.prog X.w X.K X.mg X.base CX k f fd ps (Zt X.K pf))(hr:Room k X.A)(hg:Gl X x)(hm:X.mg x=some (.ref f))(hk:PySem.W.keepIn X.K (.ref f)=true)(hb:Binds X.K fd ps [])(hx:Mc CX X E)(hdb:(x == ("__debug__" : Str))=false:=by decide):Em X (.Call (.Name x p) [] [] pos) (wL pf Y6):=by
 refine PE.imp (vQ F hr hg hm hk hb .nil hx hdb) λσ H Q h=>?_
 obtain ⟨H0,Y,S,T,δ,P,rfl,hS,hA,hd,kk⟩:=h
 show Zt X.K pf [] H Q E
 refine ⟨[],δ.n,[],_,rfl,λe he=>(nomatch he),rfl,hd,λv d F H'' r rd nd fr s=>?_⟩
 exact kk _ δ v F S H'' rfl hS (((hA.grow s (Al _)).pushF rd nd (λa ha=>hA.free (fr a ha)) (λa ha=>hA.new0 (fr a ha))).tomid) r
theorem Es{i:Nat}(F:FnOk X.prog X.w X.K X.mg X.base CX k f fd ps (Zp X.K df))(hr:Room k X.A)(hg:Gl X x)(hm:X.mg x=some (.ref f))(hk:PySem.W.keepIn X.K (.ref f)=true)(hb:Binds X.K fd ps [])(hx:Mc CX X E)(h0:PE X e0 (kF i))(ha:iP X es da)(hdb:(x == ("__debug__" : Str))=false:=by decide)(he:Bf (e0::es) X.env=(false,eval e0 X.env)::Bf es X.env:=by rfl)(hpl:(Gn pos (Bf es X.env)).any (·.1)=false:=by rfl):Em X (.Call (.Name x p) (e0::es) [] pos) (oN i df da):=by
 refine PE.imp (Vx F hr hg hm hk hb .nil hx (Eb h0 ha he) hdb he hpl) λσ H Q h=>?_
 obtain ⟨H0,Y,S,T,δ,P,rfl,hS,hA,hd,kk⟩:=h
 unfold oN at hd
 split at hd
 case h_2=>exact hd.elim
 rename_i hsl0
 have main:∀w,(vs S)[i]? = some (some w)->LA X.K da (vs S) H λxs H2=>Zp X.K df ((w::xs)++[]) H2 Q E:=λw hw=>by
  refine ⟨H0,Y,S,T,δ,_,rfl,hS,hA,hd,λxs δ' As us S' H' e1 e2 ex eu hA' p=>?_⟩
  subst ex
  split at p
  ·rename_i hsl
   obtain ⟨ent,s1,s2⟩:=Lh e2 hsl
   have hm':ent∈S':=Ay s1
   have hv:ent.v=some w:=by
    have:=Qv s1
    rw[e1,hw] at this
    exact (Br this).symm
   obtain ⟨u,z,F⟩:=ent
   have s2':z=.drw:=s2
   subst s2'
   have hE:(⟨u,.drw,F⟩ : Ent)∈S'++(As++T):=An _ hm'
   obtain ⟨dr,c0,k0,f0,hv0,hF0,hd0,hk0,hk1⟩:=hA'.ok _ hE
   have ew:some w=some (V.ref dr):=hv.symm.trans hv0
   cases ew
   have hF':F=[dr]:=hF0
   subst hF'
   cases q:datas (As.map Ent.x) with
   | none=>rw[q] at p; exact p.elim
   | some ds =>
    rw[q] at p
    rw[El]
    refine ⟨dr,us,As,δ'.n,ds,_,rfl,eu,λe he=>hA'.ok e (Ai _ (An _ he)),λe he=>?_,⟨c0,k0,f0,hd0,hk0,hk1⟩,q,p,λv d F n' H'' hn r rd nd fr hdr s=>?_⟩
    ·obtain ⟨_,_,hp⟩ := Dw.mp hA'.sep
     exact (hp _ hm' e (An _ he)).1 (.inr rfl) dr Aa
    ·have hA2:=hA'.dropL.drawn (An _ hm') rfl hv s hdr hn
     exact kk _ ⟨δ'.sl,n'⟩ v F S' H'' e1 e2 ((hA2.pushF rd nd (λa ha=>hA'.dropL.free (fr a ha)) (λa ha=>hA'.new0 (fr a ha))).tomid) r
  ·exact p.elim
 obtain ⟨ent,s1,s2⟩:=Lh hS hsl0
 have hm':ent∈S:=Ay s1
 obtain ⟨u,z,F⟩:=ent
 have s2':z=.drw:=s2
 subst s2'
 obtain ⟨dr,c0,k0,f0,hv0,_⟩:=hA.ok _ (An _ hm')
 have hw:(vs S)[i]? = some (some (.ref dr)):=(Qv s1).trans (congrArg some hv0)
 exact ⟨_,hw,main _ hw⟩
def Vo:Sp:=λvs H Q _=>∃c:Int,vs=[.int c]/\∀(p:Addr) (c':Int) (f:Bool) (H':Hp),H p=none->cW H' p c' 0 f->Nh H H'->Q (.ref p) H'
def xT(da:DA):DE:=λδ P=>da δ λxs δ1=>match xs with
 | [.dat _ (.int _)]=>P .drw δ1
 | _=>False
theorem yV(F:FnOk X.prog X.w X.K X.mg X.base CX k f fd ps Vo)(hr:Room k X.A)(hg:Gl X x)(hm:X.mg x=some (.ref f))(hk:PySem.W.keepIn X.K (.ref f)=true)(hb:Binds X.K fd ps [])(hx:Mc CX X E)(ha:iP X (e::es) da)(hdb:(x == ("__debug__" : Str))=false:=by decide)(he:Bf (e::es) X.env=(false,eval e X.env)::Bf es X.env:=by rfl)(hpl:(Gn pos (Bf es X.env)).any (·.1)=false:=by rfl):Em X (.Call (.Name x p) (e::es) [] pos) (xT da):=by
 refine PE.imp (Vx F hr hg hm hk hb .nil hx ha hdb he hpl) λσ H Q h=>?_
 obtain ⟨H0,Y,S,T,δ,P,rfl,hS,hA,hd,kk⟩:=h
 refine ⟨H0,Y,S,T,δ,_,rfl,hS,hA,hd,λxs δ' As us S' H' e1 e2 ex eu hA' p=>?_⟩
 split at p
 ·obtain ⟨v,F,rfl,hA2⟩:=Ip eu hA' ex
  obtain ⟨rfl,_⟩:=(hA2.told mem_mid).int_inv
  refine ⟨_,rfl,λq c' fl H'' nq hdr s=>?_⟩
  have h3:=hA2.drop.grow (n':=δ'.n) s (Al _)
  refine kk _ δ' _ [q] S' H'' e1 e2 ((h3.push (e:=⟨some (.ref q),.drw,[q]⟩) ⟨q,_,0,fl,rfl,rfl,hdr,by decide,by omega⟩ (λf hf=>?_) λa ha=>?_).tomid) p
  ·have nf:=hA2.drop.free nq f hf
   refine ⟨λ_ a ha z=>?_,λ_ a ha z=>?_⟩
   ·rw[Af.mp ha] at z
    exact nf z
   ·rw[Af.mp z] at ha
    exact nf (Gq _ _ ha)
  ·rw[Af.mp ha]
   exact .inl (hA2.new0 nq)
 ·exact p.elim
end
def args0(ds:List Ad)(k:Nat):List DV:=ds.map (λd=>.dat .sh d)++Ib k .un
def cC(e:Ent):Ent:=match e.x with
 | .dat _ d=>⟨e.v,.dat .sh d,e.F⟩
 | _=>e
theorem Hd:∀{xs:List DV} {ds:List Ad},datas xs=some ds->xs.length=ds.length
 | [],ds,h=>by cases h; rfl
 | x::xs,ds,h=>by
  cases x with
  | dat m d =>
   cases q:datas xs with
   | none=>simp [datas,q] at h
   | some es =>
    simp [datas,q] at h
    subst h
    rw[Bq,Bq,Hd q]
  | _=>cases h
theorem Rm:∀{As:List Ent} {ds:List Ad},datas (As.map Ent.x)=some ds->(As.map cC).map Ent.x=ds.map (λd=>.dat .sh d)
 | [],ds,h=>by cases h; rfl
 | ⟨v,x,F⟩::As,ds,h=>by
  rw[Ar] at h
  cases x with
  | dat m d =>
   cases q:datas (As.map Ent.x) with
   | none=>simp [datas,q] at h
   | some es =>
    simp [datas,q] at h
    subst h
    rw[Ar,Ar,Ar,Rm q]
    rfl
  | _=>cases h
theorem Xd:∀{As:List Ent} {ds:List Ad},datas (As.map Ent.x)=some ds->∀e∈As,∃m d,e.x=.dat m d
 | [],ds,h,e,he=>nomatch he
 | ⟨v,x,F⟩::As,ds,h,e,he=>by
  rw[Ar] at h
  cases x with
  | dat m d =>
   cases q:datas (As.map Ent.x) with
   | none=>simp [datas,q] at h
   | some es =>
    rcases Ap.mp he with rfl | he
    ·exact ⟨m,d,rfl⟩
    ·exact Xd q e he
  | _=>cases h
theorem M7(As:List Ent):(As.map cC).map Ent.v=As.map Ent.v:=by
 rw[Hl]
 refine Wo λe _=>?_
 obtain ⟨v,x,F⟩:=e
 cases x <;> rfl
def Hi(k:Nat):List Ent:=Ib k ⟨none,.un,[]⟩
theorem Zj{As:List Ent}{ds:List Ad}(q:datas (As.map Ent.x)=some ds)(k:Nat):∀e∈As.map cC++Hi k,cells e=[]/\V6 e.x=false:=λe he=>by
 rcases Aw.mp he with he | he
 ·obtain ⟨f,hf,rfl⟩:=Ci.mp he
  obtain ⟨m,d,hx⟩:=Xd q f hf
  obtain ⟨v,x,F⟩:=f
  have hx':x=.dat m d:=hx
  subst hx'
  exact ⟨rfl,rfl⟩
 ·rw[(Ij.mp he).2]
  exact ⟨rfl,rfl⟩
theorem Pn{α:Type}{R:α->α->Prop}:∀{l:List α},(∀a∈l,∀b∈l,R a b)->l.Pairwise R
 | [],_=>Fb
 | a::l,h=>Bl.mpr ⟨λb hb=>h a Aa b (Ae _ hb),Pn λx hx y hy=>h x (Ae _ hx) y (Ae _ hy)⟩
theorem qG{K:PySem.W.Frag}{H:Hp}{n:Nat}{As:List Ent}{ds:List Ad}(q:datas (As.map Ent.x)=some ds)(ok:∀e∈As,Gx K H n e)(k:Nat):∀e∈As.map cC++Hi k,Gx K H n e:=λe he=>by
 rcases Aw.mp he with he | he
 ·obtain ⟨f,hf,rfl⟩:=Ci.mp he
  obtain ⟨m,d,hx⟩:=Xd q f hf
  have o:=ok f hf
  obtain ⟨v,x,F⟩:=f
  have hx':x=.dat m d:=hx
  subst hx'
  obtain ⟨w,h1,h2,_⟩:=o
  exact ⟨w,h1,h2,λz=>(nomatch z),λz=>(nomatch z)⟩
 ·rw[(Ij.mp he).2]
  exact (rfl:([]:List Addr)=[])
theorem Lf{α β:Type}(f:α->β)(k:Nat)(a:α):(Ib k a).map f=Ib k (f a):=by
 rw[List.map_replicate]
def retE(R:Ad->Prop):DEnds where
 nx:=λ_=>R .none
 rt:=λx _=>∃d,x=.dat .ow d/\R d
def retW(n:Nat)(R:Ad->Nat->Prop):DEnds where
 nx:=λδ=>n<=δ.n/\R .none δ.n
 rt:=λx δ=>n<=δ.n/\∃d,x=.dat .ow d/\R d δ.n
section
variable{P:Bh}{w:World}{K:PySem.W.Frag}{mg:Str->Option Value}{base:Heap}
theorem Oc{x qual:Str}{st:Stmt}{f:Addr}{fd:Bz}{N ps:List Str}{k:Nat}{pf:PF}{db:DB}(F:Fun K x qual st f fd)(S:FnScope N ps (Bj st))(hb:∀(cdv:Value) (A:Cr) (outer:List Env) (s:Ah) (H:Hp) (E:XK),Room k (A.deeper (Ed qual (Bj st) s.heap.objs.size f cdv))->Yx (Hq Ik P w K mg base N qual (Bj st) f cdv A outer s H E).nox (Hy st) db)(h:∀ds R,pf ds R->ds.length=ps.length/\db (retE R) ⟨args0 ds (N.length - ps.length),0⟩):FnOk P w K mg base Ik (k+1) f fd ps (Zt K pf):=by
 refine F.ok S (λvs H Q E z=>?_) λcdv A outer s H us Q E hr z=>?_
 ·obtain ⟨As,n,ds,R,eu,ok,q,hp,_⟩:=z
  have l1:=(h ds R hp).1
  have l2:=Hd q
  rw[Ab] at l2
  have l3:=congrArg Fs eu
  rw[Ab,Ab] at l3
  omega
 ·obtain ⟨As,n,ds,R,eu,ok,q,hp,k1⟩:=z
  obtain ⟨l1,hd⟩:=h ds R hp
  have l2:=Hd q
  rw[Ab] at l2
  have l3:=congrArg Fs eu
  rw[Ab,Ab] at l3
  refine ⟨_,hb cdv A outer s H E hr,H,λ_=>False,As.map cC++Hi (N.length - ps.length),[],⟨args0 ds (N.length - ps.length),0⟩,retE R,?_,?_,λ_ z=>(nomatch z),?_,hd,λδ' S' H' e1 hA p=>?_,λx δ' v F' S' H' e1 hA p=>?_,λ_ _ _ _ _ p=>p.elim,λ_ _ _ _ _ p=>p.elim⟩
  ·unfold vs L2.start Hi
   rw[Bd,M7,eu,Lf,show us.length=ps.length by omega]
  ·unfold Sl args0 Hi
   rw[Bd,Rm q,Lf]
  ·rw[El]
   have hs:=Zj q (N.length - ps.length)
   refine ⟨λe he=>?_,Pn λa ha b hb'=>⟨λhq c hc=>?_,λhq c hc=>?_⟩,λe he a ha=>?_,λb o _ e=>e,λb o e=>⟨o,e⟩,λb hb=>hb.elim⟩
   ·have:=qG q ok (N.length - ps.length) e he
    obtain ⟨v,x,F⟩:=e
    cases x with
    | drw=>exact absurd (hs _ he).2 (by show ¬ (true=false); decide)
    | _=>exact this
   ·rw[(hs a ha).1] at hc; cases hc
   ·rw[(hs b hb').1] at hc; cases hc
   ·rw[(hs e he).1] at ha; cases ha
  ·exact k1 .non .none [] H' p .non Cy (λ_ z=>(nomatch z)) λb o e=>hA.same b o (λz=>z) e
  ·obtain ⟨d,rfl,r⟩:=p
   rw[show S'++[(⟨some v,.dat .ow d,F'⟩ : Ent)]=S'++⟨some v,.dat .ow d,F'⟩::[] from rfl] at hA
   obtain ⟨u,e2,rd,nd,_⟩:=hA.ok _ mem_mid
   cases e2
   refine k1 v d F' H' r rd (nd rfl) (λa ha=>?_) λb o e=>hA.same b o (λz=>z) e
   rcases hA.new _ mem_mid a ha with z | z
   ·exact z
   ·exact z.1.elim
theorem Vr{x qual:Str}{st:Stmt}{f:Addr}{fd:Bz}{N ps:List Str}{p0:Str}{k:Nat}{df:DF}{db:DB}(F:Fun K x qual st f fd)(S:FnScope N (p0::ps) (Bj st))(hb:∀(cdv:Value) (A:Cr) (outer:List Env) (s:Ah) (H:Hp) (E:XK),Room k (A.deeper (Ed qual (Bj st) s.heap.objs.size f cdv))->Yx (Hq Ik P w K mg base N qual (Bj st) f cdv A outer s H E).nox (Hy st) db)(h:∀ds n R,df ds n R->ds.length=ps.length/\db (retW n R) ⟨.drw::args0 ds (N.length - (p0::ps).length),n⟩):FnOk P w K mg base Ik (k+1) f fd (p0::ps) (Zp K df):=by
 refine F.ok S (λvs H Q E z=>?_) λcdv A outer s H us Q E hr z=>?_
 ·obtain ⟨dr,ws,As,n,ds,R,rfl,eu,ok,nd,hdr,q,hp,_⟩:=z
  have l1:=(h ds n R hp).1
  have l2:=Hd q
  rw[Ab] at l2
  have l3:=congrArg Fs eu
  rw[Ab,Ab] at l3
  rw[Bq,Bq]
  omega
 ·obtain ⟨dr,ws,As,n,ds,R,rfl,eu,ok,ndr,hdr,q,hp,k1⟩:=z
  obtain ⟨l1,hd⟩:=h ds n R hp
  have l2:=Hd q
  rw[Ab] at l2
  have l3:=congrArg Fs eu
  rw[Ab,Ab] at l3
  -- what the end tells of the draws: they stand in an old cell
  have kZ:∀{E':List Ent} {n':Nat} {H':Hp},At K H (·=dr) n' E' H'->∀b o,b≠dr->H b=some o->H' b=some o:=λhA b o nb e=>hA.same b o nb e
  refine ⟨_,hb cdv A outer s H E hr,H,(·=dr),⟨some (.ref dr),.drw,[dr]⟩::(As.map cC++Hi (N.length - (p0::ps).length)),[],⟨.drw::args0 ds (N.length - (p0::ps).length),n⟩,retW n R,?_,?_,λ_ z=>(nomatch z),?_,hd,λδ' S' H' e1 hA p=>?_,λx δ' v F' S' H' e1 hA p=>?_,λ_ _ _ _ _ p=>p.elim,λ_ _ _ _ _ p=>p.elim⟩
  ·unfold vs L2.start Hi
   rw[Ar,Bd,M7,eu,Lf,Bq,Bq,show ws.length=ps.length by omega]
   rfl
  ·unfold Sl args0 Hi
   rw[Ar,Bd,Rm q,Lf]
  ·rw[El]
   have hs:=Zj q (N.length - (p0::ps).length)
   have hsub:∀e∈As.map cC++Hi (N.length - (p0::ps).length),dr∉e.F:=λe he=>by
    rcases Aw.mp he with he | he
    ·obtain ⟨f,hf,rfl⟩:=Ci.mp he
     obtain ⟨v,x,F⟩:=f
     have:=ndr _ hf
     cases x <;> exact this
    ·rw[(Ij.mp he).2]
     exact Cj
   refine ⟨λe he=>?_,Bl.mpr ⟨λb hb'=>⟨λhq c hc=>?_,λhq c hc=>?_⟩,Pn λa ha b hb'=>⟨λhq c hc=>?_,λhq c hc=>?_⟩⟩,λe he a ha=>?_,λb o _ e=>e,λb o e=>⟨o,e⟩,λb hb=>?_⟩
   rotate_right
   ·subst hb
    obtain ⟨c,kk,fl,z1,z2⟩:=hdr
    exact ⟨λz=>(by rw[show H b=some _ from z1] at z; cases z),c,kk,fl,z1,z2⟩
   ·rcases Ap.mp he with rfl | he
    ·obtain ⟨c,kk,fl,z1,z2,z3⟩:=hdr
     exact ⟨dr,c,kk,fl,rfl,rfl,z1,z2,z3⟩
    ·exact qG q ok _ e he
   ·rw[Af.mp hc]
    exact hsub b hb'
   ·rw[(hs b hb').1] at hc; cases hc
   ·rw[(hs a ha).1] at hc; cases hc
   ·rw[(hs b hb').1] at hc; cases hc
   ·rcases Ap.mp he with rfl | he
    ·rw[Af.mp ha]
     exact .inr ⟨rfl,rfl⟩
    ·rw[(hs e he).1] at ha; cases ha
  ·exact k1 .non .none [] δ'.n H' p.1 p.2 .non Cy (λ_ z=>(nomatch z)) (hA.xd dr rfl).2 (kZ hA)
  ·obtain ⟨hn,d,rfl,r⟩:=p
   rw[show S'++[(⟨some v,.dat .ow d,F'⟩ : Ent)]=S'++⟨some v,.dat .ow d,F'⟩::[] from rfl] at hA
   obtain ⟨u,e2,rd,nd,_⟩:=hA.ok _ mem_mid
   cases e2
   refine k1 v d F' δ'.n H' hn r rd (nd rfl) (λa ha=>?_) (hA.xd dr rfl).2 (kZ hA)
   rcases hA.new _ mem_mid a ha with z | z
   ·exact z
   ·cases z.2
end
end DL
namespace L2
open PySem PySem.Spec PyProof.Rows
def j3(H:Hp):Prop:=∀b,H b=none\/(∃o xs,H b=some (.frz o (.lst xs)))\/∃ps,H b=some (.tbl ps)
def jV(tabs:List (Addr×Addr×Str))(H:Hp):Hp:=λb=>match tabs.find? (λr=>r.2.1 == b) with | some t=>some (.tbl #[.str t.2.2 0]) | none=>H b
theorem Ut{tabs:List (Addr×Addr×Str)}{H:Hp}{b:Addr}{t:Addr×Addr×Str}(h:tabs.find? (λr=>r.2.1 == b)=some t):jV tabs H b=some (.tbl #[.str t.2.2 0]):=by unfold jV; rw[h]
theorem Kw{tabs:List (Addr×Addr×Str)}{H:Hp}{b:Addr}(h:tabs.find? (λr=>r.2.1 == b)=none):jV tabs H b=H b:=by unfold jV; rw[h]
def gM(q:Bh)(K:PySem.W.Frag):Prop:=∃tabs:List (Addr×Addr×Str),(∀t∈tabs,∃x d,(recsOf q).find? (λe=>e.name == x)=some d/\PySem.W.tabIn K x=some (t.1,t.2.1))/\(∀t∈tabs,∀t'∈tabs,t.2.1=t'.2.1->t=t') /\
 (∀x∈Wh,∀c P,PySem.W.tabIn K x=some (c,P)->(c,P,X6 x)∈tabs)/\∀t∈tabs,K.lookup t.2.1=none
theorem B0{x:Str}(hx:x∈Wh):x = "often" \/ x = "cut_by" := by
 rcases Ap.mp hx with h | hx
 ·exact .inl h
 ·exact .inr (Af.mp hx)
theorem sH{q:Bh}{K:PySem.W.Frag}(h1:PySem.W.tabIn K "often" = none)(h2:PySem.W.tabIn K "cut_by" = none):gM q K:=by
 refine ⟨[],λ_ z=>(nomatch z),λ_ z=>(nomatch z),λx hx c P e=>?_,λ_ z=>(nomatch z)⟩
 rcases B0 hx with rfl | rfl
 ·rw[h1] at e; cases e
 ·rw[h2] at e; cases e
theorem uM{P:Bh}{w:World}{K:PySem.W.Frag}{mg mb:Str->Option Value}{CX:nA}{k:Nat}{fa a:Addr}{fd:Bz}{x:Str}{sp:Sp}{s₁:Ah}{vs:List Value}{ns:List Int}(tabs:List (Addr×Addr×Str))(hT:∀t∈tabs,PySem.W.CodeHd s₁.heap t.1 t.2.1/\s₁.heap.get? t.2.1=some (PySem.W.tabObj #[]))(hu:∀t∈tabs,∀t'∈tabs,t.2.1=t'.2.1->t=t')(hL:∀x∈Wh,∀c P,PySem.W.tabIn K x=some (c,P)->(c,P,X6 x)∈tabs)(hnt:∀t∈tabs,K.lookup t.2.1=none)(hbm:∃bm ob,mg "__builtins__" = some (.ref bm)/\bm≠Vc/\s₁.heap.get? bm=some ob/\ob.cls=.type "module" /\ ob.dict=some Vc/\ob.data=.plain)(KX:K.In s₁.heap)(hns:s₁.heap.Ns Bv mg)(hb:s₁.heap.Ns Vc mb)(hbb:∀x:Str,x ≠ "__name__" -> mb x=Hw x)(hlim:s₁.heap.NoLimit)(hg:s₁.gens=#[])(ha:s₁.heap.get? a=some { cls:=.type "list",data:=.seq vs.toArray })(hi:Nw vs ns)(hl:ns.length<=Ax)(hr:Room k Zc)(F:∀base:Heap,K.In base->base.Ns Bv mg->FnOk P w K mg base CX k fa fd [x] sp)(hbind:∀(s:Ah) (u:Value),BindsTo s fd ⟨[u],[]⟩ [(x,u)])(hsp:∀H:Hp,j3 H->DL.KL K H a (ns.map V.int)->sp [.ref a] H (λv _=>v=.bl true) λ_ _ _=>False)(hCX:∀H e s',CX [] H s₁ (λ_ _ _=>False) e s'->False):Hv (model P w) Zc (.call (.ref fa) ⟨[.ref a],[]⟩) (λr s'=>r=.ok (.ret (.bool true))/\OldK s₁.heap s'.heap/\s'.os=s₁.os/\Py s'.gens) s₁:=by
 have rv:=dR hi
 have lenV:=hi.length
 -- from an abstract heap in which nothing but the script may be tracked
 have core:∀H:Hp,j3 H->DL.KL K H a (ns.map V.int)->Xg P w H s₁.heap->(∀b,H b≠none->b=a\/∃t∈tabs,b=t.2.1)->(H a≠none->K.lookup a=none)->(∀t∈tabs,Q3 H t.2.1 t.2.2) ->
   Hv (model P w) Zc (.call (.ref fa) ⟨[.ref a],[]⟩) (λr s'=>r=.ok (.ret (.bool true))/\OldK s₁.heap s'.heap/\s'.os=s₁.os/\Py s'.gens) s₁:=by
  intro H hO hS hok hA hK hTH
  have base_of:∀{b:Addr} {o:Obj},s₁.heap.get? b=some o->H b=none->(cV s₁.heap H).get? b=some o:=λe n=>xN e n
  have noA:∀{b:Addr} {o:Obj} {es:Array DictEntry} {ep:Nat},s₁.heap.get? b=some o->o.data=.dict es ep->H b=none:=λ{b o es ep} e d=>by
   cases q:H b with
   | none=>rfl
   | some u =>
    rcases hA b (by rw[q]; simp) with e' | ⟨t,ht,e'⟩
    ·subst e'
     rw[ha] at e; cases e
     have d':Data.seq vs.toArray _=Data.dict es ep:=d
     cases d'
    ·rw[e',(hT t ht).2] at e; cases e
     cases d
  have nsK:∀{b:Addr} {m:Str->Option Value},s₁.heap.Ns b m->(cV s₁.heap H).Ns b m:=λ{b m} ⟨o,es,ep,e,d,r⟩=>⟨o,es,ep,base_of e (noA e d),d,r⟩
  have hKb:K.In (cV s₁.heap H):=λb o e=>base_of (KX b o e) (by
   cases q:H b with
   | none=>rfl
   | some u =>
    rcases hA b (by rw[q]; simp) with e' | ⟨t,ht,e'⟩
    ·subst e'
     rw[hK (by rw[q]; simp)] at e; cases e
    ·rw[e',hnt t ht] at e; cases e)
  have tI:∀{b:Addr} {o:Obj},s₁.heap.get? b=some o->o.cls≠.none->o.cls≠.type "list" -> H b=none:=λ{b o} e d d2=>by
   cases q:H b with
   | none=>rfl
   | some u =>
    rcases hA b (by rw[q]; simp) with e' | ⟨t,ht,e'⟩
    ·subst e'
     rw[ha] at e; cases e
     exact absurd rfl d2
    ·rw[e',(hT t ht).2] at e; cases e
     exact absurd rfl d
  have hTb:wC K mg (cV s₁.heap H) H:=λx hx c P e=>by
   have ht:=hL x hx c P e
   obtain ⟨bm,ob,b1,b2,b3,b4,b5,b6⟩:=hbm
   obtain ⟨⟨o,us,file,tf,flags,tg,inF,text,tt,e1,r1,r2⟩,hP⟩:=hT _ ht
   refine ⟨⟨o,us,file,tf,flags,tg,inF,text,tt,base_of e1 (tI e1 (by rw[r1]; nofun) (by rw[r1]; simp)),r1,r2⟩,⟨bm,ob,b1,b2,λz=>?_,λz=>?_,base_of b3 (tI b3 (by rw[b4]; nofun) (by rw[b4]; simp)),b4,b5,b6⟩,hTH _ ht⟩
   ·obtain ⟨o',es,ep,e',d,_⟩:=hns
    rw[<- z,b3] at e'; cases e'; rw[b6] at d; cases d
   ·have hP:s₁.heap.get? P=_:=hP
    rw[<- z,b3] at hP; cases hP; cases b4
  have hM:Mod K mg (cV s₁.heap H):=⟨hKb,nsK hns,⟨mb,nsK hb,hbb⟩,let ⟨mc,h1,h2⟩:=hlim; ⟨mc,nsK h1,h2⟩⟩
  have e0:Env0 P w K mg (cV s₁.heap H) Zc [] s₁ H:=⟨rfl,hM,λb o e=>J3 e,Nat.le_of_eq (sP _ _),trivial,λb hb=>absurd (show b∈([]:List Addr) from hb) (by simp),hok,.of_eq hg,hTb⟩
  refine Je ((F _ hKb (nsK hns)).run Zc [] s₁ H ⟨[.ref a],[]⟩ [.ref a] [.ref a] _ _ hr e0 (hbind s₁ (.ref a)) (.cons rfl .nil) (hsp H hO hS)) λr s' h=>?_
  cases r with
  | error e=>exact (hCX H e s' h).elim
  | ok fl =>
   cases fl with
   | next=>exact Fv h
   | brk=>exact Fv h
   | cont=>exact Fv h
   | ret u =>
    obtain ⟨v,H',os,bare,un,hok',r',q⟩:=h
    have q':v=.bl true:=q
    subst q'
    obtain rfl:u=Value.bool true:=r'
    have old:∀b o,s₁.heap.get? b=some o->s'.heap.get? b=some o\/∃t∈tabs,b=t.2.1:=λb o e=>by
     cases q:H b with
     | none=>exact .inl (un.keep b o e q (by intro z; exact absurd (show b∈([]:List Addr) from z) (by simp)) (by simp))
     | some u =>
      rcases hO b with z | ⟨ob,xs,z⟩ | ⟨ps,z⟩
      ·rw[q] at z; cases z
      ·have z2:=un.frzs b ob _ z
       obtain ⟨e1,_⟩:=hok b _ z
       obtain ⟨e2,_⟩:=hok' b _ z2
       rw[e] at e1; cases e1
       exact .inl e2
      ·rcases hA b (by rw[q]; simp) with e' | h'
       ·obtain ⟨_,e1,_⟩:=hok b _ z
        rw[e',ha] at e1; cases e1
       ·exact .inr h'
    have grown:∀t∈tabs,∃ps,s'.heap.get? t.2.1=some (PySem.W.tabObj ps):=λt ht=>by
     obtain ⟨ps,t0,h3,_⟩:=hTH t ht
     obtain ⟨more,h5⟩:=un.tbls _ _ h3
     obtain ⟨qs,e1,_⟩:=hok' _ _ h5
     exact ⟨qs,e1⟩
    refine ⟨rfl,⟨λb o e=>?_,λb o e=>?_⟩,os,bare⟩
    ·rcases old b o e with z | ⟨t,ht,rfl⟩
     ·exact .inl z
     ·obtain ⟨ps,hP⟩:=grown t ht
      have e2:=(hT t ht).2
      rw[e] at e2
      cases e2
      exact .inr (.inl ⟨((hT t ht).1.tab (hT t ht).2).isCodeTable,rfl,#[],ps,rfl,by rw[Array.empty_append]; exact hP⟩)
    ·rcases old b o e with z | ⟨t,ht,rfl⟩
     ·exact ⟨_,z⟩
     ·obtain ⟨ps,hP⟩:=grown t ht
      exact ⟨_,hP⟩
 have tabH:∀(t:Addr×Addr×Str),t∈tabs->tabs.find? (λr=>r.2.1 == t.2.1)=some t:=λt ht=>by
  cases q:tabs.find? (λr=>r.2.1 == t.2.1) with
  | none=>exact absurd (List.find?_eq_none.mp q t ht) (by simp)
  | some r=>exact congrArg some (hu r (Pt q) t ht (by have:=Tu q; simpa using this))
 have neA:∀t∈tabs,t.2.1≠a:=λt ht z=>by
  have e:=(hT t ht).2
  rw[z,ha] at e; cases e
 have all:∀H:Hp,(∀b,H b=none\/∃o xs,H b=some (.frz o (.lst xs)))->(∀b,H b≠none->b=a)->(H a≠none->K.lookup a=none)->DL.KL K H a (ns.map V.int)->Xg P w H s₁.heap ->
   Hv (model P w) Zc (.call (.ref fa) ⟨[.ref a],[]⟩) (λr s'=>r=.ok (.ret (.bool true))/\OldK s₁.heap s'.heap/\s'.os=s₁.os/\Py s'.gens) s₁:=by
  intro H h1 h2 h3 h4 h5
  refine core (jV tabs H) (λb=>?_) ?_ (λb u z=>?_) (λb z=>?_) (λz=>?_) λt ht=>?_
  ·cases q:tabs.find? (λr=>r.2.1 == b) with
   | some t=>exact .inr (.inr ⟨_,Ut q⟩)
   | none =>
    rcases h1 b with z | ⟨o,xs,z⟩
    ·exact .inl (by rw[Kw q]; exact z)
    ·exact .inr (.inl ⟨o,xs,by rw[Kw q]; exact z⟩)
  ·have na:tabs.find? (λr=>r.2.1 == a)=none:=u7.mpr λt ht z=>neA t ht (by simpa using z)
   rcases h4 with ⟨o,h⟩ | h
   ·exact .inl ⟨o,by rw[Kw na]; exact h⟩
   ·exact .inr h
  ·cases q:tabs.find? (λr=>r.2.1 == b) with
   | some t =>
    rw[Ut q] at z
    cases z
    have eb:t.2.1=b:=by have:=Tu q; simpa using this
    exact ⟨#[],by rw[<- eb]; exact (hT t (Pt q)).2,by simp [TriplesOk],λpos v y=>by simp [codeAmong] at y⟩
   | none =>
    rw[Kw q] at z
    rcases h1 b with y | ⟨o,xs,y⟩
    ·rw[z] at y; cases y
    ·rw[z] at y
     cases y
     exact h5 b _ z
  ·cases q:tabs.find? (λr=>r.2.1 == b) with
   | some t=>exact .inr ⟨t,Pt q,by have:=Tu q; exact (by simpa using this : t.2.1=b).symm⟩
   | none =>
    rw[Kw q] at z
    exact .inl (h2 b z)
  ·have na:tabs.find? (λr=>r.2.1 == a)=none:=u7.mpr λt ht z=>neA t ht (by simpa using z)
   rw[Kw na] at z
   exact h3 z
  ·exact ⟨#[.str t.2.2 0],0,Ut (tabH t ht),rfl⟩
 cases hk:K.lookup a with
 | some o =>
  -- the script is one of the module's own objects
  have e:=KX a o hk
  rw[ha] at e
  cases e
  exact all (λ_=>none) (λ_=>.inl rfl) (λb z=>absurd rfl z) (λz=>absurd rfl z) (.inr ⟨vs.toArray,_,hk,by rw[Aq,lenV]; exact hl,by simpa using rv⟩) (λb u z=>by have z':(none:Option HO)=some u:=z; cases z')
 | none =>
  refine all (λb=>if b=a then some (.frz { cls:=.type "list",data:=.seq vs.toArray } (.lst (ns.map V.int))) else none) (λb=>?_) (λb z=>?_) (λ_=>hk) (.inl ⟨{ cls:=.type "list",data:=.seq vs.toArray },if_pos rfl⟩) (λb u z=>?_)
  ·by_cases hb:b=a
   ·exact .inr ⟨_,_,if_pos hb⟩
   ·exact .inl (if_neg hb)
  ·by_cases hb:b=a
   ·exact hb
   ·exact absurd (if_neg hb) z
  ·by_cases hb:b=a
   ·have z':=(if_pos hb).symm.trans z
    cases z'
    subst hb
    exact ⟨ha,by rw[Ab]; exact hl,vs,_,rv,ha⟩
   ·have z':=(if_neg hb).symm.trans z
    cases z'
theorem walk_ofD{l:PySem.W.OpenLaw}{n k:Nat}{q:Bh}{loose:List Str}{XP:(Str->Option Value)->Heap->Prop}{YP:World->Heap->Prop}{d:DefRec}{K:Params->PySem.W.Frag}{CX:World->nA}{sp:World->Sp}{x:Str}(hn:l.most=some n)(hn2:n<=Ax)(hdf:d.params.defaults=[])(hr:Room k Zc)(hY:∀(w:World) (h:Heap),YP w h->(K w.params).In h)(F:∀(w:World) (mg:Str->Option Value) (fa:Addr) (h:Heap),(K w.params).In h->h.Ns Bv mg->mg d.name=some (.ref fa)->(gM q (K w.params))/\∃fd:Bz,(∀(s:Ah) (u:Value),BindsTo s fd ⟨[u],[]⟩ [(x,u)])/\∀base:Heap,(K w.params).In base->base.Ns Bv mg->FnOk l.prog w (K w.params) mg base (CX w) k fa fd [x] (sp w))(hsp:∀(w:World) (H:Hp) (a:Addr) (ns:List Int),ns.length<=n->j3 H->DL.KL (K w.params) H a (ns.map V.int)->sp w [.ref a] H (λv _=>v=.bl true) λ_ _ _=>False)(hCX:∀(w:World) (H:Hp) (s:Ah) (e:Value) (s':Ah),CX w [] H s (λ_ _ _=>False) e s'->False):PySem.W.WalkO q loose XP YP l.row.toRowW d [] (λf vs=>PySem.call f vs):=by
 refine Att.attach_call hn hdf λw s₀ s₁ mg mb fa o pm cd doc a vs ns G Y ho hd hcd hmg hobj hints hlen hg=>?_
 have KX:=hY w _ Y
 obtain ⟨⟨tabs,t1,t2,t3,t4⟩,fd,hb,hF⟩:=F w mg fa _ KX G.T.g hmg
 exact uM tabs (λt ht=>by
  obtain ⟨x,d,h1,h2⟩:=t1 t ht
  exact PySem.W.tab_of G.T KX h1 h2) t2 t3 t4 G.T.bmain KX G.T.g G.T.b G.T.builtins G.T.nolimit hg hobj hints (Ba hlen hn2) hr hF hb (λH hO hS=>hsp w H a ns hlen hO hS) λH e s'=>hCX w H s₁ e s'
end L2
namespace DL
open PySem PySem.Spec PyProof.Rows L2 Nd
def npk:List DV->Bool
 | []=>true
 | .dat .pk _::_=>false
 | _::xs=>npk xs
theorem wN:∀{S:List Ent} {sl:List DV},S.map Ent.x=sl->npk sl=true->∀e∈S,Pl e.x=false
 | [],_,_,_,e,he=>nomatch he
 | ⟨v,x,F⟩::S,_,h,hn,e,he=>by
  subst h
  rw[Ar] at hn
  have : Pl x=false/\npk (S.map Ent.x)=true:=by
   cases x with
   | dat m d=>cases m <;> first | exact ⟨rfl,hn⟩ | cases hn
   | _=>exact ⟨rfl,hn⟩
  rcases Ap.mp he with rfl | he
  ·exact this.1
  ·exact wN rfl this.2 e he
def own1:Md->Bool
 | .ow=>true
 | .tp=>true
 | _=>false
section
variable{K:PySem.W.Frag}{H0 H:Hp}{X:Addr->Prop}{n:Nat}{E:List Ent}
theorem At.write{v:Option V}{m:Md}{ds es:List Ad}{a:Addr}{F G:List Addr}{ys:List V}(h:At K H0 X n (⟨v,.dat m (.list ds),a::F⟩::E) H)(ho:own1 m=true)(hv:v=some (.ref a))(np:∀e∈E,Pl e.x=false)(r:RdFs K H ys es G)(hG:G.Sublist F)(hz:es.length<=Ax):At K H0 X n (⟨v,.dat m (.list es),a::G⟩::E) (upd H a (.lst ys)):=by
 obtain ⟨w,e1,rd,hn,ht⟩:=h.ok _ Aa
 obtain ⟨b,xs,G0,e2,ha,ra,eF,_⟩:=rd.list_inv
 have eF':a::F=b::G0:=eF
 cases eF'
 have hs:=Bl.mp h.sep
 have naF:a∉F:=by
  cases m with
  | ow=>exact (Cd.mp (hn rfl)).1
  | tp=>exact ht rfl a F rfl
  | sh=>cases ho
  | pk=>cases ho
 have ca:a∈cells ⟨v,.dat m (.list ds),a::F⟩:=by
  cases m <;> first | exact Aa | cases ho
 have kp:∀{F':List Addr},a∉F'->Kp F' H (upd H a (.lst ys)):=λ{F'} hF b o q z=>by
  have : b≠a:=by
   rintro rfl
   rw[ha] at q
   cases q
   rcases z with z | z
   ·exact hF z
   ·rcases z with ⟨_,z⟩ | ⟨_,_,z⟩ <;> cases z
  rw[Fd this]
  exact q
 have n0:H0 a=none:=by
  rcases h.new _ Aa a ca with z | z
  ·exact z
  ·cases z.2
 have cs:∀c∈cells ⟨v,.dat m (.list es),a::G⟩,c∈cells ⟨v,.dat m (.list ds),a::F⟩:=λc hc=>by
  cases m with
  | ow =>
   rcases Ap.mp hc with z | z
   ·exact Ap.mpr (.inl z)
   ·exact Ap.mpr (.inr (hG.subset z))
  | tp=>exact hc
  | sh=>cases ho
  | pk=>cases ho
 have hsub:∀c∈a::G,c∈a::F:=λc hc=>by
  rcases Ap.mp hc with z | z
  ·exact Ap.mpr (.inl z)
  ·exact Ap.mpr (.inr (hG.subset z))
 have naG:a∉G:=λz=>naF (hG.subset z)
 refine ⟨λf hf=>?_,?_,λf hf=>?_,λb o nx q=>?_,λb o q=>?_,λb hb=>?_⟩
 ·rcases Ap.mp hf with rfl | hf
  ·refine ⟨.ref a,hv,.lst Et hz (r.kp (kp naG)),λz=>?_,λz c l e=>?_⟩
   ·exact Cd.mpr ⟨naG,(Cd.mp (hn z)).2.sublist hG⟩
   ·cases e
    exact naG
  ·exact (h.ok f (Ae _ hf)).kp (kp ((hs.1 f hf).1 (.inl (np f hf)) a ca)) (Al _)
 ·refine Bl.mpr ⟨λf hf=>⟨λhq c hc=>(hs.1 f hf).1 (.inl (np f hf)) c (cs c hc),λhq c hc z=>(hs.1 f hf).2 (.inl ?_) c hc (hsub c z)⟩,hs.2⟩
  cases m <;> first | rfl | cases ho
 ·rcases Ap.mp hf with rfl | hf
  ·exact λc hc=>h.new _ Aa c (cs c hc)
  ·exact h.new f (Ae _ hf)
 ·rw[Fd (Fi q n0)]
  exact h.same b o nx q
 ·rw[Fd (Fi q n0)]
  exact h.dom b o q
 ·obtain ⟨z,c,k,f,h1,h2⟩:=h.xd b hb
  refine ⟨z,c,k,f,(Fd ?_).trans h1,h2⟩
  rintro rfl
  exact z n0
end
theorem Ks{α:Type}:∀{l:List α} {i:Nat} {x:α},l[i]? = some x->l.Perm (x::l.eraseIdx i)
 | [],i,x,h=>by simp at h
 | z::l,0,x,h=>by
  simp at h
  subst h
  exact Kf _
 | z::l,i+1,x,h=>by
  have ih:=Ks (l:=l) (i:=i) (x:=x) (by simpa using h)
  rw[List.eraseIdx_cons_succ]
  exact (ih.cons z).trans (Ef x z _)
theorem uR{α:Type}{l:List α}{i:Nat}{x y:α}(h:l[i]? = some x):(l.set i y).Perm (y::l.eraseIdx i):=by
 have hlt:=(Av.mp h).1
 have q:=Ks (l:=l.set i y) (i:=i) (x:=y) (by rw[Pw]; simp [hlt])
 rw[List.eraseIdx_set_eq] at q
 exact q
theorem aD{K:PySem.W.Frag}{H0 H:Hp}{X:Addr->Prop}{S T:List Ent}{δ:DS}{i:Nat}{m:Md}{ds es:List Ad}(hS:Sl S δ)(hT:∀e∈T,Pl e.x=false)(hA:At K H0 X δ.n (S++T) H)(hi:δ.sl[i]? = some (.dat m (.list ds)))(ho:own1 m=true)(np:npk δ.sl=true):∃a xs G,(vs S)[i]? = some (some (.ref a))/\H a=some (.lst xs)/\RdFs K H xs ds G/\ds.length<=Ax/\∀ys G',RdFs K H ys es G'->G'.Sublist G->es.length<=Ax->∃S',vs S'=vs S/\Sl S' ⟨δ.sl.set i (.dat m (.list es)),δ.n⟩/\At K H0 X δ.n (S'++T) (upd H a (.lst ys)):=by
 obtain ⟨ent,e2,e3⟩:=Lh hS hi
 have hm:ent∈S:=Ay e2
 obtain ⟨u,x,F⟩:=ent
 have e3':x=.dat m (.list ds):=e3
 subst e3'
 obtain ⟨v,hv,rd,_⟩:=hA.ok _ (An _ hm)
 obtain ⟨a,xs,G,rfl,ha,ra,eF,hz⟩:=rd.list_inv
 have eF':F=a::G:=eF
 subst eF'
 refine ⟨a,xs,G,by rw[Qv e2]; exact congrArg some hv,ha,ra,hz,λys G' r hG hz'=>?_⟩
 have hn:=wN hS np
 have pm:(S++T).Perm (⟨u,.dat m (.list ds),a::G⟩::(S.eraseIdx i++T)):=by
  exact (Ks e2).append_right T
 have h1:=(hA.perm pm).write (es:=es) (ys:=ys) ho hv (λe he=>?_) r hG hz'
 ·refine ⟨S.set i ⟨u,.dat m (.list es),a::G'⟩,?_,?_,h1.perm ?_⟩
  ·unfold vs
   rw[La]
   apply Zd
   intro j
   rw[Pw]
   split
   ·rename_i hij
    subst hij
    rw[Cn,e2]
    split
    ·rfl
    ·rename_i hj
     rw[Ab] at hj
     exact absurd (Av.mp e2).1 hj
   ·rfl
  ·unfold Sl at hS ⊢
   rw[La,hS]
  ·exact ((uR e2).append_right T).symm
 ·rcases Aw.mp he with he | he
  ·exact hn e ((List.eraseIdx_sublist S i).subset he)
  ·exact hT e he
def iK(i:Nat)(de:DE):DB:=λD δ=>match δ.sl[i]? with
 | some (.dat _ (.list _))=>de δ λy δ1=>match δ1.sl[i]?,y with
  | some (.dat m (.list ds)),.dat _ e=>own1 m=true/\npk δ1.sl=true/\imm e=true/\ds.length<1000000/\D.nx ⟨δ1.sl.set i (.dat m (.list (ds++[e]))),δ1.n⟩
  | _,_=>False
 | _=>False
section
variable{X:Cx}{o e:Expr}{de:DE}{apos cpos pos:Pos}{i:Nat}
theorem Kt(ho:PE X o (kF i))(he:Em X e de)(hbase:Nu o "append" X.env (eval o X.env)=eval o X.env:=by rfl)
  (hfew:((Gn cpos (Bf [e] X.env)).all (λx=>!x.1) && (backToKw cpos (Sj [] X.env)).all (λx=>x.1.isSome)
   && decide (([e]:List Expr).length+([]:List Nv).length+(if ([]:List Nv).isEmpty then 0 else 1)<30))=true:=by rfl)
  (hline:(apos.endLine == cpos.line)=true:=by rfl) (hs:Bf [e] X.env=(false,eval e X.env)::Bf [] X.env:=by rfl) (hplain:(Gn cpos (Bf [] X.env)).any (·.1)=false:=by rfl)
  (hsw:Ir (.Call (.Attribute o "append" apos) [e] [] cpos) none pos.line X.env=pure false:=by rfl) :
  uV X (.Expr (.Call (.Attribute o "append" apos) [e] [] cpos) pos) (iK i de):=by
 refine PS.impD (rR (mL PySem.F.plainAttrs_list PySem.F.slot_list_append PySem.F.type_list_append Pg ho (Eb he Jk hs) hbase hfew hline hs hplain) hsw) λD σ H h=>?_
 obtain ⟨H0,Y,S,T,δ,P,rfl,hS,hT,hA,hd,k1,k2,k3,k4⟩:=h
 unfold iK at hd
 split at hd
 case h_2=>exact hd.elim
 rename_i m0 ds0 hsl
 obtain ⟨ent,e2,e3⟩:=Lh hS hsl
 have hm:ent∈S:=Ay e2
 obtain ⟨u,x,F⟩:=ent
 have e3':x=.dat m0 (.list ds0):=e3
 subst e3'
 obtain ⟨v,hv,rd,_⟩:=hA.ok _ (An _ hm)
 obtain ⟨a,xs,G,rfl,ha,ra,eF,hz⟩:=rd.list_inv
 refine ⟨.ref a,by rw[Qv e2]; exact congrArg some hv,.inl ⟨rfl,xs,Za.of ha⟩,H0,Y,S,T,δ,_,rfl,hS,hA,hd,λy δ1 w F1 S1 H1 e4 e5 hA1 p1=>?_⟩
 split at p1
 ·rename_i m ds m' e' hsl1
  obtain ⟨p1,p2,p3,p4,p5⟩:=p1
  have r:=hA1.told mem_mid
  obtain rfl:=r.imm p3
  obtain ⟨b,xs1,G1,g1,g2,g3,g4,g5⟩:=aD (es:=ds++[e']) e5 hT hA1.drop hsl1 p1 p2
  rw[e4,Qv e2] at g1
  have : some (V.ref b)=some (V.ref a):=(Br g1).symm.trans hv
  cases this
  obtain ⟨S2,h1,h2,h3⟩:=g5 (xs1++[w]) (G1++[]) (g3.snoc r) (by rw[El]; exact Dd _) (by rw[Be]; exact dA (by simp; omega))
  have hl:=g3.len
  refine ⟨a,xs1,w,rfl,rfl,g2,By (by omega) (dA (n:=1000000) (Al _)),?_⟩
  rw[<- e4,<- h1]
  exact k1 ⟨_,_⟩ S2 _ h2 h3 p5
 ·exact p1.elim
end
def R7(i:Nat)(dk de:DE):DB:=λD δ=>de δ λy δ1=>match δ1.sl[i]? with
 | some (.dat _ (.list _))=>dk δ1 λz δ2=>match δ2.sl[i]?,y,z with
  | some (.dat m (.list ds)),.dat _ e,.dat _ (.int k)=>own1 m=true/\npk δ2.sl=true/\imm e=true/\Eg ds=true/\∃j,oH ds.length k=some j/\D.nx ⟨δ2.sl.set i (.dat m (.list (ds.set j e))),δ2.n⟩
  | _,_,_=>False
 | _=>False
theorem RdFs.setI{K:PySem.W.Frag}{H:Hp}:∀{xs:List V} {ds:List Ad} {j:Nat} {v:V} {e:Ad},RdFs K H xs ds []->RdF K H v e []->RdFs K H (xs.set j v) (ds.set j e) []:=by
 have main:∀{xs:List V} {ds:List Ad} {F:List Addr} {j:Nat} {v:V} {e:Ad},RdFs K H xs ds F->F=[]->RdF K H v e []->RdFs K H (xs.set j v) (ds.set j e) []:=by
  intro xs ds F j v e h
  induction j generalizing xs ds F with
  | zero =>
   intro hF r
   cases h with
   | nil=>exact .nil
   | cons a t =>
    obtain ⟨rfl,rfl⟩:=pL.mp hF
    exact RdFs.cons (F:=[]) r t
  | succ j ih =>
   intro hF r
   cases h with
   | nil=>exact .nil
   | cons a t =>
    obtain ⟨rfl,rfl⟩:=pL.mp hF
    exact RdFs.cons (F:=[]) a (ih t rfl r)
 intro xs ds j v e h r
 exact main h rfl r
section
variable{X:Cx}{o ie e:Expr}{de dk:DE}{pos spos:Pos}{i:Nat}
theorem B6(ho:PE X o (kF i))(hk:Em X ie dk)(he:Em X e de)
  (ha:∀v,Qz (.Subscript o ie spos) X.env v=(do
   let ov <- Pv [v] (eval o X.env)
   let iv <- Pv [v,ov] (eval ie X.env)
   standAt spos
   Pv [v,ov,iv] (setItem ov iv v)
   release [v,ov,iv] []):=by intro _; rfl)
  (hs:swapsWithSole [.Subscript o ie spos] e pos.line X.env=pure false:=by rfl) (hw:swappedStores [.Subscript o ie spos] e X.env=pure none:=by rfl)
  (h1:(Ic [.Subscript o ie spos] X.env).map (·.2)=[Qz (.Subscript o ie spos) X.env]:=by rfl):uV X (.Assign [.Subscript o ie spos] e pos) (R7 i dk de):=by
 refine PS.impD (fT he (oI ho hk bE ha) hs hw h1) λD σ H h=>?_
 obtain ⟨H0,Y,S,T,δ,P,rfl,hS,hT,hA,hd,k1,k2,k3,k4⟩:=h
 refine ⟨H0,Y,S,T,δ,_,rfl,hS,hA,hd,λy δ1 w F1 S1 H1 e4 e5 hA1 p1=>?_⟩
 split at p1
 case h_2=>exact p1.elim
 rename_i m0 ds0 hsl
 obtain ⟨ent,e2,e3⟩:=Lh e5 hsl
 have hm:ent∈S1:=Ay e2
 obtain ⟨u,x,F⟩:=ent
 have e3':x=.dat m0 (.list ds0):=e3
 subst e3'
 obtain ⟨v,hv,rd,_⟩:=hA1.ok _ (An _ hm)
 obtain ⟨a,xs,G,rfl,ha,ra,eF,hz⟩:=rd.list_inv
 refine ⟨.ref a,by rw[<- e4,Qv e2]; exact congrArg some hv,H0,Y,S1,⟨some w,y,F1⟩::T,δ1,_,e4,e5,hA1,p1,λz δ2 w2 F2 S2 H2 e6 e7 hA2 p2=>?_⟩
 split at p2
 ·rename_i m ds m' e' m'' k hsl2
  obtain ⟨q1,q2,q3,q4,j,q5,q6⟩:=p2
  obtain ⟨rfl,_⟩:=(hA2.told mem_mid).int_inv
  have r:=hA2.told Ff
  obtain rfl:=r.imm q3
  obtain ⟨b,xs1,G1,g1,g2,g3,g4,g5⟩:=aD (es:=ds.set j e') e7 hT hA2.drop2 hsl2 q1 q2
  rw[e6,<- e4,Qv e2] at g1
  have : some (V.ref b)=some (V.ref a):=(Br g1).symm.trans hv
  cases this
  obtain rfl:=g3.imm q4
  obtain ⟨S3,h1,h2,h3⟩:=g5 (xs1.set j w) [] (g3.setI r) (Dd _) (by rw[List.length_set]; exact g4)
  refine ⟨a,xs1,k,j,rfl,rfl,g2,by rw[g3.len]; exact q5,?_⟩
  rw[<- e6,<- h1]
  exact k1 ⟨_,_⟩ S3 _ h2 h3 q6
 ·exact p2.elim
end
def spLawD(K:PySem.W.Frag):Sp:=λus H Q _=>∃(a:Addr) (ns:List Int),us=[.ref a]/\KL K H a (ns.map V.int)/\ns.length<=63/\∀H',Q (.bl true) H'
def retL:DEnds where
 nx:=λ_=>False
 rt:=λx _=>∃m,x=.dat m (.bool true)
section
variable{P:Bh}{w:World}{K:PySem.W.Frag}{mg:Str->Option Value}{base:Heap}
theorem Z3{x qual p0:Str}{st:Stmt}{f:Addr}{fd:Bz}{N:List Str}{k:Nat}{db:DB}(F:Fun K x qual st f fd)(S:FnScope N [p0] (Bj st))(hb:∀(cdv:Value) (A:Cr) (outer:List Env) (s:Ah) (H:Hp) (E:XK),Room k (A.deeper (Ed qual (Bj st) s.heap.objs.size f cdv))->Yx (Hq Ik P w K mg base N qual (Bj st) f cdv A outer s H E).nox (Hy st) db)(h:∀ns:List Int,ns.length<=63->db retL ⟨.scr ns::Ib (N.length - 1) .un,0⟩):FnOk P w K mg base Ik (k+1) f fd [p0] (spLawD K):=by
 refine F.ok S (λvs H Q E z=>?_) λcdv A outer s H us Q E hr z=>?_
 ·obtain ⟨a,ns,rfl,_⟩:=z
  rfl
 ·obtain ⟨a,ns,rfl,hK,h63,k1⟩:=z
  refine ⟨_,hb cdv A outer s H E hr,H,λ_=>False,⟨some (.ref a),.scr ns,[]⟩::Hi (N.length - 1),[],⟨.scr ns::Ib (N.length - 1) .un,0⟩,retL,?_,?_,λ_ z=>(nomatch z),?_,h ns h63,λδ' S' H' e1 hA p=>p.elim,λx δ' v F' S' H' e1 hA p=>?_,λ_ _ _ _ _ p=>p.elim,λ_ _ _ _ _ p=>p.elim⟩
  ·unfold vs L2.start Hi
   rw[Ar,Lf]
   rfl
  ·unfold Sl Hi
   rw[Ar,Lf]
  ·rw[El]
   have hc:∀e∈(⟨some (.ref a),.scr ns,[]⟩::Hi (N.length - 1):List Ent),cells e=[]:=λe he=>by
    rcases Ap.mp he with rfl | he
    ·rfl
    ·rw[(Ij.mp he).2]
     rfl
   refine ⟨λe he=>?_,Pn λa ha b hb'=>⟨λhq c z=>?_,λhq c z=>?_⟩,λe he a ha=>?_,λb o _ e=>e,λb o e=>⟨o,e⟩,λb hb=>hb.elim⟩
   ·rcases Ap.mp he with rfl | he
    ·exact ⟨a,rfl,rfl,hK,h63⟩
    ·rw[(Ij.mp he).2]
     exact (rfl:([]:List Addr)=[])
   ·rw[hc a ha] at z; cases z
   ·rw[hc b hb'] at z; cases z
   ·rw[hc e he] at ha; cases ha
  ·obtain ⟨m,rfl⟩:=p
   rw[show S'++[(⟨some v,.dat m (.bool true),F'⟩ : Ent)]=S'++⟨some v,.dat m (.bool true),F'⟩::[] from rfl] at hA
   obtain ⟨rfl,_⟩:=(hA.told mem_mid).bl_inv
   exact k1 H'
end
def oP(i:Nat)(dl dh:DO):DE:=λδ P=>match δ.sl[i]? with
 | some (.scr ns)=>dl δ λl δ2=>dh δ2 λh δ3=>P (.dat .ow (.list ((Ls ns l h).map Bs))) δ3
 | _=>False
def FJ(i:Nat)(de:DE):DE:=λδ P=>match δ.sl[i]? with
 | some (.scr ns)=>de δ λy δ1=>match y with
  | .dat _ (.list es)=>Eg es=true/\ns.length+es.length<=1000000/\P (.dat .ow (.list (ns.map Bs++es))) δ1
  | _=>False
 | _=>False
section
variable{X:Cx}{e b:Expr}{de:DE}{lo hi:Option Expr}{dl dh:DO}{pos p2:Pos}{i:Nat}
theorem W3{K:PySem.W.Frag}{H0 H:Hp}{Y:Addr->Prop}{S T:List Ent}{δ:DS}{ns:List Int}(hS:Sl S δ)(hA:At K H0 Y δ.n (S++T) H)(hi:δ.sl[i]? = some (.scr ns)):∃a,(vs S)[i]? = some (some (.ref a))/\(⟨some (.ref a),.scr ns,[]⟩ : Ent)∈S/\KL K H a (ns.map V.int)/\ns.length<=63:=by
 obtain ⟨ent,e2,e3⟩:=Lh hS hi
 have hm:ent∈S:=Ay e2
 obtain ⟨u,x,F⟩:=ent
 have e3':x=.scr ns:=e3
 subst e3'
 obtain ⟨a,h1,h2,h3⟩:=hA.ok _ (An _ hm)
 have h1':u=some (.ref a):=h1
 have h2':F=[]:=h2
 subst h1' h2'
 exact ⟨a,by rw[Qv e2],hm,h3⟩
theorem vM(he:PE X e (kF i))(hl:S7 X lo dl)(hh:S7 X hi dh):Em X (.Subscript e (.Slice lo hi none p2) pos) (oP i dl dh):=by
 refine PE.imp (jQ (r:=Z0 X.K) B3 he hl hh) λσ H Q h=>?_
 obtain ⟨H0,Y,S,T,δ,P,rfl,hS,hA,hd,k⟩:=h
 unfold oP at hd
 split at hd
 case h_2=>exact hd.elim
 rename_i ns hsl
 obtain ⟨a,ha,hm,hK,h63⟩:=W3 hS hA hsl
 have hA0:At X.K H0 Y δ.n (S++⟨some (.ref a),.scr ns,[]⟩::T) H:=(At.view1 hA (An _ hm)).tomid
 refine ⟨.ref a,ha,H0,Y,S,⟨some (.ref a),.scr ns,[]⟩::T,δ,_,rfl,hS,hA0,hd,λl δ2 S2 H2 e3 e4 hA2 p2=>?_⟩
 refine ⟨H0,Y,S2,⟨some (.ref a),.scr ns,[]⟩::T,δ2,_,e3,e4,hA2,p2,λh δ3 S3 H3 e5 e6 hA3 p3=>?_⟩
 obtain ⟨a',h1,_,hK3,_⟩:=hA3.ok _ mem_mid
 cases h1
 refine ⟨a,_,rfl,hK3.sq,λp hp=>?_⟩
 have : bV (ns.map V.int) l h=(Ls ns l h).map V.int:=by
  rw[<- lH]; rfl
 rw[this]
 refine k _ δ3 _ _ S3 _ e5 e6 (hA3.drop.newI (RdFs.ints _) (Rw _) ?_ hp .ow) p3
 rw[Ab]
 have l1:=(Nf ns l h).length_le
 exact sz (by omega)
end
def Pb(p:Nat)(dc:DT)(de:DE)(δ:DS)(yes:Ad->Nat->Prop)(no:Nat->Prop):Prop:=dc δ λb δ2=>match b with
 | true=>de δ2 λy δ3=>match y with
  | .dat _ e=>imm e=true/\δ3.sl[p]? = some .drw/\yes e δ3.n
  | _=>False
 | false=>δ2.sl[p]? = some .drw/\no δ2.n
def pC(di:DI)(js1:List Nat)(j0:Nat)(js2:List Nat)(dc:DT)(de:DE):DE:=λδ P=>di δ λm ds δ1=>δ1.sl[j0]? = some .drw/\∃I:Nat->List Ad->Nat->Prop,I 0 [] δ1.n /\
 (∀i d acc n,ds[i]? = some d->I i acc n->Pb (js1.length+1) dc de ⟨.dat m d::(frD (δ1.sl.set j0 .un) js1++.drw::frD (δ1.sl.set j0 .un) js2),n⟩ (λe n'=>I (i+1) (acc++[e]) n') (λn'=>I (i+1) acc n')) /\
 ∀acc n,I ds.length acc n->P (.dat .ow (.list acc)) ⟨δ1.sl,n⟩
section
variable{K:PySem.W.Frag}{H0 H H':Hp}{Y:Addr->Prop}{n n':Nat}{E S T:List Ent}
theorem At.re(h:At K H0 Y n E H)(ok:∀e∈E,Gx K H' n' e)(s:∀b o,¬ Y b->H0 b=some o->H' b=some o)(dm:∀b o,H0 b=some o->∃o',H' b=some o')(xd:∀b,Y b->H0 b≠none/\∃c k f,cW H' b c k f/\0<=k/\k<=(n':Int)):At K H0 Y n' E H':=⟨ok,h.sep,h.new,s,dm,xd⟩
theorem xO{S':List Ent}{δ:DS}{p:Nat}{dr:Addr}(hA:At K H0 Y n E H)(hE:∀e∈S',e∈E)(hS:Sl S' δ)(hp:δ.sl[p]? = some .drw)(hv:(vs S')[p]? = some (some (.ref dr))):Gx K H n ⟨some (.ref dr),.drw,[dr]⟩:=by
 obtain ⟨ent,e2,e3⟩:=Lh hS hp
 have hm:ent∈S':=Ay e2
 rw[Qv e2] at hv
 obtain ⟨u,x,F⟩:=ent
 have e3':x=.drw:=e3
 subst e3'
 have hu:u=some (.ref dr):=Br hv
 subst hu
 obtain ⟨dr',c,k,f,h1,h2,h3⟩:=hA.ok _ (hE _ hm)
 have h1':some (V.ref dr)=some (V.ref dr'):=h1
 cases h1'
 exact ⟨dr,c,k,f,rfl,rfl,h3⟩
theorem zI{p:Nat}{dr:Addr}{dc:DT}{de:DE}{δ:DS}{yes:Ad->Nat->Prop}{no:Nat->Prop}{D:Addr}{acc:List Ad}{N1:Hp->Prop}{N2:VK}(hS:Sl S δ)(hA:At K H0 Y δ.n (S++⟨some (.ref D),.acc acc,[D]⟩::T) H)(hp:(vs S)[p]? = some (some (.ref dr)))(h:Pb p dc de δ yes no)(k1:∀n' H',At K H0 Y n' (⟨some (.ref D),.acc acc,[D]⟩::T) H'->Gx K H' n' ⟨some (.ref dr),.drw,[dr]⟩->no n'->N1 H')(k2:∀e n' v H',At K H0 Y n' (⟨some (.ref D),.acc acc,[D]⟩::T) H'->Gx K H' n' ⟨some (.ref dr),.drw,[dr]⟩->RdF K H' v e []->yes e n'->N2 v H'):LT K dc (vs S) H λc H2=>if c=true then LE K de (vs S) H2 N2 else N1 H2:=by
 refine ⟨H0,Y,S,⟨some (.ref D),.acc acc,[D]⟩::T,δ,_,rfl,hS,hA,h,λb δ2 S2 H2 e1 e2 hA2 p2=>?_⟩
 cases b with
 | false=>exact Xf (k1 _ _ (hA2.sub (Bw _ _)) (xO hA2 (λe he=>An _ he) e2 p2.1 (by rw[e1]; exact hp)) p2.2)
 | true =>
  refine cX ⟨H0,Y,S2,⟨some (.ref D),.acc acc,[D]⟩::T,δ2,_,e1,e2,hA2,p2,λy δ3 v F S3 H3 e3 e4 hA3 p3=>?_⟩
  split at p3
  ·have r:=hA3.told mem_mid
   obtain rfl:=r.imm p3.1
   exact k2 _ _ _ _ (hA3.drop.sub (Bw _ _)) (xO hA3 (λe he=>An _ he) e4 p3.2.1 (by rw[e3]; exact hp)) r p3.2.2
  ·exact p3.elim
theorem p7{di:DI}{js1 js2:List Nat}{j0:Nat}{dc:DT}{de:DE}:∀σ H Q,LE K (pC di js1 j0 js2 dc de) σ H Q->bN (LI K di) (js1++j0::js2) (LT K dc) (LE K de) σ H Q:=by
 intro σ H Q h
 obtain ⟨H0,Y,S,T,δ,P,rfl,hS,hA,hd,k⟩:=h
 refine ⟨H0,Y,S,T,δ,_,rfl,hS,hA,hd,λm ds δ1 J hid S1 H1 e1 e2 hA1 it hz p1=>?_⟩
 obtain ⟨hj,I,h0,hs,hf⟩:=p1
 rw[<- e1]
 obtain ⟨ent,s1,s2⟩:=Lh e2 hj
 have hm':ent∈S1:=Ay s1
 obtain ⟨u,x,F0⟩:=ent
 have s2':x=.drw:=s2
 subst s2'
 obtain ⟨dr,_,_,_,hv0,hF0,_⟩:=hA1.ok _ (An _ hm')
 have hv0':u=some (.ref dr):=hv0
 have hF0':F0=[dr]:=hF0
 subst hv0' hF0'
 intro D hD
 refine ⟨λi q H=>q=ds.length - i/\i<=ds.length/\∃acc n,At K H0 Y n (⟨some (.ref D),.acc acc,[D]⟩::(S1++(hid++T))) H/\acc.length<=i/\I i acc n,⟨ds.length,by simp,Dm _,[],δ1.n,hA1.accNew hD,Al _,h0⟩,?_⟩
 (intro i q H q_; obtain ⟨rfl,hi,acc,n,hA2,hl,hI⟩ := q_)
 have hid_ok:∀e∈hid,Gx K H n e:=λe he=>hA2.ok e (Ae _ (Ai _ (An _ he)))
 by_cases hlt:i<ds.length
 ·refine .inr ⟨it.go H n i hid_ok hlt,λx H' y=>?_⟩
  obtain ⟨s1',d,F,h1,h2,h3⟩:=it.yld H n i x H' hid_ok hlt y
  have hA3:At K H0 Y n ((⟨some (.ref D),.acc acc,[D]⟩::S1)++⟨some x,.dat m d,F⟩::(hid++T)) H':=At.item (S:=⟨some (.ref D),.acc acc,[D]⟩::S1) hA2 s1' h2 h3 it.md it.hd it.np
  -- the draws are taken out of their slot
  have hA4:At K H0 Y n (⟨some (.ref dr),.drw,[dr]⟩::⟨some x,.dat m d,F⟩::⟨some (.ref D),.acc acc,[D]⟩::(S1.set j0 ⟨some (.ref dr),.un,[]⟩++(hid++T))) H':=by
   have q:=hA3.mid.blank (v:=some (.ref dr))
   refine q.perm ?_
   have pS:(⟨some (.ref dr),.un,[]⟩::S1:List Ent).Perm (⟨some (.ref dr),.drw,[dr]⟩::S1.set j0 ⟨some (.ref dr),.un,[]⟩):=Wi s1
   have p2:=pS.append_right (hid++T)
   -- un::x::D::S1.. ~ x::D::un::S1..
   have a1:((⟨some (.ref dr),.un,[]⟩ : Ent)::⟨some x,.dat m d,F⟩::((⟨some (.ref D),.acc acc,[D]⟩::S1)++(hid++T))).Perm (⟨some x,.dat m d,F⟩::⟨some (.ref D),.acc acc,[D]⟩::⟨some (.ref dr),.un,[]⟩::(S1++(hid++T))) :=
    (Ef _ _ _).trans ((Ef _ _ _).cons _)
   have a2:((⟨some x,.dat m d,F⟩ : Ent)::⟨some (.ref D),.acc acc,[D]⟩::⟨some (.ref dr),.drw,[dr]⟩::(S1.set j0 ⟨some (.ref dr),.un,[]⟩++(hid++T))).Perm (⟨some (.ref dr),.drw,[dr]⟩::⟨some x,.dat m d,F⟩::⟨some (.ref D),.acc acc,[D]⟩::(S1.set j0 ⟨some (.ref dr),.un,[]⟩++(hid++T))) :=
    ((Ef _ _ _).cons _).trans (Ef _ _ _)
   exact a1.trans (((p2.cons _).cons _).trans a2)
  have e2':Sl (S1.set j0 ⟨some (.ref dr),.un,[]⟩) ⟨δ1.sl.set j0 .un,n⟩:=oB e2
  have vS:vs (S1.set j0 ⟨some (.ref dr),.un,[]⟩)=vs S1:=by
   rw[oF]
   apply Zd
   intro j
   rw[Pw]
   split
   ·rename_i hij
    subst hij
    rw[Qv s1]
    split
    ·rfl
    ·rename_i hj'
     unfold vs at hj'
     rw[Ab] at hj'
     exact absurd (Av.mp s1).1 hj'
   ·rfl
  have hsub:∀e∈S1.set j0 ⟨some (.ref dr),.un,[]⟩,e∈(⟨some (.ref dr),.drw,[dr]⟩::⟨some x,.dat m d,F⟩::⟨some (.ref D),.acc acc,[D]⟩::(S1.set j0 ⟨some (.ref dr),.un,[]⟩++(hid++T)):List Ent):=λe he=>Ae _ (Ae _ (Ae _ (An _ he)))
  have hA5:=At.view (S:=S1.set j0 ⟨some (.ref dr),.un,[]⟩) hA4 hsub js2
  have hA5':=At.view (S:=S1.set j0 ⟨some (.ref dr),.un,[]⟩) hA5 (λe he=>Ai _ (hsub e he)) js1
  have hA6:At K H0 Y n ((⟨some x,.dat m d,F⟩::(Xc (S1.set j0 ⟨some (.ref dr),.un,[]⟩) js1++⟨some (.ref dr),.drw,[dr]⟩::Xc (S1.set j0 ⟨some (.ref dr),.un,[]⟩) js2))++⟨some (.ref D),.acc acc,[D]⟩::(S1.set j0 ⟨some (.ref dr),.un,[]⟩++(hid++T))) H':=by
   refine hA5'.perm ?_
   generalize Xc (S1.set j0 ⟨some (.ref dr),.un,[]⟩) js1=A1
   generalize Xc (S1.set j0 ⟨some (.ref dr),.un,[]⟩) js2=A2
   generalize (⟨some (.ref D),.acc acc,[D]⟩::(S1.set j0 ⟨some (.ref dr),.un,[]⟩++(hid++T)):List Ent)=R
   have b1:(A2++((⟨some (.ref dr),.drw,[dr]⟩ : Ent)::⟨some x,.dat m d,F⟩::R)).Perm ((⟨some x,.dat m d,F⟩ : Ent)::⟨some (.ref dr),.drw,[dr]⟩::(A2++R)) :=
    (Fz.trans ((Fz).cons _)).trans (Ef _ _ _)
   have b2:=b1.append_left A1
   refine b2.trans (Fz.trans ?_)
   rw[En,Ee,En]
  have hS6:Sl (⟨some x,.dat m d,F⟩::(Xc (S1.set j0 ⟨some (.ref dr),.un,[]⟩) js1++⟨some (.ref dr),.drw,[dr]⟩::Xc (S1.set j0 ⟨some (.ref dr),.un,[]⟩) js2)) ⟨.dat m d::(frD (δ1.sl.set j0 .un) js1++.drw::frD (δ1.sl.set j0 .un) js2),n⟩:=by
   unfold Sl
   rw[Ar,Bd,Ar,kE e2',kE e2']
  have hv:vs (⟨some x,.dat m d,F⟩::(Xc (S1.set j0 ⟨some (.ref dr),.un,[]⟩) js1++⟨some (.ref dr),.drw,[dr]⟩::Xc (S1.set j0 ⟨some (.ref dr),.un,[]⟩) js2))=some x::Ft (vs S1) (js1++j0::js2):=by
   have f1:=lX (S1.set j0 ⟨some (.ref dr),.un,[]⟩) js1
   have f2:=lX (S1.set j0 ⟨some (.ref dr),.un,[]⟩) js2
   rw[vS] at f1 f2
   unfold vs at f1 f2 ⊢
   rw[Ar,Bd,Ar,f1,f2]
   unfold Ft
   rw[Bd,Ar,Cn,s1]
   rfl
  have hp6:(vs (⟨some x,.dat m d,F⟩::(Xc (S1.set j0 ⟨some (.ref dr),.un,[]⟩) js1++⟨some (.ref dr),.drw,[dr]⟩::Xc (S1.set j0 ⟨some (.ref dr),.un,[]⟩) js2)))[js1.length+1]? = some (some (.ref dr)):=by
   unfold vs
   rw[Ar,List.getElem?_cons_succ,Bd,Jl (by rw[Ab]; unfold Xc; rw[Ab]; exact Al _)]
   rw[Ab]
   unfold Xc
   rw[Ab,Nat.sub_self]
   rfl
  -- back to the outer names
  have back:∀{n':Nat} {H2:Hp},At K H0 Y n' (⟨some (.ref D),.acc acc,[D]⟩::(S1.set j0 ⟨some (.ref dr),.un,[]⟩++(hid++T))) H2->Gx K H2 n' ⟨some (.ref dr),.drw,[dr]⟩->At K H0 Y n' (⟨some (.ref D),.acc acc,[D]⟩::(S1++(hid++T))) H2:=λ{n' H2} hB hd'=>by
   refine hA2.re (λe he=>?_) hB.same hB.dom hB.xd
   rcases Ap.mp he with rfl | he
   ·exact hB.ok _ Aa
   ·rcases Aw.mp he with he | he
    ·obtain ⟨j,hj1⟩:=List.getElem?_of_mem he
     by_cases hjj:j=j0
     ·subst hjj
      rw[s1] at hj1
      cases hj1
      exact hd'
     ·refine hB.ok e (Ae _ (An _ (Ay (i:=j) ?_)))
      rw[Mt (Kl hjj)]
      exact hj1
    ·exact hB.ok e (Ae _ (Ai _ he))
  refine ⟨λH2=>∃m',m'<ds.length - i/\_,λy H3=>∃acc,H3 D=some (.lst acc)/\acc.length<Ax/\∃m',m'<ds.length - i/\_,λH2 q=>q,λy H3 q=>q,?_⟩
  rw[<- hv]
  refine zI hS6 hA6 hp6 (hs i d acc n h1 hI) (λn' H2 hA7 hd7 p=>?_) (λe n' v H2 hA7 hd7 r7 p=>?_)
  ·exact ⟨ds.length - (i+1),by omega,rfl,hlt,acc,n',back hA7 hd7,by omega,p⟩
  ·obtain ⟨xs,g1,g2,g3⟩:=(back hA7 hd7).accPut r7 (by omega)
   exact ⟨xs,g1,by omega,ds.length - (i+1),by omega,rfl,hlt,acc++[e],n',g3,by rw[Be]; simp; omega,p⟩
 ·have e:i=ds.length:=by omega
  subst e
  refine .inl ⟨it.stop H n hid_ok,k _ ⟨δ1.sl,n⟩ _ [D] S1 H e1 e2 ?_ (hf acc n hI)⟩
  have hA3:=hA2.accGet
  have hA4:At K H0 Y n (⟨some (.ref D),.dat .ow (.list acc),[D]⟩::(S1++T)) H:=hA3.sub (((Dd S1).append (Bw hid T)).cons₂ _)
  exact hA4.tomid
end
section
variable{X:Cx}{elt iter c:Expr}{x y0:Str}{px py pos spos:Pos}{i0:Nat}{ifs:List Expr}{scope:Scope}{cl:List (Str×Addr)}{ys:List Str}{js1 js2:List Nat}{j0:Nat}{di:DI}{dc:DT}{de:DE}
theorem t9{o:Bool}(hN:X.N.Nodup)(hi0:X.N[i0]? = some y0)(hy0:X.env.scope.names.lookup y0=some .local)(C:CompScope X scope cl x ys (js1++j0::js2))(hc:X.calm=true)(hi:E2 X (.Name x px) iter di)(ht:∀fp s H,pT (Er X scope cl (x::ys) fp s H) ifs (LT X.K dc))(he:∀fp s H,Em (Er X scope cl (x::ys) fp s H) elt de)(hs:∀x,Ez iter X.env x=pure x:=by intro _; rfl)(hsw:Ir (.ListComp elt [⟨.Name x px,iter,ifs,0⟩] scope pos) (some (.Name y0 py)) spos.line X.env=pure true:=by rfl):uV X (.Assign [.Name y0 py] (.ListComp elt [⟨.Name x px,iter,ifs,0⟩] scope pos) spos) (mH (pC di js1 j0 js2 dc de) (HC o i0)):=PS.impD (A7 hN hi0 hy0 C hc hi ht he hs hsw) (gV p7 FY)
end
theorem wX{P:Bh}{w:World}{K:PySem.W.Frag}{mg:Str->Option Value}{base:Heap}{k:Nat}{f:Addr}{fd:Bz}{ps:List Str}(F:FnOk P w K mg base Ik k f fd ps qO):FnOk P w K mg base Ik k f fd ps Vo:=by
 refine F.imp λus H Q E h=>?_
 obtain ⟨c,rfl,h⟩:=h
 exact ⟨c,rfl,λp f H'=>h p c f H'⟩
def Rr:DF:=λds n R=>ds=[]/\n<=100000/\∀r:Int,R (.int r) (n+1)
theorem K2{P:Bh}{w:World}{K:PySem.W.Frag}{mg:Str->Option Value}{base:Heap}{k:Nat}{f:Addr}{fd:Bz}{ps:List Str}(F:FnOk P w K mg base Ik k f fd ps yO):FnOk P w K mg base Ik k f fd ps (Zp K Rr):=by
 refine F.imp λus H Q E h=>?_
 obtain ⟨dr,ws,As,n,ds,R,rfl,eu,ok,nd,⟨c,kk,fl,hdr,h0,h1⟩,q,hp,k1⟩:=h
 obtain ⟨rfl,hn,hR⟩:=hp
 have hAs:As=[]:=by
  have:=Hd q
  rw[Ab] at this
  exact Rb.mp this
 subst hAs
 have hws:ws=[]:=by
  cases ws with
  | nil=>rfl
  | cons _ _=>cases eu
 subst hws
 refine ⟨dr,c,kk,fl,rfl,hdr,h0,by omega,λr c' H' hd' s=>?_⟩
 exact k1 (.int r) (.int r) [] (n+1) H' (by omega) (hR r) (.int r) Cy (λ_ z=>(nomatch z)) ⟨c',kk+1,fl,hd',by omega,by omega⟩ s
theorem Qj{ns:List Int}(r:Dt 60 ns):ns.length<=60:=Ba (NdS.len_leI (r.1.imp λ{x y} h=>Int.ne_of_lt h) λe he=>Zr (r.2 e he).1 (r.2 e he).2) (by decide)
def CY{α:Type}(xs:List α)(k:Nat)(y:α):List α:=xs.take k++y::xs.drop k
def IR:Md->Md->Md
 | .ow,.ow=>.ow
 | _,_=>.tp
end DL
namespace Nd
open PySem PySem.Spec PyProof.Rows L2
end Nd
namespace DL
open PySem PySem.Spec PyProof.Rows L2 Nd
def HU(n:Nat)(gs:yA):DG:=λx δ P=>match x with
 | .dat m (.list ds)=>ds.length=n/\gs (ds.map λd=>.dat (Nt m) d) δ P
 | _=>False
def Xi:D2:=λx y P=>match x,y with
 | .dat m (.list ds),.dat m' (.list es)=>m≠.pk/\m'≠.pk/\ds.length+es.length<=1000000/\P (.dat .tp (.list (ds++es)))
 | _,_=>False
theorem O4{m:Md}{d:Ad}(h:m≠.pk):Pl (.dat m d)=false:=by cases m <;> first | rfl | exact absurd rfl h
theorem N3{K:PySem.W.Frag}:eZ K AS Xi:=by
 intro H0 X n S T x y v w F G H Q P hA hd k
 unfold Xi at hd
 split at hd
 ·rename_i m ds m' es
  obtain ⟨i1,i2,hz,p⟩:=hd
  obtain ⟨b,ys,G1,rfl,hb,rb,rfl,_⟩:=(hA.told mem_mid).list_inv
  obtain ⟨a,xs,G2,rfl,ha,ra,rfl,_⟩:=(hA.told Ff).list_inv
  have l1:=ra.len
  have l2:=rb.len
  refine ⟨a,b,xs,ys,rfl,rfl,ha,hb,dA (by omega),λq hq=>?_⟩
  have s1:=Gu hq (.lst (xs++ys))
  have sy:=Bl.mp hA.mid.sep
  have sx:=Bl.mp hA.drop.mid.sep
  have nq:∀f∈S++_::_::T,q∉f.F:=hA.free hq
  have n1:q∉G1:=λz=>nq _ mem_mid (Ae _ z)
  have n2:q∉G2:=λz=>nq _ Ff (Ae _ z)
  have fr:=hA.drop2.free hq
  refine k _ _ _ _ (((hA.drop2.grow (n':=n) s1 (Al _)).push (e:=⟨some (.ref q),.dat .tp (.list (ds++es)),q::(G2++G1)⟩) ⟨_,rfl,.lst Et (by rw[Be]; exact dA (by omega)) ((ra.app rb).kp (Kp.of s1)),λz=>(nomatch z),λ_ a l e=>?_⟩ (λf hf=>⟨λ_ c hc z=>?_,λ_ c hc z=>?_⟩) λc hc=>?_).tomid) p
  ·cases e
   exact λz=>(Aw.mp z).elim n2 n1
  ·rw[Af.mp hc] at z
   exact fr f hf z
  ·rcases Ap.mp z with z | z
   ·rw[z] at hc
    exact fr f hf (Gq _ _ hc)
   ·rcases Aw.mp z with z | z
    ·exact (sx.1 f hf).2 (.inl (O4 i1)) c hc (Ae _ z)
    ·exact (sy.1 f ((Dd S).append (Dv _ T) |>.subset hf)).2 (.inl (O4 i2)) c hc (Ae _ z)
  ·rw[Af.mp hc]
   exact .inl (hA.new0 hq)
 ·exact hd.elim
theorem qC{X:Cx}{a b:Expr}{da db:DE}{pos:Pos}(ha:Em X a da)(hb:Em X b db):Em X (.BinOp a .Add b pos) (Tz Xi da db):=Uc yH N3 ha hb
end DL
namespace Nd
open PySem PySem.Spec PyProof.Rows
end Nd
namespace L2
open PySem PySem.Spec PyProof.Rows
end L2
namespace Nd
open PySem PySem.Spec PyProof.Rows L2
end Nd
namespace DL
open PySem PySem.Spec PyProof.Rows L2 Nd
theorem rN(w:List Int):(d0 w).map kV=w.map V.int:=by
 unfold d0
 rw[Hl]
 rfl
section
variable{K:PySem.W.Frag}
theorem C1{H:Hp}{v:V}{w:List Int}{F:List Addr}(r:RdF K H v (Co w) F):∃b,v=.ref b/\H b=some (.tup ((d0 w).map kV)):=by
 obtain ⟨b,xs,rfl,hb,rb,_⟩:=r.tup_inv
 obtain ⟨rfl,_⟩:=rb.ints_inv
 exact ⟨b,rfl,by rw[rN]; exact hb⟩
end
def P7:V->Int
 | .int i=>i
 | _=>0
def BG(H:Hp)(r:Addr):List Int:=match H r with
 | some (.tup xs)=>xs.map P7
 | _=>[]
theorem W0{H:Hp}{r:Addr}{w:List Int}(h:H r=some (.tup (w.map V.int))):BG H r=w:=by
 unfold BG
 rw[h]
 show (w.map V.int).map P7=w
 rw[Hl]
 exact List.map_id' w
section
variable{K:PySem.W.Frag}{H:Hp}
theorem kG:∀{ws:List (List Int)} {xs:List V} {ds:List Ad} {G:List Addr},RdFs K H xs ds G->ds=ws.map Co->∃rs:List Addr,xs=rs.map V.ref/\ws=rs.map (BG H)/\G=[]/\(∀r∈rs,H r=some (.tup ((BG H r).map V.int)))/\∀r∈rs,RdF K H (.ref r) (Co (BG H r)) []
 | [],_,_,_,h,e=>by
  subst e
  cases h
  exact ⟨[],rfl,rfl,rfl,(λ_ z=>nomatch z),(λ_ z=>nomatch z)⟩
 | w::ws,_,_,_,h,e=>by
  cases h with
  | nil=>cases e
  | cons a t =>
   obtain ⟨e1,e2⟩:=Le e
   obtain ⟨rs,rfl,rfl,rfl,h1,h2⟩:=kG t e2
   subst e1
   obtain ⟨r,rfl,hr⟩:=C1 a
   rw[rN] at hr
   have ew:=W0 hr
   obtain rfl:=a.imm (show imm (Co w)=true from Rw w)
   refine ⟨r::rs,rfl,by rw[Ar,ew],rfl,λx hx=>?_,λx hx=>?_⟩
   ·rcases Ap.mp hx with rfl | hx
    ·rw[ew]; exact hr
    ·exact h1 x hx
   ·rcases Ap.mp hx with rfl | hx
    ·rw[ew]; exact a
    ·exact h2 x hx
end
end DL
namespace Nd
open PySem PySem.Spec PyProof.Rows L2
end Nd
namespace DL
open PySem PySem.Spec PyProof.Rows L2 Nd
end DL
namespace Nd
open PySem PySem.Spec PySem.Calls PyProof.Rows PyProof.V L2
end Nd
namespace DL
open PySem PySem.Spec PyProof.Rows L2 Nd
def FK(K:PySem.W.Frag)(pf:PF):Sp:=λus H Q _=>∃(As:List Ent) (n:Nat) (ds:List Ad) (R:Ad->Prop) (C:List Addr),As.map Ent.v=us.map some/\(∀e∈As,Gx K H n e)/\datas (As.map Ent.x)=some ds/\pf ds R/\(∀a∈C,H a≠none/\∀e∈As,a∉e.F) /\
 ∀v d F H',R d->RdF K H' v d F->(∀a∈F,a∉C)->Nh H H'->Q v H'
def retA(R:Ad->Prop):DEnds where
 nx:=λ_=>R .none
 rt:=λx _=>∃m d,x=.dat m d/\m≠.pk/\R d
section
variable{K:PySem.W.Frag}{H0 H H':Hp}{X:Addr->Prop}{n:Nat}{E S T:List Ent}
theorem At.pushS(h:At K H0 X n E H){v:V}{d:Ad}{F:List Addr}(r:RdF K H v d F)(fr:∀f∈E,∀a∈cells f,a∉F):At K H0 X n (⟨some v,.dat .sh d,F⟩::E) H :=
 h.push ⟨v,rfl,r,λz=>(nomatch z),λz=>(nomatch z)⟩ (λf hf=>⟨λ_ a ha=>(nomatch ha),λ_ a ha=>fr f hf a ha⟩) λa ha=>(nomatch ha)
end
section
variable{P:Bh}{w:World}{K:PySem.W.Frag}{mg:Str->Option Value}{base:Heap}
theorem GC{As:List Ent}{k:Nat}:∀e∈As.map cC++Hi k,∀a∈e.F,∃f∈As,a∈f.F:=λe he a ha=>by
 rcases Aw.mp he with he | he
 ·obtain ⟨f,hf,rfl⟩:=Ci.mp he
  refine ⟨f,hf,?_⟩
  obtain ⟨v,x,F⟩:=f
  cases x <;> exact ha
 ·rw[(Ij.mp he).2] at ha
  exact nomatch ha
theorem q0{x qual:Str}{st:Stmt}{f:Addr}{fd:Bz}{N ps:List Str}{k:Nat}{pf:PF}{db:DB}(F:Fun K x qual st f fd)(S:FnScope N ps (Bj st))(hb:∀(cdv:Value) (A:Cr) (outer:List Env) (s:Ah) (H:Hp) (E:XK),Room k (A.deeper (Ed qual (Bj st) s.heap.objs.size f cdv))->Yx (Hq Ik P w K mg base N qual (Bj st) f cdv A outer s H E).nox (Hy st) db)(h:∀ds R,pf ds R->ds.length=ps.length/\db (retA R) ⟨args0 ds (N.length - ps.length),0⟩):FnOk P w K mg base Ik (k+1) f fd ps (FK K pf):=by
 refine F.ok S (λvs H Q E z=>?_) λcdv A outer s H us Q E hr z=>?_
 ·obtain ⟨As,n,ds,R,C,eu,ok,q,hp,_⟩:=z
  have l1:=(h ds R hp).1
  have l2:=Hd q
  rw[Ab] at l2
  have l3:=congrArg Fs eu
  rw[Ab,Ab] at l3
  omega
 ·obtain ⟨As,n,ds,R,C,eu,ok,q,hp,hG,k1⟩:=z
  obtain ⟨l1,hd⟩:=h ds R hp
  have l2:=Hd q
  rw[Ab] at l2
  have l3:=congrArg Fs eu
  rw[Ab,Ab] at l3
  let H0:Hp:=λa=>open Classical in if a∈C then none else H a
  have h0n:∀{a},a∈C->H0 a=none:=λz=>if_pos z
  have h0s:∀{a},a∉C->H0 a=H a:=λz=>if_neg z
  -- what holds at the end
  have kZ:∀{E':List Ent} {n':Nat} {H':Hp},At K H0 (λ_=>False) n' (E'++[⟨none,.grd H,C⟩]) H'->Nh H H':=λ{E' n' H'} hA b o e=>by
   by_cases hb:b∈C
   ·obtain ⟨o',g1,g2⟩:=hA.ok _ (Ai _ Aa) b hb
    rw[e] at g1
    cases g1
    exact g2
   ·exact hA.same b o (λz=>z) (by rw[h0s hb]; exact e)
  refine ⟨_,hb cdv A outer s H E hr,H0,λ_=>False,As.map cC++Hi (N.length - ps.length),[⟨none,.grd H,C⟩],⟨args0 ds (N.length - ps.length),0⟩,retA R,?_,?_,λe z=>?_,?_,hd,λδ' S' H' e1 hA p=>?_,λx δ' v F' S' H' e1 hA p=>?_,λ_ _ _ _ _ p=>p.elim,λ_ _ _ _ _ p=>p.elim⟩
  ·unfold vs L2.start Hi
   rw[Bd,M7,eu,Lf,show us.length=ps.length by omega]
  ·unfold Sl args0 Hi
   rw[Bd,Rm q,Lf]
  ·rw[Af.mp z]; rfl
  ·have hs:=Zj q (N.length - ps.length)
   have hF:=GC (As:=As) (k:=N.length - ps.length)
   have gF:∀e∈As.map cC++Hi (N.length - ps.length),∀a∈C,a∉e.F:=λe he a ha z=>by
    obtain ⟨f,hf,zf⟩:=hF e he a z
    exact (hG _ ha).2 f hf zf
   refine ⟨λe he=>?_,Dw.mpr ⟨Pn λa ha b hb'=>⟨λhq c hc=>?_,λhq c hc=>?_⟩,Gk _ _,λa ha b hb'=>⟨λhq c hc=>?_,λhq c hc=>?_⟩⟩,λe he a ha=>?_,λb o _ e=>?_,λb o e=>?_,λb hb=>hb.elim⟩
   ·rcases Aw.mp he with he | he
    ·have:=qG q ok (N.length - ps.length) e he
     obtain ⟨v,x,F⟩:=e
     cases x with
     | drw=>exact absurd (hs _ he).2 (by show ¬ (true=false); decide)
     | _=>exact this
    ·rw[Af.mp he]
     intro a ha
     have:=(hG _ ha).1
     cases q:H a with
     | none=>exact absurd q this
     | some o=>exact ⟨o,by first | rfl | exact q,by first | rfl | exact q⟩
   ·rw[(hs a ha).1] at hc; cases hc
   ·rw[(hs b hb').1] at hc; cases hc
   ·rw[(hs a ha).1] at hc; cases hc
   ·rw[Af.mp hb'] at hc
    exact gF a ha c hc
   ·rcases Aw.mp he with he | he
    ·rw[(hs e he).1] at ha; cases ha
    ·rw[Af.mp he] at ha
     exact .inl (h0n ha)
   ·by_cases hb:b∈C
    ·rw[h0n hb] at e; cases e
    ·rw[h0s hb] at e; exact e
   ·by_cases hb:b∈C
    ·rw[h0n hb] at e; cases e
    ·rw[h0s hb] at e; exact ⟨o,e⟩
  ·exact k1 .non .none [] H' p .non (λ_ z=>(nomatch z)) (kZ hA)
  ·obtain ⟨m,d,rfl,hm,r⟩:=p
   obtain ⟨u,e2,rd,_⟩:=hA.ok _ mem_mid
   cases e2
   have hA2:At K H0 (λ_=>False) δ'.n ((S'++[⟨some v,.dat m d,F'⟩])++[⟨none,.grd H,C⟩]) H':=by rw[Ee]; exact hA
   refine k1 v d F' H' r rd (λa ha=>?_) (kZ hA2)
   have sp:=(Dw.mp hA2.sep).2.2 _ (Ai _ Aa) _ Aa
   exact λz=>sp.2 (.inr rfl) a z ha
end
def xQ(pf:PF)(da:DA):DE:=λδ P=>da δ λxs δ1=>noPk xs=true/\match datas xs with
 | some ds=>pf ds λd=>P (.dat .sh d) δ1
 | none=>False
theorem mR:∀{As:List Ent},noPk (As.map Ent.x)=true->∀e∈As,Pl e.x=false
 | [],_,e,he=>nomatch he
 | ⟨v,x,F⟩::As,h,e,he=>by
  rw[Ar] at h
  have hh:Pl x=false/\noPk (As.map Ent.x)=true:=by
   cases x with
   | dat m d=>cases m <;> first | exact ⟨rfl,h⟩ | (simp [noPk] at h)
   | _=>exact ⟨rfl,by simpa [noPk] using h⟩
  rcases Ap.mp he with rfl | he
  ·exact hh.1
  ·exact mR hh.2 e he
section
variable{X:Cx}{CX:nA}{k:Nat}{f:Addr}{fd:Bz}{ps:List Str}{pf:PF}{E:XK}{x:Str}{p pos:Pos}{e:Expr}{es:List Expr}{da:DA}
theorem mY(F:FnOk X.prog X.w X.K X.mg X.base CX k f fd ps (FK X.K pf))(hr:Room k X.A)(hg:Gl X x)(hm:X.mg x=some (.ref f))(hk:PySem.W.keepIn X.K (.ref f)=true)(hb:Binds X.K fd ps [])(hx:Mc CX X E)(ha:iP X (e::es) da)(hdb:(x == ("__debug__" : Str))=false:=by decide)(he:Bf (e::es) X.env=(false,eval e X.env)::Bf es X.env:=by rfl)(hpl:(Gn pos (Bf es X.env)).any (·.1)=false:=by rfl):Em X (.Call (.Name x p) (e::es) [] pos) (xQ pf da):=by
 refine PE.imp (Vx F hr hg hm hk hb .nil hx ha hdb he hpl) λσ H Q h=>?_
 obtain ⟨H0,Y,S,T,δ,P,rfl,hS,hA,hd,kk⟩:=h
 refine ⟨H0,Y,S,T,δ,_,rfl,hS,hA,hd,λxs δ' As us S' H' e1 e2 ex eu hA' p=>?_⟩
 subst ex
 obtain ⟨np,p⟩:=p
 cases q:datas (As.map Ent.x) with
 | none=>rw[q] at p; exact p.elim
 | some ds =>
  rw[q] at p
  rw[El]
  have hAs:=mR np
  have hE:=hA'.dropL
  refine ⟨As,δ'.n,ds,_,(S'++T).flatMap cells,eu,λe he=>hA'.ok e (Ai _ (An _ he)),q,p,λa ha=>?_,λv d F H'' r rd fr s=>?_⟩
  ·obtain ⟨g,hg1,hg2⟩:=Jo.mp ha
   refine ⟨λz=>?_,λe he=>?_⟩
   ·obtain ⟨o,q⟩:=(hE.ok g hg1).dom a (Gq _ _ hg2)
    rw[z] at q; cases q
   ·obtain ⟨_,hp2,hp⟩ := Dw.mp hA'.sep
    rcases Aw.mp hg1 with hg1 | hg1
    ·exact (hp g hg1 e (An _ he)).1 (.inl (hAs e he)) a hg2
    ·exact ((Dw.mp hp2).2.2 e he g hg1).2 (.inl (hAs e he)) a hg2
  ·refine kk _ δ' v F S' H'' e1 e2 (((hE.grow s (Al _)).pushS rd λf hf a ha z=>fr a z (List.mem_flatMap.mpr ⟨f,hf,ha⟩)).tomid) r
end
def BK(da:DA):DE:=λδ P=>da δ λxs δ1=>match xs with
 | [.dat _ (.tuple ds)]=>∃ns:List Int,ds=ns.map Bs/\(∀x∈ns,0<=x/\x<60)/\P (.dat .ow (.list ((aP ns).map Bs))) δ1
 | _=>False
section
variable{X:Cx}{p p2 pos pos2:Pos}{e:Expr}{da:DA}
theorem W9(hc:X.calm=true)(hg:Gl X "sorted")(hm:X.mg "sorted" = none)(hg2:Gl X "set")(hm2:X.mg "set" = none)(ha:iP X [e] da)(he:Bf [e] X.env=[(false,eval e X.env)]:=by rfl)(he2:Bf [.Call (.Name "set" p2) [e] [] pos2] X.env=[(false,eval (.Call (.Name "set" p2) [e] [] pos2) X.env)]:=by rfl):Em X (.Call (.Name "sorted" p) [.Call (.Name "set" p2) [e] [] pos2] [] pos) (BK da):=by
 refine PE.imp (Pf (iA hc) hg hm (by decide +kernel) (Eb (Su (wB hc) hg2 hm2 (by decide +kernel) ha (by decide) (by decide) he rfl) Jk he2) (by decide) (by decide) he2 rfl) λσ H Q h=>?_
 obtain ⟨H0,Y,S,T,δ,P,rfl,hS,hA,hd,k⟩:=h
 refine ⟨H0,Y,S,T,δ,_,rfl,hS,hA,hd,λxs δ' As us S' H' e1 e2 ex eu hA' p=>?_⟩
 split at p
 ·obtain ⟨v,F,rfl,hA2⟩:=Ip eu hA' ex
  obtain ⟨ns,rfl,hb,pp⟩:=p
  obtain ⟨a,xs,rfl,ha,ra,hz⟩:=(hA2.told mem_mid).tup_inv
  obtain ⟨rfl,_⟩:=ra.ints_inv
  refine ⟨a,ns,HY,rfl,Vi.of ha,by decide,λx hx=>Zr (hb x hx).1 (hb x hx).2,λq hq=>?_⟩
  refine ⟨q,ns,rfl,Et,λr us nr nd pw mem=>?_⟩
  rw[F6 (dX nd pw) mem]
  have s1:=Gu hq (nJ X.w q ns)
  exact k _ δ' _ _ S' _ e1 e2 ((hA2.drop.grow s1 (Al _)).newI (RdFs.ints _) (Rw _) (by rw[Ab]; exact sz (by have:=vE hb; omega)) nr .ow) pp
 ·exact p.elim
end
section
variable(K:PySem.W.Frag)(H0:Hp)
def qW(de:DE):TE:=λσ H Q=>∃(S T:List Ent) (δ:DS) (P:DV->DS->Prop),vs S=σ/\Sl S δ/\At K H0 (λ_=>False) δ.n (S++T) H/\de δ P /\
 ∀x δ' v F S' H',vs S'=σ->Sl S' δ'->At K H0 (λ_=>False) δ'.n (S'++⟨some v,x,F⟩::T) H'->P x δ'->Q v H'
def BJ(da:DA):TA:=λσ H Q=>∃(S T:List Ent) (δ:DS) (P:List DV->DS->Prop),vs S=σ/\Sl S δ/\At K H0 (λ_=>False) δ.n (S++T) H/\da δ P /\
 ∀xs δ' As us S' H',vs S'=σ->Sl S' δ'->As.map Ent.x=xs->As.map Ent.v=us.map some->At K H0 (λ_=>False) δ'.n (S'++(As++T)) H'->P xs δ'->Q us H'
def mK(db:DB):TS:=λD σ H=>∃(S T:List Ent) (δ:DS) (P:DEnds),vs S=σ/\Sl S δ/\(∀e∈T,Pl e.x=false)/\At K H0 (λ_=>False) δ.n (S++T) H/\db P δ /\
 (∀δ' S' H',Sl S' δ'->At K H0 (λ_=>False) δ'.n (S'++T) H'->P.nx δ'->D.nx (vs S') H') /\
 (∀x δ' v F S' H',Sl S' δ'->At K H0 (λ_=>False) δ'.n (S'++⟨some v,x,F⟩::T) H'->P.rt x δ'->D.rt v H') /\
 (∀δ' S' H',Sl S' δ'->At K H0 (λ_=>False) δ'.n (S'++T) H'->P.bk δ'->D.bk (vs S') H') /\
 (∀δ' S' H',Sl S' δ'->At K H0 (λ_=>False) δ'.n (S'++T) H'->P.ct δ'->D.ct (vs S') H')
end
abbrev PX:=List Ad->(Ad->Prop)->(Addr->Prop)->Prop
def Yd(K:PySem.W.Frag)(pf:PX):Sp:=λus H Q E=>∃(As:List Ent) (n:Nat) (ds:List Ad) (R:Ad->Prop) (Ex:Addr->Prop),As.map Ent.v=us.map some/\(∀e∈As,Gx K H n e)/\datas (As.map Ent.x)=some ds/\pf ds R Ex /\
 (∀v d F H',R d->RdF K H' v d F->F.Nodup->(∀a∈F,H a=none)->Nh H H'->Q v H')/\∀C H',Ex C->Nh H H'->E (.ref C) none H'
def wJ(pf:PX)(Ex:Addr->Prop)(da:DA):DE:=λδ P=>da δ λxs δ1=>match datas xs with
 | some ds=>pf ds (λd=>P (.dat .ow d) δ1) Ex
 | none=>False
def pF(Ex:Addr->Prop)(C:Addr):DB:=λ_ _=>Ex C
section
variable{X:Cx}{H0:Hp}{st:Stmt}{Ih body:List Stmt}{e tg c iter:Expr}{es:List Expr}{de:DE}{da:DA}{dt:DT}{dg:DG}{di:DI}{t u db:DB}{pos:Pos}
theorem Uz(h:iP X es da):PA X es (BJ X.K H0 da):=PA.imp h λσ H Q ⟨S,T,δ,P,z⟩=>⟨H0,_,S,T,δ,P,z⟩
theorem W5(h:uV X st db):PS X st (mK X.K H0 db):=PS.impD h λD σ H ⟨S,T,δ,P,z⟩=>⟨H0,_,S,T,δ,P,z⟩
theorem dF(h:Yx X Ih db):cM X Ih (mK X.K H0 db):=cM.impD h λD σ H ⟨S,T,δ,P,z⟩=>⟨H0,_,S,T,δ,P,z⟩
theorem sO(ha:PE X e (qW X.K H0 de))(hr:PA X es (BJ X.K H0 da))(hs:Bf (e::es) X.env=(false,eval e X.env)::Bf es X.env:=by rfl):PA X (e::es) (BJ X.K H0 (mF de da)):=by
 refine PA.imp (Eb ha hr hs) λσ H Q h=>?_
 obtain ⟨S,T,δ,P,rfl,hS,hA,hd,k⟩:=h
 refine ⟨S,T,δ,_,rfl,hS,hA,hd,λx δ1 v F S1 H1 e1 e2 hA1 p1=>?_⟩
 refine ⟨S1,⟨some v,x,F⟩::T,δ1,_,e1,e2,hA1,p1,λxs δ2 As us S2 H2 e3 e4 ex eu hA2 p2=>?_⟩
 refine k (x::xs) δ2 (⟨some v,x,F⟩::As) (v::us) S2 H2 e3 e4 (by rw[Ar,ex]) (by rw[Ar,Ar,eu]) ?_ p2
 refine hA2.perm ((Kf S2).append ?_)
 rw[En]
 exact Fz
theorem Gm(h:PS X st (mK X.K H0 t)):cM X [st] (mK X.K H0 t):=Lj h
theorem Gf(h1:PS X st (mK X.K H0 t))(h2:cM X Ih (mK X.K H0 u)):cM X (st::Ih) (mK X.K H0 (V5 t u)):=by
 refine cM.impD (Gv h1 h2) λD σ H h=>?_
 obtain ⟨S,T,δ,P,rfl,hS,hT,hA,hd,k1,k2,k3,k4⟩:=h
 exact ⟨S,T,δ,_,rfl,hS,hT,hA,hd,λδ' S' H' e2 hA' p=>⟨S',T,δ',P,rfl,e2,hT,hA',p,k1,k2,k3,k4⟩,k2,k3,k4⟩
theorem Ol{a b:List Stmt}(hc:Zg X c dt)(ha:cM X a (mK X.K H0 t))(hb:cM X b (mK X.K H0 u)):PS X (.If c a b pos) (mK X.K H0 (GX dt t u)):=by
 refine PS.impD (eL hc ha hb) λD σ H h=>?_
 obtain ⟨S,T,δ,P,rfl,hS,hT,hA,hd,k1,k2,k3,k4⟩:=h
 refine ⟨H0,_,S,T,δ,_,rfl,hS,hA,hd,λb δ' S' H' e1 e2 hA' p=>?_⟩
 cases b with
 | true=>exact cX ⟨S',T,δ',P,e1,e2,hT,hA',p,k1,k2,k3,k4⟩
 | false=>exact Xf ⟨S',T,δ',P,e1,e2,hT,hA',p,k1,k2,k3,k4⟩
theorem pN{i:Nat}{x:Str}{pos':Pos}(hN:X.N.Nodup)(hi:X.N[i]? = some x)(hx:Loc X.env.scope x)(he:PE X e (qW X.K H0 de))(hs:Ir e (some (.Name x pos')) pos.line X.env=pure false:=by rfl)(hf:X.fn x=true\/X.env.scope.names.lookup x=some .local:=by first | exact .inl rfl | exact .inr rfl | assumption):PS X (.Assign [.Name x pos'] e pos) (mK X.K H0 (mH de (My i))):=by
 refine PS.impD (Na hN hi hx he hs hf) λD σ H h=>?_
 obtain ⟨S,T,δ,P,rfl,hS,hT,hA,hd,k1,k2,k3,k4⟩:=h
 refine ⟨S,T,δ,_,rfl,hS,hA,hd,λx δ' v F S' H' e1 e2 hA' p=>?_⟩
 exact Zs _ _ _ _ ⟨H0,_,S',T,δ',x,F,P.nx,e1,e2,hA',p,λδ2 S2 H2 e3 hA2 q=>k1 δ2 S2 H2 e3 hA2 q⟩
end
section
variable{X:Cx}{H0:Hp}{CX:nA}{k:Nat}{f:Addr}{fd:Bz}{ps:List Str}{pf:PF}{px:PX}{Ex:Addr->Prop}{E:XK}{x:Str}{p pos:Pos}{e:Expr}{es:List Expr}{da:DA}
theorem yZ{K:PySem.W.Frag}{n:Nat}{L:List Ent}{H:Hp}(h:At K H0 (λ_=>False) n L H):Nh H0 H:=λb o q=>h.same b o (λz=>z) q
theorem Ga(hE:∀C H',Ex C->Nh H0 H'->E (.ref C) none H')(F:FnOk X.prog X.w X.K X.mg X.base CX k f fd ps (Yd X.K px))(hr:Room k X.A)(hg:Gl X x)(hm:X.mg x=some (.ref f))(hk:PySem.W.keepIn X.K (.ref f)=true)(hb:Binds X.K fd ps [])(hx:Mc CX X E)(ha:PA X (e::es) (BJ X.K H0 da))(hdb:(x == ("__debug__" : Str))=false:=by decide)(he:Bf (e::es) X.env=(false,eval e X.env)::Bf es X.env:=by rfl)(hpl:(Gn pos (Bf es X.env)).any (·.1)=false:=by rfl):PE X (.Call (.Name x p) (e::es) [] pos) (qW X.K H0 (wJ px Ex da)):=by
 refine PE.imp (Vx F hr hg hm hk hb .nil hx ha hdb he hpl) λσ H Q h=>?_
 obtain ⟨S,T,δ,P,rfl,hS,hA,hd,kk⟩:=h
 refine ⟨S,T,δ,_,rfl,hS,hA,hd,λxs δ' As us S' H' e1 e2 ex eu hA' p=>?_⟩
 subst ex
 cases q:datas (As.map Ent.x) with
 | none=>rw[q] at p; exact p.elim
 | some ds =>
  rw[q] at p
  rw[El]
  refine ⟨As,δ'.n,ds,_,Ex,eu,λe he=>hA'.ok e (Ai _ (An _ he)),q,p,λv d F H'' r rd nd fr s=>?_,λC H'' hc s=>hE C H'' hc ((yZ hA').trans s)⟩
  exact kk _ δ' v F S' H'' e1 e2 (((hA'.dropL.grow s (Al _)).pushF rd nd (λa ha=>hA'.dropL.free (fr a ha)) (λa ha=>hA'.new0 (fr a ha))).tomid) r
end
section
variable{P:Bh}{w:World}{K:PySem.W.Frag}{mg:Str->Option Value}{base:Heap}{N:List Str}{qual:Str}{scope:Scope}{f:Addr}{cd:Value}{A:Cr}{outer:List Env}{s:Ah}{H:Hp}{E:XK}
theorem Ph{Ex:Addr->Prop}{C:Addr}{x:Str}{np cpos pos:Pos}{t:Str}{tp:Pos}{j:Nat}(hE:∀C H',Ex C->Nh H H'->E (.ref C) none H')(hg:Gl (Hq (Mh P w) P w K mg base N qual scope f cd A outer s H E) x)(hm:mg x=some (.ref C))(hc:PySem.W.excIn K C pE "ValueError.__new__" = true)(hd:(x == ("__debug__" : Str))=false:=by decide):PS (Hq (Mh P w) P w K mg base N qual scope f cd A outer s H E) (.Raise (some (.Call (.Name x np) [.Constant (.str t) j tp] [] cpos)) none pos) (mK K H (pF Ex C)):=by
 refine PS.impD (mU hg hm hc (Eb Xt Jk) hd) λD σ H1 h=>?_
 obtain ⟨S,T,δ,Q,rfl,hS,hT,hA,hd,_⟩:=h
 exact ⟨(by show 1<=Ax; decide),hE C H1 hd (yZ hA)⟩
theorem Kg{x:Str}{st:Stmt}{fd:Bz}{ps:List Str}{k:Nat}{px:PX}{db:(Addr->Prop)->DB}(F:Fun K x qual st f fd)(S:FnScope N ps (Bj st))(hb:∀(cdv:Value) (A:Cr) (outer:List Env) (s:Ah) (H:Hp) (E:XK) (Ex:Addr->Prop),Room k (A.deeper (Ed qual (Bj st) s.heap.objs.size f cdv))->(∀C H',Ex C->Nh H H'->E (.ref C) none H')->cM (Hq (Mh P w) P w K mg base N qual (Bj st) f cdv A outer s H E) (Hy st) (mK K H (db Ex)))(h:∀ds R Ex,px ds R Ex->ds.length=ps.length/\db Ex (retE R) ⟨args0 ds (N.length - ps.length),0⟩):FnOk P w K mg base (Mh P w) (k+1) f fd ps (Yd K px):=by
 refine IV F S (λvs H Q E z=>?_) λcdv A outer s H us Q E hr z=>?_
 ·obtain ⟨As,n,ds,R,Ex,eu,ok,q,hp,_⟩:=z
  have l1:=(h ds R Ex hp).1
  have l2:=Hd q
  rw[Ab] at l2
  have l3:=congrArg Fs eu
  rw[Ab,Ab] at l3
  omega
 ·obtain ⟨As,n,ds,R,Ex,eu,ok,q,hp,k1,kx⟩:=z
  obtain ⟨l1,hd⟩:=h ds R Ex hp
  have l2:=Hd q
  rw[Ab] at l2
  have l3:=congrArg Fs eu
  rw[Ab,Ab] at l3
  refine ⟨_,hb cdv A outer s H E Ex hr kx,As.map cC++Hi (N.length - ps.length),[],⟨args0 ds (N.length - ps.length),0⟩,retE R,?_,?_,λ_ z=>(nomatch z),?_,hd,λδ' S' H' e1 hA p=>?_,λx δ' v F' S' H' e1 hA p=>?_,λ_ _ _ _ _ p=>p.elim,λ_ _ _ _ _ p=>p.elim⟩
  ·unfold vs L2.start Hi
   rw[Bd,M7,eu,Lf,show us.length=ps.length by omega]
  ·unfold Sl args0 Hi
   rw[Bd,Rm q,Lf]
  ·rw[El]
   have hs:=Zj q (N.length - ps.length)
   refine ⟨λe he=>?_,Pn λa ha b hb'=>⟨λhq c hc=>?_,λhq c hc=>?_⟩,λe he a ha=>?_,λb o _ e=>e,λb o e=>⟨o,e⟩,λb hb=>hb.elim⟩
   ·have:=qG q ok (N.length - ps.length) e he
    obtain ⟨v,x,F⟩:=e
    cases x with
    | drw=>exact absurd (hs _ he).2 (by show ¬ (true=false); decide)
    | _=>exact this
   ·rw[(hs a ha).1] at hc; cases hc
   ·rw[(hs b hb').1] at hc; cases hc
   ·rw[(hs e he).1] at ha; cases ha
  ·exact k1 .non .none [] H' p .non Cy (λ_ z=>(nomatch z)) λb o e=>hA.same b o (λz=>z) e
  ·obtain ⟨d,rfl,r⟩:=p
   rw[show S'++[(⟨some v,.dat .ow d,F'⟩ : Ent)]=S'++⟨some v,.dat .ow d,F'⟩::[] from rfl] at hA
   obtain ⟨u,e2,rd,nd,_⟩:=hA.ok _ mem_mid
   cases e2
   refine k1 v d F' H' r rd (nd rfl) (λa ha=>?_) λb o e=>hA.same b o (λz=>z) e
   rcases hA.new _ mem_mid a ha with z | z
   ·exact z
   ·exact z.1.elim
end
end DL
namespace Nd
open PySem PySem.Spec PyProof.Rows L2
end Nd
namespace DL
open PySem PySem.Spec PyProof.Rows L2 Nd
end DL
namespace Nd
open PySem PySem.Spec PyProof.Rows L2
end Nd
namespace Nd
open PySem PySem.Spec
end Nd
namespace Nd
open PySem PySem.Spec PyProof.Rows L2
end Nd
namespace DL
open PySem PySem.Spec PyProof.Rows L2 Nd
end DL
namespace Nd
open PySem PySem.Spec PyProof.Rows L2
end Nd
namespace DL
open PySem PySem.Spec PyProof.Rows L2 Nd
end DL
namespace Nd
open PySem PySem.Spec PyProof.Rows L2
end Nd
namespace DL
open PySem PySem.Spec PyProof.Rows L2 Nd
end DL
namespace Ts
open PySem PyProof.Rows L2
end Ts
namespace DL
open PySem PySem.Spec PyProof.Rows L2 Nd Ts
end DL
namespace DL
open PySem PySem.Spec PyProof.Rows L2 Nd
end DL
namespace Nd
open PySem PySem.Spec PyProof.Rows L2
end Nd
namespace DL
open PySem PySem.Spec PyProof.Rows L2 Nd
end DL
namespace Nd
open PySem PySem.Spec PySem.Calls PyProof.Rows PyProof.V L2 Ts
end Nd
namespace DL
open PySem PySem.Spec PyProof.Rows L2 Nd Ts
theorem tab_no{K:PySem.W.Frag}{x:Str}(nm:PySem.W.nsIn K Bv x=some none):PySem.W.tabIn K x=none:=by
 unfold PySem.W.tabIn
 rw[nm]
end DL
namespace HT
open PySem PyProof.Rows
end HT
namespace Nd
open PySem PySem.Spec PySem.Calls PyProof.Rows PyProof.V L2 Ts
end Nd
namespace DL
open PySem PySem.Spec PyProof.Rows L2 Nd Ts
end DL
namespace DL
open PySem PySem.Spec PyProof.Rows L2 Nd
end DL
namespace DL
open PySem L2 Nd
end DL
namespace Nd
open PySem PySem.Spec PyProof.Rows L2
end Nd
namespace DL
open PySem PySem.Spec PyProof.Rows L2 Nd
def R4(i:Nat)(z y:DV)(δ:DS)(D:DEnds):Prop:=match δ.sl[i]?,z,y with
 | some (.dat m (.list ds)),.dat _ (.int k),.dat my e=>own1 m=true/\npk δ.sl=true/\my≠.pk/\ds.length<1000000/\0<=k/\k<=1000000/\D.nx ⟨δ.sl.set i (.dat (IR m my) (.list (CY ds k.toNat e))),δ.n⟩
 | _,_,_=>False
def j5(i:Nat)(dk de:DE):DB:=λD δ=>match δ.sl[i]? with
 | some (.dat _ (.list _))=>dk δ λz δ1=>de δ1 λy δ2=>R4 i z y δ2 D
 | _=>False
end DL
namespace NdS
open PySem
theorem hW{m:Nat}:∀{f i t:Nat},t<f->it m t i∈CF m f i
 | f+1,i,0,_=>Aa ..
 | f+1,i,t+1,h=>Ae _ (hW (Nat.lt_of_succ_lt_succ h))
theorem W4{m:Nat}(i:Nat):st (2 * m) i % m=st m (i % m):=by
 unfold st
 rw[Nat.mod_mod_of_dvd _ ⟨2,by omega⟩,Qr,Nat.mul_mod]
 conv=>rhs; rw[Qr,Nat.mul_mod,Nat.mod_mod]
theorem wW{m:Nat}:∀(t i:Nat),it (2 * m) t i % m=it m t (i % m)
 | 0,i=>rfl
 | t+1,i=>by
  show it (2 * m) t (st (2 * m) i) % m=it m t (st m (i % m))
  rw[wW t,W4]
theorem P9{m i:Nat}(h:0<m):st m i<m:=Iw _ h
theorem O3{m:Nat}(h:0<m):∀{t i:Nat},i<m->it m t i<m
 | 0,_,hi=>hi
 | t+1,i,hi=>O3 h (t:=t) (P9 h)
theorem M5{m i:Nat}:st (2 * m) ((i+m) % (2 * m))=(st (2 * m) i+m) % (2 * m):=by
 unfold st
 have e:(i+m) * 5+1=i * 5+1+m+2 * (2 * m):=by omega
 rw[Qr,Nat.mul_mod,Nat.mod_mod,<- Nat.mul_mod,<- Qr,e,Nat.add_mul_mod_self_right,Qr]
 conv=>rhs; rw[Qr,Nat.mod_mod]
theorem rD{m:Nat}:∀(t i:Nat),i<2 * m->it (2 * m) t ((i+m) % (2 * m))=(it (2 * m) t i+m) % (2 * m)
 | 0,i,_=>rfl
 | t+1,i,h=>by
  show it (2 * m) t (st (2 * m) ((i+m) % (2 * m)))=_
  rw[M5,rD t _ (P9 (by omega))]
  rfl
theorem Nc{m:Nat}(g:Il m)(h:it (2 * m) m 0=m):Il (2 * m):=by
 obtain ⟨h0,h1,h2⟩:=g
 have half:∀t,it (2 * m) (m+t) 0=(it (2 * m) t 0+m) % (2 * m):=λt=>by
  rw[aS,h]
  have:=rD (m:=m) t 0 (by omega)
  rw[Oh,Gz (show m<2 * m by omega)] at this
  exact this
 refine ⟨by omega,?_,λe he=>?_⟩
 ·have:=half m
  rw[h,show m+m=2 * m by omega,Nat.mod_self] at this
  exact this
 ·obtain ⟨t,ht,et⟩:=Zm (h2 (e % m) (Iw _ h0))
  have k:=wW (m:=m) t 0
  rw[Nat.zero_mod,et] at k
  have lt:it (2 * m) t 0<2 * m:=O3 (by omega) (by omega)
  by_cases c:it (2 * m) t 0=e
  ·rw[<- c]; exact hW (by omega)
  ·have hh:=half t
   have : (it (2 * m) t 0+m) % (2 * m)=e:=by
    generalize it (2 * m) t 0=x at k lt c
    have up:∀{y},m<=y->y<2 * m->y % m=y - m:=λ{y} h1 h2=>by rw[Nat.mod_eq_sub_mod h1,Gz (by omega)]
    by_cases c1:x<m <;> by_cases c2:e<m
    ·rw[Gz c1,Gz c2] at k; omega
    ·rw[Gz c1,up (by omega) he] at k
     rw[Gz (by omega)]; omega
    ·rw[up (by omega) lt,Gz c2] at k
     rw[show x+m=e+2 * m by omega,Nat.add_mod_right,Gz he]
    ·rw[up (by omega) lt,up (by omega) he] at k; omega
   rw[<- this,<- hh]
   exact hW (by omega)
theorem qA:Il 512:=Nc iW (by decide +kernel)
theorem kH:Il 1024:=Nc qA (by decide +kernel)
theorem mP:Il 2048:=Nc kH (by decide +kernel)
theorem kA:Il 4096:=Nc mP (by decide +kernel)
theorem vG:Il 8192:=Nc kA (by decide +kernel)
theorem wA:∀{i:Nat},i<=10->Il (2 ^ (i+3))
 | 0,_=>rX | 1,_=>yL | 2,_=>i4 | 3,_=>vW | 4,_=>qI | 5,_=>iW
 | 6,_=>qA | 7,_=>kH | 8,_=>mP | 9,_=>kA | 10,_=>vG
 | i+11,h=>absurd h (by omega)
theorem lF{n:Nat}(hn:n<8192):∀(j i f:Nat),i+j=10->∃k,i<=k/\k<=10/\Jn n (f+j+1) (2 ^ (i+3))=2 ^ (k+3)/\n<2 ^ (k+3)
 | 0,i,f,h=>by
  have : i=10:=by omega
  subst this
  refine ⟨10,Al _,Al _,?_,hn⟩
  unfold Jn
  rw[if_neg (by show ¬ 8192<=n; omega)]
 | j+1,i,f,h=>by
  by_cases c:2 ^ (i+3)<=n
  ·obtain ⟨k,k1,k2,k3,k4⟩:=lF hn j (i+1) f (by omega)
   refine ⟨k,by omega,k2,?_,k4⟩
   rw[<- k3,show f+(j+1)+1=(f+j+1)+1 by omega]
   show (if 2 ^ (i+3)<=n then Jn n (f+j+1) (2 ^ (i+3) * 2) else _)=_
   rw[if_pos c,<- Nat.pow_succ]
  ·refine ⟨i,Al _,by omega,?_,Nat.lt_of_not_le c⟩
   show (if 2 ^ (i+3)<=n then Jn n (f+(j+1)) (2 ^ (i+3) * 2) else _)=_
   rw[if_neg c]
theorem vT{n:Nat}(hn:n<8192):∃m,Du n=m+1/\Il (m+1)/\n<=m/\7<=m/\m<8192/\m % 2=1:=by
 obtain ⟨k,k1,k2,k3,k4⟩:=lF hn 10 0 53 rfl
 have k3':Du n=2 ^ (k+3):=k3
 have e:2 ^ (k+3)=2 ^ k * 8:=Nat.pow_add 2 k 3
 have p:0<2 ^ k:=Nat.pow_pos (by decide)
 have up:2 ^ (k+3)<=2 ^ 13:=Vd (by decide) (by omega)
 have up':2 ^ (k+3)<=8192:=up
 refine ⟨2 ^ (k+3) - 1,by omega,?_,by omega,by omega,by omega,by omega⟩
 rw[show 2 ^ (k+3) - 1+1=2 ^ (k+3) by omega]
 exact wA k2
theorem sE{t:Bb}{es:Array (Int×Value)}{wanted:Nat}(hp:t.plain=true)(hw:wanted<8192)(h2:es.size * 2<=wanted):∃(t':Bb) (order:Array Nat),t.relaid (es.map (·.1)) wanted=some (t',order)/\order.toList.Perm (Cc es.size)/\Tab es.size t'/\t'.mask % 2=1/\Du wanted<=8192/\t'.led=t.led:=by
 obtain ⟨m,e1,g,hm,m7,m8,mo⟩:=vT hw
 have sz:(es.map (·.1)).size=es.size:=Array.size_map ..
 obtain ⟨t',order,q1,q2,q3,q4⟩:=kN (mask:=m) (finger:=t.finger) (moves:=t.movedTo m) (led:=t.led) g (es.map (·.1)) (by rw[sz]; omega)
 rw[sz] at q2 q3
 refine ⟨t',order,?_,q2,q3,?_,by omega,q4⟩
 ·unfold SetTable.relaid
  rw[e1,Yu,hp]
  exact q1
 ·rw[(Wj q1).2.1]; exact mo
def Hh(t:Bb):Nat->Dh->Dh
 | 0,p=>p
 | k+1,p=>Hh t k (t.advance p)
structure WayOk(t:Bb)(p:Dh):Prop where
 more:p.more<=9
 top:p.j+p.more<=t.mask
 dum:p.dummy=none
theorem WayOk.next{t:Bb}{p:Dh}(x:WayOk t p):WayOk t (t.advance p):=by
 obtain ⟨h1,h2,h3⟩:=x
 unfold Hn
 split
 ·exact ⟨by dsimp only; omega,by dsimp only; omega,h3⟩
 ·rw[Zi]
  have hi:(p.i * 5+1+p.perturb / 32) % (t.mask+1)<=t.mask:=Nq.mp (Iw _ (Iv _))
  have a1:=Tn hi
  have a2:=Mv t.mask ((p.i * 5+1+p.perturb / 32) % (t.mask+1))
  exact ⟨Kx _ _,by dsimp only; omega,h3⟩
theorem Sz{t:Bb}(h:Int):WayOk t (t.probeStart h):=by
 have hi:Bp h % (t.mask+1)<=t.mask:=Nq.mp (Iw _ (Iv _))
 have a1:=Tn hi
 have a2:=Mv t.mask (Bp h % (t.mask+1))
 exact ⟨Kx _ _,by show Bp h % (t.mask+1)+(Ck t.mask (Bp h % (t.mask+1)) - Bp h % (t.mask+1))<=t.mask; omega,rfl⟩
theorem iI{t:Bb}:∀(k:Nat) (p:Dh),p.more=k->∃q:Dh,Hh t (k+1) p=q/\q.j=((p.i * 5+1+p.perturb / 32) % (t.mask+1))/\q.i=q.j/\q.perturb=p.perturb / 32/\q.more<=9
 | 0,p,h=>by
  refine ⟨_,rfl,?_⟩
  show (t.advance p).j=_/\(t.advance p).i=(t.advance p).j/\(t.advance p).perturb=_/\(t.advance p).more<=9
  unfold Hn
  rw[if_neg (by omega),Zi]
  exact ⟨rfl,rfl,rfl,Kx _ _⟩
 | k+1,p,h=>by
  have e:t.advance p={ p with j:=p.j+1,more:=p.more - 1 }:=by
   unfold Hn
   rw[if_pos (by omega)]
  obtain ⟨q,q1,q2,q3,q4,q5⟩:=iI k (t.advance p) (by rw[e]; show p.more - 1=k; omega)
  rw[e] at q2 q4
  exact ⟨q,q1,q2,q3,q4,q5⟩
theorem Ki{t:Bb}:∀(a b:Nat) (p:Dh),Hh t (a+b) p=Hh t b (Hh t a p)
 | 0,b,p=>by rw[Oh]; rfl
 | a+1,b,p=>by rw[Yv]; exact Ki a b _
theorem eV{t:Bb}:∀(u:Nat) (p:Dh),p.more<=9->∃k,k<=p.more+1+10 * u/\(Hh t k p).j=(lp (t.mask+1) (u+1) p.i p.perturb).1
 | 0,p,h=>by
  obtain ⟨q,q1,q2,q3,q4,q5⟩:=iI (t:=t) p.more p rfl
  exact ⟨p.more+1,by omega,by rw[q1]; exact q2⟩
 | u+1,p,h=>by
  obtain ⟨q,q1,q2,q3,q4,q5⟩:=iI (t:=t) p.more p rfl
  obtain ⟨k,k1,k2⟩:=eV u q q5
  refine ⟨p.more+1+k,by omega,?_⟩
  rw[Ki,q1,k2,q3,q2,q4]
  rfl
theorem tQ{t:Bb}{n:Nat}(x:Tab n t)(h:Int):∃k,k<10 * Cw t.mask/\t.slot (Hh t k (t.probeStart h)).j=.empty:=by
 have hm:=Sx x
 obtain ⟨e,he,hn⟩:=qF (m:=t.mask+1) x.rise (by rw[Ag,x.size]; omega)
 obtain ⟨u,hu,eu⟩:=bS x.good (i:=Bp h % (t.mask+1)) (p:=Bp h) (e:=e) (Iw _ (Iv _)) (gR h) he
 have tn:10 * Cw t.mask=10 * t.mask+150:=by unfold Cw; omega
 cases u with
 | zero=>exact ⟨0,by omega,(Ja x.toTabOk).mpr (by rw[show (Hh t 0 (t.probeStart h)).j=e from eu]; exact hn)⟩
 | succ u =>
  obtain ⟨k,k1,k2⟩:=eV (t:=t) u (t.probeStart h) (Sz h).more
  have:=(Sz (t:=t) h).more
  exact ⟨k,by omega,(Ja x.toTabOk).mpr (by rw[k2,show (lp (t.mask+1) (u+1) (t.probeStart h).i (t.probeStart h).perturb).1=e from eu]; exact hn)⟩
theorem tG{t:Bb}{n j i:Nat}(x:TabOk n t)(h:t.slot j=.live i):i<n:=by
 unfold Uk at h
 dsimp only at h
 split at h
 ·rename_i c
  injection h with h
  subst h
  have c':t.place[Bc t.place j]? = some j:=by simpa using c
  have:=(fO.mp c').1
  rw[<- x.size]
  exact this
 ·split at h <;> cases h
end NdS
namespace NdS
open PySem PyProof.Rows
theorem p8{t u:Bb}(h:t.mask=u.mask)(p:Dh):t.advance p=u.advance p:=by
 unfold Hn
 rw[h]
theorem bR{t u:Bb}(h:t.mask=u.mask):∀(k:Nat) (p:Dh),Hh t k p=Hh u k p
 | 0,_=>rfl
 | k+1,p=>by
  show Hh t k (t.advance p)=Hh u k (u.advance p)
  rw[p8 h,bR h k]
theorem aK{t u:Bb}(h:t.mask=u.mask)(x:Int):t.probeStart x=u.probeStart x:=by
 unfold SetTable.probeStart
 rw[h]
def Yf(t:Bb)(P:Nat->Prop)(h:Int)(j:Nat):Prop:=∃k,(Hh t k (t.probeStart h)).j=j/\∀k',k'<k->P (Hh t k' (t.probeStart h)).j
theorem Yf.mono{t u:Bb}{P Q:Nat->Prop}{h:Int}{j:Nat}(x:Yf t P h j)(e:t.mask=u.mask)(s:∀i,P i->Q i):Yf u Q h j:=by
 obtain ⟨k,h1,h2⟩:=x
 refine ⟨k,?_,λk' hk=>?_⟩
 ·rw[<- bR e,<- aK e]; exact h1
 ·rw[<- bR e,<- aK e]; exact s _ (h2 k' hk)
def BD(t:Bb)(es:List Int):Prop:=∀x∈es.zip t.place.toList,Yf t (·∈t.place.toList) x.1 x.2
theorem bT{t:Bb}:∀(k:Nat) (p:Dh),k<=p.more->Hh t k p={ p with j:=p.j+k,more:=p.more - k }
 | 0,_,_=>rfl
 | k+1,p,h=>by
  show Hh t k (t.advance p)=_
  have e:t.advance p={ p with j:=p.j+1,more:=p.more - 1 }:=by
   unfold Hn
   rw[if_pos (by omega)]
  rw[e,bT k _ (by show k<=p.more - 1; omega)]
  simp only[SetTable.Probe.mk.injEq,and_true,true_and]
  omega
def Qk(m i pe:Nat):Dh:={ j:=i,more:=Ck m i - i,i:=i,perturb:=pe,dummy:=none }
theorem i8{t:Bb}(i pe:Nat):Hh t (Ck t.mask i - i+1) (Qk t.mask i pe)=Qk t.mask ((i * 5+1+pe / 32) % (t.mask+1)) (pe / 32):=by
 rw[Ki,bT (Ck t.mask i - i) (Qk t.mask i pe) (Al _)]
 show t.advance _=_
 unfold Hn
 rw[if_neg (by show ¬ (Ck t.mask i - i - (Ck t.mask i - i) > 0); omega),Zi]
 rfl
theorem kO{t:Bb}{owner:Array (Option Nat)}:∀(fuel i pe j:Nat),Dk t.mask owner fuel i pe=some j->∃k,(Hh t k (Qk t.mask i pe)).j=j/\∀k',k'<k->(owner.getD (Hh t k' (Qk t.mask i pe)).j (some 0)).isNone=false
 | 0,_,_,_,h=>by unfold Dk at h; cases h
 | fuel+1,i,pe,j,h=>by
  unfold Dk at h
  split at h
  ·rename_i k hk
   injection h with h
   obtain ⟨p1,as,bs,e1,p2⟩:=List.find?_eq_some_iff_append.mp hk
   have el:∀(n:Nat) (as bs:List Nat) (k:Nat),Cc n=as++k::bs->as=Cc k/\k<n:=λn as bs k e=>by
    have l1:as.length<n:=by
     have:=congrArg Fs e
     rw[Dx,Be,Bq] at this
     omega
    have g:(Cc n)[as.length]? = some k:=by rw[e]; simp
    rw[List.getElem?_range l1] at g
    injection g with g
    refine ⟨?_,by omega⟩
    have tk:=congrArg (List.take as.length) e
    rw[List.take_left',List.take_range,Nat.min_eq_left (by omega)] at tk
    ·rw[<- tk,g]
    ·rfl
   obtain ⟨ea,kn⟩:=el _ _ _ _ e1
   refine ⟨k,?_,λk' hk'=>?_⟩
   ·rw[bT k _ (by show k<=Ck t.mask i - i; omega)]
    exact h
   ·rw[bT k' _ (by show k'<=Ck t.mask i - i; omega)]
    have:=p2 k' (by rw[ea]; exact Gd.mpr hk')
    show (owner.getD (i+k') (some 0)).isNone=false
    rw[Bool.not_eq_true'] at this
    exact this
  ·rename_i hk
   have none:=List.find?_eq_none.mp hk
   obtain ⟨k,k1,k2⟩:=kO fuel _ _ j h
   have sl:Hh t (Ck t.mask i - i+1) (Qk t.mask i pe)=Qk t.mask (SetTable.leap t.mask i pe).1 (SetTable.leap t.mask i pe).2:=i8 i pe
   refine ⟨Ck t.mask i - i+1+k,by rw[Ki,sl]; exact k1,λk' hk'=>?_⟩
   by_cases c:k'<=Ck t.mask i - i
   ·rw[bT k' _ c]
    have a:=Mv t.mask i
    have:=none k' (Gd.mpr (by omega))
    show (owner.getD (i+k') (some 0)).isNone=false
    exact Px.mpr this
   ·rw[show k'=Ck t.mask i - i+1+(k' - (Ck t.mask i - i+1)) by omega,Ki,sl]
    exact k2 _ (by omega)
theorem wH{t:Bb}:∀(k:Nat) (p:Dh),WayOk t p->WayOk t (Hh t k p)
 | 0,_,h=>h
 | k+1,_,h=>wH k _ h.next
theorem W8{t:Bb}(k:Nat)(h:Int):(Hh t k (t.probeStart h)).j<=t.mask:=by
 have:=(wH k _ (Sz (t:=t) h)).top
 omega
def bY(owner:Array (Option Nat))(i:Nat):Prop:=(owner.getD i (some 0)).isNone=false
def Z7(t:Bb)(H:Nat->Int)(owner:Array (Option Nat)):Prop:=∀j k,owner[j]? = some (some k)->Yf t (bY owner) (H k) j
theorem jR{m:Nat}:∀hs:List Int,hs.foldl (gX m) none=none
 | []=>rfl
 | h::hs=>by rw[Nn]; exact jR hs
theorem dW{owner:Array (Option Nat)}{j n i:Nat}(h:bY owner i):bY (owner.setIfInBounds j (some n)) i:=by
 unfold bY at *
 rw[Df] at *
 rw[cR]
 split
 ·split <;> rfl
 ·exact h
theorem qJ{t:Bb}{H:Nat->Int}:∀(hs:List Int) (owner:Array (Option Nat)) (n:Nat) (owner':Array (Option Nat)) (n':Nat),hs.foldl (gX t.mask) (some (owner,n))=some (owner',n')->(∀i h,hs[i]? = some h->H (n+i)=h)->Z7 t H owner->Z7 t H owner'/\owner'.size=owner.size
 | [],owner,n,owner',n',e,_,x=>by
  rw[List.foldl_nil] at e
  injection e with e
  injection e with e1 e2
  rw[<- e1]
  exact ⟨x,rfl⟩
 | h::hs,owner,n,owner',n',e,eH,x=>by
  rw[Nn] at e
  cases ef:Dk t.mask owner (Cw t.mask) (Bp h % (t.mask+1)) (Bp h) with
  | none =>
   have e1:gX t.mask (some (owner,n)) h=none:=by
    show (do
     let j <- Dk t.mask owner (Cw t.mask) (Bp h % (t.mask+1)) (Bp h)
     pure (owner.setIfInBounds j (some n),n+1))=_
    rw[ef]
    rfl
   rw[e1,jR] at e
   cases e
  | some j =>
   have e1:gX t.mask (some (owner,n)) h=some (owner.setIfInBounds j (some n),n+1):=by
    show (do
     let j <- Dk t.mask owner (Cw t.mask) (Bp h % (t.mask+1)) (Bp h)
     pure (owner.setIfInBounds j (some n),n+1))=_
    rw[ef]
    rfl
   rw[e1] at e
   refine (λz=>⟨z.1,z.2.trans (jO ..)⟩) (qJ hs _ _ owner' n' e (λi h' hi=>?_) λj' k hk=>?_)
   ·rw[show n+1+i=n+(i+1) by omega]
    exact eH (i+1) h' hi
   ·rw[cR] at hk
    split at hk
    ·rename_i c
     split at hk
     ·injection hk with hk
      injection hk with hk
      obtain ⟨k0,k1,k2⟩:=kO (t:=t) _ _ _ _ ef
      have hH:H k=h:=by rw[<- hk]; exact eH 0 h rfl
      rw[hH,<- c]
      exact Yf.mono (P:=bY owner) ⟨k0,k1,k2⟩ rfl λi z=>dW z
     ·cases hk
    ·exact (x j' k hk).mono rfl λi z=>dW z
theorem tZ{mask finger moves:Nat}{led plain:Bool}{hs:Array Int}{t:Bb}{order:Array Nat}(h:Gp mask finger moves led plain hs=some (t,order)):BD t (order.toList.map λk=>hs.getD k 0):=by
 have hm:=(Wj h).2.1
 unfold Gp at h
 cases hl:Iu mask hs with
 | none=>rw[hl] at h; cases h
 | some owner =>
  rw[hl] at h
  have x:Z7 t (λk=>hs.getD k 0) owner/\owner.size=mask+1:=by
   unfold Iu at hl
   rw[<- Array.foldl_toList] at hl
   replace hl:(hs.toList.foldl (gX mask) (some (Mw (mask+1) none,0))).map (·.1)=some owner:=hl
   cases hf:hs.toList.foldl (gX mask) (some (Mw (mask+1) none,0)) with
   | none=>rw[hf] at hl; cases hl
   | some r =>
    obtain ⟨o,n⟩:=r
    rw[hf] at hl
    injection hl with hl
    rw[<- hl]
    have hf':=hf
    rw[<- hm] at hf
    have z:=qJ (t:=t) (H:=λk=>hs.getD k 0) _ _ _ _ _ hf (λi h hi=>by
     rw[Oh,Df,<- Fg,hi]
     rfl) λj k hk=>by
     rw[Array.getElem?_replicate] at hk
     split at hk <;> simp at hk
    exact ⟨z.1,by rw[z.2,Array.size_replicate,hm]⟩
  obtain ⟨x,sz⟩:=x
  cases h
  intro y hy
  have hT:∀i,i<=mask->bY owner i->i∈((Cc (mask+1)).filterMap λj=>(owner.getD j none).map λx=>(j,x)).map (·.1):=λi hi z=>by
   unfold bY at z
   have lt:i<owner.size:=by omega
   rw[Df,Cs lt] at z
   cases q:owner[i] with
   | none=>rw[q] at z; simp at z
   | some v =>
    refine Ci.mpr ⟨(i,v),Cg.mpr ⟨i,Gd.mpr (by omega),?_⟩,rfl⟩
    rw[Df,Cs lt,q]
    rfl
  dsimp only at hy ⊢
  rw[Hl,List.zip_map'] at hy
  obtain ⟨⟨j,k⟩,hjk,rfl⟩:=Ci.mp hy
  obtain ⟨j0,hj0,ej⟩:=Cg.mp hjk
  have e2:owner[j]? = some (some k):=by
   rw[Df] at ej
   cases q:owner[j0]? with
   | none=>rw[q] at ej; cases ej
   | some v =>
    rw[q] at ej
    cases v with
    | none=>cases ej
    | some v=>cases ej; exact q
  have ow:=x j k e2
  obtain ⟨k0,k1,k2⟩:=ow
  refine ⟨k0,k1,λk' hk'=>?_⟩
  exact hT _ (W8 k' _) (k2 k' hk')
theorem BD.put{t:Bb}{hs:List Int}{h:Int}{j p:Nat}(x:BD t hs)(len:hs.length=t.place.size)(o:Yf t (·∈t.place.toList) h j):BD { t with place:=Bo t.place p j } (hs.take p++h::hs.drop p):=by
 have pm:=Ia t.place p j
 rw[Jd] at pm
 have up:∀i,i∈t.place.toList->i∈(Bo t.place p j).toList:=λi hi=>pm.mem_iff.mpr (An _ hi)
 intro y hy
 have hy':y∈(hs.take p++h::hs.drop p).zip (t.place.toList.take p++j::t.place.toList.drop p):=by
  have e:=Oo t.place p j
  have e':(Bo t.place p j).toList=t.place.toList.take p++j::t.place.toList.drop p:=by first | exact e | (rw[e]; simp)
  rw[<- e']
  exact hy
 rw[List.zip_append (by rw[Da,Da,len,Ag]),List.zip_cons_cons] at hy'
 rcases Aw.mp hy' with z | z
 ·have : y∈hs.zip t.place.toList:=by
   rw[List.zip_eq_zipWith,<- List.take_zipWith] at z
   exact Mr z
  exact (x y this).mono rfl up
 ·rcases Ap.mp z with rfl | z
  ·exact o.mono rfl up
  ·have : y∈hs.zip t.place.toList:=by
    rw[List.zip_eq_zipWith,<- List.drop_zipWith] at z
    exact Va z
   exact (x y this).mono rfl up
theorem kI{α:Type}{es:Array (Int×α)}:∀L:List Nat,(∀k∈L,k<es.size)->(L.filterMap (es[·]?)).map (·.1)=L.map λk=>(es.map (·.1)).getD k 0
 | [],_=>rfl
 | k::L,h=>by
  have hk:=h k Aa
  rw[Hx,Cs hk]
  dsimp only
  rw[Ar,Ar,kI L λi hi=>h i (Ae _ hi),Df,Array.getElem?_map,Cs hk]
  rfl
theorem lJ{t:Bb}{n:Nat}(x:TabOk n t){f:Nat->Int}{h:Int}:∀(fuel k:Nat) (p:Dh),WayOk t p->k<fuel->t.slot (Hh t k p).j=.empty->(∃j m,Gw t f h fuel p=some (.empty j none)/\t.slot j=.empty/\j<=t.mask/\(Hh t m p).j=j/\∀m',m'<m->t.slot (Hh t m' p).j≠.empty/\∀i,t.slot (Hh t m' p).j=.live i->f i≠h)\/(∃j i m k',Gw t f h fuel p=some (.candidate j i (Hh t (m+1) p))/\t.slot j=.live i/\f i=h/\k'+m+1=k/\WayOk t (Hh t (m+1) p)/\t.slot (Hh t k' (Hh t (m+1) p)).j=.empty/\(Hh t m p).j=j/\∀m',m'<m->t.slot (Hh t m' p).j≠.empty/\∀i,t.slot (Hh t m' p).j=.live i->f i≠h)
 | 0,k,p,_,h,_=>absurd h (Fc _)
 | fuel+1,k,p,w,hk,he=>by
  unfold Gw
  split
  ·rename_i hs
   exact .inl ⟨p.j,0,by rw[w.dum],hs,by have:=w.top; omega,rfl,λm' z=>absurd z (Fc _)⟩
  ·rename_i hs
   exact absurd hs (Sb x)
  ·rename_i i hs
   cases k with
   | zero=>exact absurd (show t.slot p.j=.empty from he) (by rw[hs]; intro z; cases z)
   | succ k =>
    by_cases c:(f i == h)=true
    ·rw[if_pos c]
     exact .inr ⟨p.j,i,0,k,rfl,hs,by simpa using c,by omega,w.next,he,rfl,λm' z=>absurd z (Fc _)⟩
    ·rw[if_neg c]
     have hd:t.slot p.j≠.empty/\∀i,t.slot p.j=.live i->f i≠h:=⟨by rw[hs]; exact λz=>(by cases z),λi' z=>by
      rw[hs] at z
      injection z with z
      rw[<- z]
      simpa using c⟩
     have ahead:∀{m:Nat},(∀m',m'<m->t.slot (Hh t m' (t.advance p)).j≠.empty/\∀i,t.slot (Hh t m' (t.advance p)).j=.live i->f i≠h)->∀m',m'<m+1->t.slot (Hh t m' p).j≠.empty/\∀i,t.slot (Hh t m' p).j=.live i->f i≠h:=λ{m} q m' hm'=>by
      cases m' with
      | zero=>exact hd
      | succ m'=>exact q m' (by omega)
     rcases lJ x fuel k _ w.next (by omega) he with ⟨j,m,a,b,c,d,e⟩ | ⟨j,i',m,k',a,b,c,d,e,f,g,q⟩
     ·exact .inl ⟨j,m+1,a,b,c,d,ahead e⟩
     ·exact .inr ⟨j,i',m+1,k',a,b,c,by omega,e,f,g,ahead q⟩
theorem oW{t:Bb}{n j i:Nat}(x:TabOk n t)(h:t.place.toList[i]? = some j):t.slot j=.live i:=by
 have b:=Sa x.rise j
 have e:Bc t.place j=i:=by
  have hi:=(Av.mp h).1
  have hi':i<t.place.size:=by rw[<- Ag]; exact hi
  have ei:t.place[i]=j:=by
   have:=(Av.mp h).2
   simpa using this
  rcases Qq (Bc t.place j) i with z | z | z
  ·have:=b.hi (Bc t.place j) (by omega) (Al _)
   have:=Jw.mp x.rise (Bc t.place j) i (by rw[Ag]; omega) hi z
   simp at this
   omega
  ·exact z
  ·have:=b.lo i hi' z
   omega
 unfold Uk
 dsimp only
 rw[e,<- Fg,h,if_pos (by simp)]
def xI(prog:Bh)(w:World)(U:List (List Int))(h:Heap)(e:Int×Value):Prop:=∃(b:Addr) (ks:List Int),e=(Bm (Bx prog w) ks,.ref b)/\Fu (Bx prog w) h ks b/\ks∈U
structure SetT(prog:Bh)(w:World)(U:List (List Int))(h:Heap)(a:Addr)(es:Array (Int×Value))(ep:Nat)(t:Bb):Prop where
 obj:h.get? a=some (Fw es ep t)
 ent:∀e∈es.toList,xI prog w U h e
 tab:Tab es.size t
 odd:t.mask % 2=1
 top:t.mask<8192
 few:es.size<=1100
 led:bt w=false->t.led=true
 nd:U.Nodup
 sz:es.size=U.length
 all:∀u∈U,∃e∈es.toList,∃b,e=(Bm (Bx prog w) u,Cf b)/\Fu (Bx prog w) h u b
 ways:BD t (es.toList.map (·.1))
def Kept(h h':Heap):Prop:=∀b o,o.cls=.type "set" \/ o.cls=.type "tuple" -> h.get? b=some o->h'.get? b=some o
def Vn(h h':Heap):Prop:=∀b o,o.cls=.type "tuple" -> h.get? b=some o->h'.get? b=some o
theorem Kept.t{h h':Heap}(k:Kept h h'):Vn h h':=λb o c e=>k b o (.inr c) e
theorem xI.keep{prog:Bh}{w:World}{U V:List (List Int)}{h h':Heap}{e:Int×Value}(x:xI prog w U h e)(k:Vn h h')(s:∀y∈U,y∈V):xI prog w V h' e:=by
 obtain ⟨b,ks,e,⟨o,items,n,ho,hc,hd,hi⟩,hm⟩:=x
 exact ⟨b,ks,e,⟨o,items,n,k b o hc ho,hc,hd,hi⟩,s _ hm⟩
theorem Tg{prog:Bh}{w:World}{h h':Heap}{ks:List Int}{b:Addr}(x:Fu (Bx prog w) h ks b)(k:Vn h h'):Fu (Bx prog w) h' ks b:=by
 obtain ⟨o,items,n,ho,hc,hd,hi⟩:=x
 exact ⟨o,items,n,k b o hc ho,hc,hd,hi⟩
theorem SetT.keep{prog:Bh}{w:World}{U:List (List Int)}{h h':Heap}{a:Addr}{es:Array (Int×Value)}{ep:Nat}{t:Bb}(S:SetT prog w U h a es ep t)(k:Kept h h'):SetT prog w U h' a es ep t :=
 ⟨k _ _ (.inl rfl) S.obj,λe he=>(S.ent e he).keep k.t λ_ z=>z,S.tab,S.odd,S.top,S.few,S.led,S.nd,S.sz,λu hu=>by obtain ⟨e,he,b,eb,x⟩:=S.all u hu; exact ⟨e,he,b,eb,Tg x k.t⟩,S.ways⟩
theorem aU{h h':Heap}{a:Addr}{o:Obj}(ho:h.get? a=some o)(hc:o.cls≠.type "tuple")(sb:Fj a h h'):Vn h h':=λb o' c e=>by
 by_cases z:b=a
 ·subst z
  rw[ho] at e
  cases e
  exact absurd c hc
 ·exact (sb.2 b z).trans e
theorem wG{n:Nat}(h:n<=1200):n<=Ax:=by rw[Hg]; omega
section
variable{prog:Bh}{w:World}{A:Cr}{E:Value->Ah->Prop}{s:Ah}{U:List (List Int)}
theorem Ss{a:Addr}{es:Array (Int×Value)}{ep:Nat}{t:Bb}{Q:(Array (Int×Value)×Nat×Bb)->Ah->Prop}(S:SetT prog w U s.heap a es ep t)(h:Q (es,ep,t) s):wpAny (model prog w) A (setState a) Q E s :=
 fJ S.obj rfl S.tab.fits h
theorem xV{ks:List Int}{a:Addr}{Q:Bool->Ah->Prop}(hk:Fu (Bx prog w) s.heap ks a)(h:Q true s):wpAny (model prog w) A (Sk 8 (.ref a)) Q E s:=by
 have hT:=hk.typeIs
 obtain ⟨o,items,n,ho,_,hd,hi⟩:=hk
 unfold Sk
 refine Ac (wpAny_specialOf hT F.slot_tuple_hash.lookup ?_)
 dsimp only
 refine Ac (wpAny_seqItems ho hd ?_)
 refine Ac ?_
 show wpAny _ _ (forIn items _ _) _ _ s
 rw[<- Array.forIn_toList]
 refine jI _ (λIh r s'=>r.1=none/\s'=s/\∃l,ItemsAre (Bx prog w) l Ih) _ ?_ ?_ _ _ ⟨rfl,rfl,_,hi⟩
 ·(intro v Ih r s' q_; obtain ⟨hr,rfl,l,hall⟩ := q_)
  cases hall with
  | @cons k v' ks' vs' h1 h2 =>
   obtain ⟨tk,rfl⟩ : ∃tk,v=.int k tk:=by
    cases v <;> simp [Bx,Uj] at h1
    rename_i z tk
    exact ⟨tk,by rw[h1]⟩
   refine Ac (m:=Sk 7 (.int k tk)) (Lv (a:=true) (show Sk 7 (.int k tk)=pure true by unfold Sk; rfl) ?_)
   simp only[Mo,Dc,if_false]
   exact Ao ⟨rfl,rfl,_,h2⟩
 ·(rintro ⟨r1,r2⟩ s' q_; obtain ⟨hr,rfl,_⟩ := q_)
  simp only at hr
  subst hr
  exact Ao h
theorem eO{ks:List Int}{a:Addr}{Q:Bool->Ah->Prop}(hk:Fu (Bx prog w) s.heap ks a)(h:Q false s):wpAny (model prog w) A (Mk 8 (.ref a)) Q E s:=by
 have hT:=hk.typeIs
 obtain ⟨o,items,n,ho,_,hd,hi⟩:=hk
 unfold Mk
 refine Ac (Vb hT ?_)
 dsimp only
 rw[if_pos (by decide)]
 refine Ac (Ao ?_)
 simp only[Mo,Dc,if_false]
 refine Ac (wpAny_seqItems ho hd ?_)
 dsimp only
 refine Ac ?_
 show wpAny _ _ (forIn items _ _) _ _ s
 rw[<- Array.forIn_toList]
 refine jI _ (λIh r s'=>r.1=none/\s'=s/\∃l,ItemsAre (Bx prog w) l Ih) _ ?_ ?_ _ _ ⟨rfl,rfl,_,hi⟩
 ·(intro v Ih r s' q_; obtain ⟨hr,rfl,l,hall⟩ := q_)
  cases hall with
  | @cons k v' ks' vs' h1 h2 =>
   obtain ⟨tk,rfl⟩ : ∃tk,v=.int k tk:=by
    cases v <;> simp [Bx,Uj] at h1
    rename_i z tk
    exact ⟨tk,by rw[h1]⟩
   refine Ac (m:=Mk 7 (.int k tk)) (Lv (a:=false) (show Mk 7 (.int k tk)=pure false by unfold Mk; rfl) ?_)
   simp only[Dc,if_false]
   exact Ao ⟨rfl,rfl,_,h2⟩
 ·(rintro ⟨r1,r2⟩ s' q_; obtain ⟨hr,rfl,_⟩ := q_)
  simp only at hr
  subst hr
  exact Ao h
theorem L8{x:Addr}{kx:List Int}{stored:List Value}{Q:Bool->Ah->Prop}(hx:Fu (Bx prog w) s.heap kx x)(hs:∀y∈stored,∃b ky,y=Cf b/\Fu (Bx prog w) s.heap ky b)(h:Q false s):wpAny (model prog w) A (searchCouldBeSeen (.ref x) stored) Q E s:=by
 unfold searchCouldBeSeen
 refine Ac ?_
 refine jI _ (λIh r s'=>r.1=none/\s'=s/\∀y∈Ih,∃b ky,y=Cf b/\Fu (Bx prog w) s.heap ky b) _ ?_ ?_ _ _ ⟨rfl,rfl,hs⟩
 ·(intro v Ih r s' q_; obtain ⟨hr,rfl,hall⟩ := q_)
  obtain ⟨b,ky,rfl,hy⟩:=hall _ (Aa ..)
  have hall':=λy hy=>hall y (Ae _ hy)
  dsimp only
  split
  ·exact Ao ⟨rfl,rfl,hall'⟩
  ·refine Ac (wpAny_eqIsQuiet_tuple hx ?_)
   simp only[Mo,Dc,if_false]
   refine Ac (wpAny_eqIsQuiet_tuple hy ?_)
   simp only[Mo,Dc,if_false]
   refine Ac (eO hx ?_)
   simp only[Dc,if_false]
   refine Ac (eO hy ?_)
   simp only[Dc,if_false]
   exact Ao ⟨rfl,rfl,hall'⟩
 ·(rintro ⟨r1,r2⟩ s' q_; obtain ⟨hr,rfl,_⟩ := q_)
  simp only at hr
  subst hr
  exact Ao h
def O6(prog:Bh)(w:World)(h:Heap)(es:Array (Int×Value))(t:Bb)(kx:List Int)(p:Dh):Prop :=
 ∃kt i b,t.slot (Hh t kt p).j=.live i/\es[i]? = some (Bm (Bx prog w) kx,Cf b)/\Fu (Bx prog w) h kx b/\∀k',k'<kt->t.slot (Hh t k' p).j≠.empty
theorem lN{a:Addr}{kx:List Int}{es:Array (Int×Value)}{ep:Nat}{t:Bb}(S:SetT prog w U s.heap a es ep t)(h:kx∈U):O6 prog w s.heap es t kx (t.probeStart (Bm (Bx prog w) kx)):=by
 obtain ⟨e,he,b,eb,x⟩:=S.all kx h
 obtain ⟨i,hi,ei⟩:=List.getElem_of_mem he
 have hi':i<es.size:=by rw[<- Ag]; exact hi
 have hp:i<t.place.toList.length:=by rw[Ag,S.tab.size]; exact hi'
 have hz:((es.toList.map (·.1)).zip t.place.toList)[i]? = some (Bm (Bx prog w) kx,t.place.toList[i]):=by
  rw[List.getElem?_zip_eq_some]
  refine ⟨?_,Dg hp⟩
  rw[Cn,Dg hi,ei,eb]
  rfl
 obtain ⟨k,k1,k2⟩:=S.ways _ (Ay hz)
 refine ⟨k,i,b,?_,?_,x,λk' hk'=>?_⟩
 ·rw[k1]
  exact oW S.tab.toTabOk (Dg hp)
 ·rw[Cs hi']
  have : es[i]=e:=by simpa using ei
  rw[this,eb]
 ·exact λz=>(Ja S.tab.toTabOk).mp z (k2 k' hk')
theorem Ym{a x:Addr}{kx:List Int}{es:Array (Int×Value)}{ep:Nat}{t:Bb}{Q:SetFound->Ah->Prop}(S:SetT prog w U s.heap a es ep t)(hu:A.units<cLine)(hx:Fu (Bx prog w) s.heap kx x)(h1:kx∈U->Q (.there none) s)(h2:∀j,t.slot j=.empty->j<=t.mask->Yf t (·∈t.place.toList) (Bm (Bx prog w) kx) j->kx∉U->Q (.free j false) s):∀(fuel k:Nat) (stand:Option Dh),WayOk t (stand.getD (t.probeStart (Bm (Bx prog w) kx)))->k<fuel->k<10 * Cw t.mask->t.slot (Hh t k (stand.getD (t.probeStart (Bm (Bx prog w) kx)))).j=.empty->(∃k0,Hh t k0 (t.probeStart (Bm (Bx prog w) kx))=stand.getD (t.probeStart (Bm (Bx prog w) kx))/\∀k',k'<k0->t.slot (Hh t k' (t.probeStart (Bm (Bx prog w) kx))).j≠.empty)->(kx∈U->O6 prog w s.heap es t kx (stand.getD (t.probeStart (Bm (Bx prog w) kx))))->wpAny (model prog w) A (Tq a (.ref x) (Bm (Bx prog w) kx) true fuel stand) Q E s
 | 0,k,_,_,h,_,_,_,_=>absurd h (Fc _)
 | fuel+1,k,stand,wo,hk,hk2,he,pre,tgt=>by
  have gw:t.gaveWay=false:=by unfold SetTable.gaveWay; rw[S.odd]; rfl
  unfold Tq
  refine Ac (Ss S ?_)
  dsimp only
  rw[gw]
  simp only[Dc,if_false]
  obtain ⟨k0,ek0,pre⟩:=pre
  have fH:∀{i:Nat} {b:Addr},es[i]? = some (Bm (Bx prog w) kx,Cf b)->(es[i]?.map (·.1)).getD 0=Bm (Bx prog w) kx:=λ{i b} e=>by rw[e]; rfl
  rcases lJ S.tab.toTabOk (f:=λi=>(es[i]?.map (·.1)).getD 0) (h:=Bm (Bx prog w) kx) (10 * Cw t.mask) k _ wo hk2 he with ⟨j,m,e,ej,jm,em,am⟩ | ⟨j,i,m,k',e,ej,ei,lt,wo',he',em,am⟩
  ·have e':t.probe (λi=>(es[i]?.map (·.1)).getD 0) (Bm (Bx prog w) kx) (stand.getD (t.probeStart (Bm (Bx prog w) kx)))=some (.empty j none):=e
   rw (transparency:=.all) [e']
   refine Ao (h2 j ej jm ⟨k0+m,by rw[Ki,ek0]; exact em,λk' hk'=>?_⟩ λhm=>?_)
   ·refine Ha λz=>?_
    have z':=(Ja S.tab.toTabOk).mpr z
    by_cases c:k'<k0
    ·exact pre k' c z'
    ·rw[show k'=k0+(k' - k0) by omega,Ki,ek0] at z'
     exact (am _ (by omega)).1 z'
   ·obtain ⟨kt,i,b,a1,a2,a3,a4⟩:=tgt hm
    rcases Qq kt m with z | z | z
    ·exact (am kt z).2 i a1 (fH a2)
    ·subst z
     rw[em,ej] at a1
     cases a1
    ·exact a4 m z (by rw[em]; exact ej)
  ·have e':t.probe (λi=>(es[i]?.map (·.1)).getD 0) (Bm (Bx prog w) kx) (stand.getD (t.probeStart (Bm (Bx prog w) kx)))=some (.candidate j i (Hh t (m+1) (stand.getD (t.probeStart (Bm (Bx prog w) kx))))):=e
   rw (transparency:=.all) [e']
   dsimp only
   have hi:=tG S.tab.toTabOk ej
   have hei:es[i]? = some es[i]:=Cs hi
   obtain ⟨b,ky,eb,hy,hm⟩:=S.ent es[i] (by simp)
   have Ih:wpAny (model prog w) A (do
     let some (_,y):=es[i]? | unsupported "internal:set-entry"
     let equal <- Pv [y] (eqBool y (.ref x))
     let (es',_,t') <- setState a
     if true && equal then return .there none
     let some same:=t'.sameMemory t.moves t.mask | unsupported "set.changed-during-lookup:is-the-new-block-at-the-old-address"
     let still <- match (if same then t'.slot j else .empty) with
      | .live i'=>match es'[i']? with
       | some (_,y')=>do pure (if <- isSame y' y then some i' else none)
       | none=>pure none
      | _=>pure none
     match still with
     | none=>rule "set.search.anew"; Tq a (.ref x) (Bm (Bx prog w) kx) true fuel none
     | some i'=>if equal then return .there (some i') else Tq a (.ref x) (Bm (Bx prog w) kx) true fuel (some (Hh t (m+1) (stand.getD (t.probeStart (Bm (Bx prog w) kx)))))) Q E s:=by
    rw[hei,eb]
    dsimp only
    refine Ac (Dq (wpAny_eqBool_tuple hu hy hx ?_))
    refine Ac (Ss S ?_)
    dsimp only
    by_cases c:ky=kx
    ·rw[decide_eq_true c,if_pos (by decide)]
     exact Ao (h1 (by rw[<- c]; exact hm))
    ·rw[decide_eq_false c,if_neg (by decide)]
     have sm:t.sameMemory t.moves t.mask=some true:=by unfold SetTable.sameMemory; rw[if_pos (by simp)]
     rw[sm]
     dsimp only
     rw[if_pos rfl,ej]
     dsimp only
     rw[hei,eb]
     dsimp only
     refine Ac (wpAny_isSame_ref_self (Ac (Ao ?_)))
     rw[if_pos rfl]
     dsimp only
     rw[if_neg (by decide)]
     refine Ym S hu hx h1 h2 fuel k' (some (Hh t (m+1) (stand.getD (t.probeStart (Bm (Bx prog w) kx))))) wo' (by omega) (by omega) he' ⟨k0+(m+1),by rw[Ki,ek0]; rfl,λk'' hk'' z=>?_⟩ λhmm=>?_
     ·by_cases c:k''<k0
      ·exact pre k'' c z
      ·rw[show k''=k0+(k'' - k0) by omega,Ki,ek0] at z
       by_cases c2:k'' - k0<m
       ·exact (am _ c2).1 z
       ·rw[show k'' - k0=m by omega,em,ej] at z
        cases z
     ·obtain ⟨kt,i0,b0,a1,a2,a3,a4⟩:=tgt hmm
      rcases Qq kt m with z | z | z
      ·exact absurd (fH a2) ((am kt z).2 i0 a1)
      ·subst z
       rw[em,ej] at a1
       injection a1 with a1
       subst a1
       rw[hei,eb] at a2
       injection a2 with a2
       injection a2 with a21 a22
       injection a22 with a22
       subst a22
       exact absurd (hy.inj a3) c
      ·refine ⟨kt - (m+1),i0,b0,?_,a2,a3,λk'' hk''=>?_⟩
       ·show t.slot (Hh t (kt - (m+1)) (Hh t (m+1) _)).j=_
        rw[<- Ki,show m+1+(kt - (m+1))=kt by omega]
        exact a1
       ·show t.slot (Hh t k'' (Hh t (m+1) _)).j≠_
        rw[<- Ki]
        exact a4 _ (by omega)
   by_cases l:t.led=true
   ·rw[l]
    simp only[Mo,Dc,if_false]
    exact Ih
   ·rw[cK] at l
    rw[l]
    simp only[Bool.not_false,if_true]
    refine Ac (L8 hx (λy hy=>?_) ?_)
    ·obtain ⟨e0,he0,rfl⟩:=Ci.mp hy
     obtain ⟨b',k'',rfl,h3,_⟩:=S.ent e0 (by
      have:=Array.mem_def.mp (Array.mem_filter.mp (Array.mem_def.mpr he0)).1
      exact this)
     exact ⟨b',k'',rfl,h3⟩
    ·simp only[Dc,if_false]
     exact Ih
theorem tF{a x:Addr}{kx:List Int}{es:Array (Int×Value)}{ep:Nat}{t:Bb}{Q:SetFound->Ah->Prop}(S:SetT prog w U s.heap a es ep t)(hu:A.units<cLine)(hx:Fu (Bx prog w) s.heap kx x)(h1:kx∈U->Q (.there none) s)(h2:∀j,t.slot j=.empty->j<=t.mask->Yf t (·∈t.place.toList) (Bm (Bx prog w) kx) j->kx∉U->Q (.free j false) s)(fuel k:Nat)(hk:k<fuel)(hk2:k<10 * Cw t.mask)(he:t.slot (Hh t k (t.probeStart (Bm (Bx prog w) kx))).j=.empty):wpAny (model prog w) A (Tq a (.ref x) (Bm (Bx prog w) kx) true fuel none) Q E s :=
 Ym S hu hx h1 h2 fuel k none (Sz _) hk hk2 he ⟨0,rfl,λk' z=>absurd z (Fc _)⟩ λh=>lN S h
end
section
variable{prog:Bh}{w:World}{A:Cr}{E:Value->Ah->Prop}{s:Ah}{U:List (List Int)}
theorem HM{t:Bb}{es:Array (Int×Value)}(x:Tab es.size t)(e:Int×Value){j:Nat}(h2:j∉t.place.toList)(h3:j<=t.mask)(wy:BD t (es.toList.map (·.1)))(ow:Yf t (·∈t.place.toList) e.1 j):∃t1 p,t.put j=(t1,p)/\(Bo es p e).toList.Perm (es.toList++[e])/\(Bo es p e).size=es.size+1/\TabOk (es.size+1) t1/\t1.mask=t.mask/\t1.plain=true/\t1.led=t.led/\BD t1 ((Bo es p e).toList.map (·.1)):=by
 have hm:=Sx x
 have perm:=Ia es (Bc t.place j) e
 rw[Jd] at perm
 have size:(Bo es (Bc t.place j) e).size=es.size+1:=by
  rw[<- Ag,perm.length_eq,Be,Ag]
  rfl
 have p2:=Ia t.place (Bc t.place j) j
 rw[Jd] at p2
 have size2:(Bo t.place (Bc t.place j) j).size=es.size+1:=by
  rw[<- Ag,p2.length_eq,Be,Ag,x.size]
  rfl
 have nd:Wm t.dummies j=false:=by rw[x.dum]; rfl
 have ok:TabOk (es.size+1) { t with place:=Bo t.place (Bc t.place j) j } :=
  ⟨x.good,x.dum,x.plain,Yn x.rise h2,λe he=>by
   rcases Aw.mp (p2.mem_iff.mp he) with z | z
   ·exact x.top e z
   ·rw[Af.mp z]; exact h3,size2⟩
 refine ⟨{ t with place:=Bo t.place (Bc t.place j) j },Bc t.place j,?_,perm,size,ok,rfl,x.plain,rfl,?_⟩
 ·unfold SetTable.put
  simp only[nd,Dc,if_false]
 ·have e1:(Bo es (Bc t.place j) e).toList=es.toList.take (Bc t.place j)++e::es.toList.drop (Bc t.place j):=by
   have z:=Oo es (Bc t.place j) e
   first | exact z | (rw[z]; simp)
  rw[e1,Bd,Ar,List.map_take,List.map_drop]
  exact wy.put (by rw[Ab,Ag,x.size]) ow
theorem oR{a:Addr}{es:Array (Int×Value)}{ep:Nat}{t:Bb}{wanted:Nat}{Q:Unit->Ah->Prop}(ho:s.heap.get? a=some (Fw es ep t))(ent:∀e∈es.toList,xI prog w U s.heap e)(ok:TabOk es.size t)(le:es.size<=t.mask)(few:es.size<=1100)(led:bt w=false->t.led=true)(und:U.Nodup)(usz:es.size=U.length)(uall:∀u∈U,∃e∈es.toList,∃b,e=(Bm (Bx prog w) u,Cf b)/\Fu (Bx prog w) s.heap u b)(hw:wanted<8192)(h2:es.size * 2<=wanted)(h:∀es' ep' t' h',Fj a s.heap h'->SetT prog w U h' a es' ep' t'->es'.size=es.size->es'.toList.Perm es.toList->Q () { s with heap:=h' }):wpAny (model prog w) A (setRelay a wanted) Q E s:=by
 obtain ⟨t',order,q1,q2,q3,q4,q5,q6⟩:=sE (es:=es) ok.plain hw h2
 obtain ⟨p1,p2⟩:=xD es q2
 have mk:t'.mask<8192:=by
  unfold SetTable.relaid at q1
  rw[(Wj q1).2.1]
  omega
 unfold setRelay
 refine Ac (fJ ho rfl (ok.fits le) ?_)
 dsimp only
 rw[if_neg (by rw[Hg]; omega),q1]
 refine Ac ?_
 show wpAny (model prog w) A (do
  if (order.filterMap (es[·]?)).size != es.size then unsupported "internal:set-table-lost-an-element"
  pure (order.filterMap (es[·]?),t')) _ _ _
 rw[if_neg (by rw[p2]; simp)]
 refine Ao ?_
 dsimp only
 refine Mj ho rfl ?_ (wG (by rw[p2]; omega))
 have sb:=Dj s.heap a (Ys (order.filterMap (es[·]?)) t')
 have kt:Vn s.heap _:=aU ho (by show Fk "set" ≠ Fk "tuple"; decide) sb
 exact h _ _ _ _ sb ⟨We ho _ _,λe he=>(ent e (p1.mem_iff.mp he)).keep kt λ_ z=>z,by rw[p2]; exact q3,q4,mk,by rw[p2]; exact few,λz=>by rw[q6]; exact led z,und,by rw[p2]; exact usz,λu hu=>by obtain ⟨e,he,b,eb,x⟩:=uall u hu; exact ⟨e,p1.mem_iff.mpr he,b,eb,Tg x kt⟩,by rw[nB,kI _ λk hk=>Gd.mp (q2.mem_iff.mp hk)]; exact tZ q1⟩ p2 p1
theorem J9{a x:Addr}{kx:List Int}{es:Array (Int×Value)}{ep:Nat}{t:Bb}{Q:Bool->Ah->Prop}(S:SetT prog w U s.heap a es ep t)(hn:es.size<1100)(hu:A.units<cLine)(hx:Fu (Bx prog w) s.heap kx x)(h0:kx∈U->Q false s)(h:∀es' ep' t' h',kx∉U->Fj a s.heap h'->SetT prog w (kx::U) h' a es' ep' t'->(es'.toList.map (·.2)).Perm (es.toList.map (·.2)++[Cf x])->Q true { s with heap:=h' }):wpAny (model prog w) A (fL a (.ref x) (Bm (Bx prog w) kx)) Q E s:=by
 unfold fL setAddHashedIn
 refine Dq (Ac (Ss S ?_))
 dsimp only
 rw[if_neg (show ¬ (byScan (.ref x) es=true) from λz=>by simp [byScan,Value.scannable] at z)]
 obtain ⟨k,hk,he⟩:=tQ S.tab (Bm (Bx prog w) kx)
 have hk':k<100000:=by
  have:=S.top
  unfold Cw at hk
  omega
 unfold setSearch
 refine Ac (tF S hu hx (λhm=>?_) (λj ej jm ow nk=>?_) 100000 k hk' hk he)
 ·dsimp only
  refine Ao ?_
  exact h0 hm
 ·dsimp only
  refine Ac (Ss S ?_)
  dsimp only
  obtain ⟨t1,p,e1,p1,z1,ok1,m1,pl1,ld1,wy1⟩:=HM S.tab (Bm (Bx prog w) kx,Cf x) ((Ja S.tab.toTabOk).mp ej) jm S.ways ow
  rw[e1]
  dsimp only
  rw[pl1,if_pos rfl]
  refine Ac (xV hx ?_)
  rw[if_pos rfl]
  have z1':(Bo es p (Bm (Bx prog w) kx,Cf x)).size<=1200:=by omega
  refine Ac (Mj S.obj rfl ?_ (wG z1'))
  have sb:=Dj s.heap a (Ys (Bo es p (Bm (Bx prog w) kx,Cf x)) t1)
  have kt:Vn s.heap _:=aU S.obj (by show Fk "set" ≠ Fk "tuple"; decide) sb
  have ent1:∀e∈(Bo es p (Bm (Bx prog w) kx,Cf x)).toList,xI prog w (kx::U) s.heap e:=λe he=>by
   rcases Aw.mp (p1.mem_iff.mp he) with z | z
   ·exact (S.ent e z).keep (λ_ _ _ z=>z) λ_ z=>Ae _ z
   ·rw[Af.mp z]; exact ⟨x,kx,rfl,hx,Aa ..⟩
  have o1:=We S.obj (Bo es p (Bm (Bx prog w) kx,Cf x)) t1
  have ent2:=λe he=>(ent1 e he).keep kt λ_ z=>z
  have hm:=Sx S.tab
  have und:(kx::U).Nodup:=Cd.mpr ⟨nk,S.nd⟩
  have usz:(Bo es p (Bm (Bx prog w) kx,Cf x)).size=(kx::U).length:=by rw[z1,S.sz,Bq]
  have uall:∀u∈kx::U,∃e∈(Bo es p (Bm (Bx prog w) kx,Cf x)).toList,∃b,e=(Bm (Bx prog w) u,Cf b)/\Fu (Bx prog w) _ u b:=λu hu=>by
   rcases Ap.mp hu with rfl | hu
   ·exact ⟨_,p1.mem_iff.mpr (Ai _ (Af.mpr rfl)),x,rfl,Tg hx kt⟩
   ·obtain ⟨e,he,b,eb,q⟩:=S.all u hu
    exact ⟨e,p1.mem_iff.mpr (An _ he),b,eb,Tg q kt⟩
  have pv:((Bo es p (Bm (Bx prog w) kx,Cf x)).toList.map (·.2)).Perm (es.toList.map (·.2)++[Cf x]):=by
   have:=p1.map (·.2)
   rw[Bd] at this
   exact this
  by_cases tf:t1.tooFull=true
  ·rw[tf,if_pos (by decide)]
   have gr:Nl (es.size+1)=(es.size+1) * 4:=by unfold Nl; rw[if_neg (by omega)]
   rw[gr]
   refine Ac (oR o1 ent2 (by rw[z1]; exact ok1) (by omega) (by omega) (λz=>by rw[ld1]; exact S.led z) und usz uall (by omega) (by omega) λes' ep' t' h' sb' S' zz pz=>Ao ?_)
   exact h es' ep' t' h' nk (sb.trans sb') S' ((pz.map (·.2)).trans pv)
  ·have room:(es.size+1) * 5<t1.mask * 3:=by
    have : ¬ (t1.fill * 5 ≥ t1.mask * 3):=λz=>tf (by unfold SetTable.tooFull; exact decide_eq_true z)
    have e:t1.fill=es.size+1:=by
     unfold Ul
     rw[ok1.dum,ok1.size]
     rfl
    omega
   rw[cK] at tf
   rw[tf]
   simp only[Fp,Dc,if_false]
   refine Ao ?_
   exact h _ _ t1 _ nk sb ⟨o1,ent2,by rw[z1]; exact ⟨ok1,room⟩,by rw[m1]; exact S.odd,by rw[m1]; exact S.top,by omega,λz=>by rw[ld1]; exact S.led z,und,usz,uall,wy1⟩ pv
end
section
variable{prog:Bh}{w:World}{A:Cr}{R:Result->Ah->Prop}
def Vk(prog:Bh)(w:World)(h:Heap)(vs:List Value)(ws:List (List Int)):Prop:=vs.length=ws.length/\∀(i:Nat) (h1:i<vs.length) (h2:i<ws.length),∃b,vs[i]=Cf b/\Fu (Bx prog w) h ws[i] b
theorem Vk.keep{h h':Heap}{vs:List Value}{ws:List (List Int)}(x:Vk prog w h vs ws)(k:Vn h h'):Vk prog w h' vs ws :=
 ⟨x.1,λi h1 h2=>by obtain ⟨b,e,z⟩:=x.2 i h1 h2; exact ⟨b,e,Tg z k⟩⟩
theorem tN{a it l:Addr}(n1:a≠it)(n2:a≠l)(n3:l≠it){items:Array Value}{ws:List (List Int)}(few:ws.length<=1100)(hh:A.in1.handled=none)(hu:A.in1.units<cLine):∀(k i:Nat) (s:Ah) (es:Array (Int×Value)) (ep:Nat) (t:Bb) (U:List (List Int)),items.size - i=k->i<=items.size->s.heap.IsListIter it l i->s.heap.IsList l items->Vk prog w s.heap items.toList ws->SetT prog w U s.heap a es ep t->es.size<=i->(∀x,x∈U↔x∈ws.take i)->(ws.Nodup->(es.toList.map (·.2)).Perm (items.toList.take i))->(∀v∈es.toList.map (·.2),v∈items.toList)->(∀es' ep' t' h' tk V,(∀b o,b≠a->b≠it->s.heap.get? b=some o->h'.get? b=some o)->SetT prog w V h' a es' ep' t'->(∀x,x∈V↔x∈ws)->(ws.Nodup->(es'.toList.map (·.2)).Perm items.toList)->(∀v∈es'.toList.map (·.2),v∈items.toList)->R (.ok (.ret .none)) { s with heap:=h',toks:=tk })->Hv (model prog w) A (.builtin "set.update.loop" ⟨[.ref a,.ref it],[]⟩) R s:=by
 intro k
 induction k with
 | zero =>
  intro i s es ep t U hk hi hit hl hw S hz hU hN hV hR
  have len:items.size=ws.length:=by rw[<- hw.1,Ag]
  have e:i=items.size:=by omega
  refine Hr Fy ?_
  rw[Jh Cz _]
  show wpAny _ A.in1 (Tr (.ref it) >>= _) _ _ s
  refine Ac (wpAny_pyNext_list_end hh hit hl (by rw[e]; simp) λh' x=>?_)
  have kp:Kept s.heap h':=λb o c q=>by
   refine x b o (λz=>?_) q
   subst z
   obtain ⟨o',ho',c',_⟩:=hit
   rw[ho'] at q
   cases q
   rw[c'] at c
   rcases c with c | c <;> exact absurd c (by decide)
  have S':=S.keep kp
  refine Ao (hR es ep t h' s.toks U (λb o _ q e=>x b o q e) S' (λx=>?_) (λz=>?_) hV)
  ·rw[hU x,Kz (by omega)]
  ·have q:=hN z
   rw[e,Kz (by rw[Ag]; exact Al _)] at q
   exact q
 | succ k ih =>
  intro i s es ep t U hk hi hit hl hw S hz hU hN hV hR
  have len:items.size=ws.length:=by rw[<- hw.1,Ag]
  have lt:i<items.size:=by omega
  have lt':i<ws.length:=by omega
  obtain ⟨b,ev,hx⟩:=hw.2 i (by rw[Ag]; exact lt) lt'
  have ev':items[i]=Cf b:=by simpa using ev
  refine Hr Fy ?_
  rw[Jh Cz _]
  show wpAny _ A.in1 (Tr (.ref it) >>= _) _ _ s
  refine Ac (w8 hit hl (x:=items[i]) (by simp [lt]) λh1 hit1 sb1=>?_)
  rw[ev']
  show wpAny _ A.in1 (Pv [Cf b] (setAdd a (.ref b)) >>= _) _ _ _
  refine Ac (Dq ?_)
  unfold setAdd
  have kp:Kept s.heap h1:=λb o c q=>by
   refine (sb1.2 b λz=>?_).trans q
   subst z
   obtain ⟨o',ho',c',_⟩:=hit
   rw[ho'] at q
   cases q
   rw[c'] at c
   rcases c with c | c <;> exact absurd c (by decide)
  have S1:=S.keep kp
  have hx1:=Tg hx kp.t
  refine Dq (Ac (wpAny_pyHash_tuple (s:={ s with heap:=h1 }) hu hx1 ?_))
  have kt:∀(h2:Heap) (es2:Array (Int×Value)) (ep2:Nat) (t2:Bb) (V:List (List Int)),Fj a h1 h2->SetT prog w V h2 a es2 ep2 t2->es2.size<=i+1->(∀x,x∈V↔x∈ws.take (i+1))->(ws.Nodup->(es2.toList.map (·.2)).Perm (items.toList.take (i+1)))->(∀v∈es2.toList.map (·.2),v∈items.toList)->∀tk,Hv (model prog w) A (.builtin "set.update.loop" ⟨[.ref a,.ref it],[]⟩) R { s with heap:=h2,toks:=tk }:=λh2 es2 ep2 t2 V sb2 S2 l2 u2 g2 w2 tk=>by
   have kt2:Vn h1 h2:=aU S1.obj (by show Fk "set" ≠ Fk "tuple"; decide) sb2
   refine ih (i+1) { s with heap:=h2,toks:=tk } es2 ep2 t2 V (by omega) lt ?_ ?_ (hw.keep λb o c e=>kt2 b o c (kp.t b o c e)) S2 l2 u2 g2 w2 λes3 ep3 t3 h3 tk3 V3 k3 S3 u3 g3 w3=>?_
   ·obtain ⟨o,ho,r⟩:=hit1
    exact ⟨o,(sb2.2 it (Kl n1)).trans ho,r⟩
   ·obtain ⟨o,ho,r⟩:=hl
    exact ⟨o,(sb2.2 l (Kl n2)).trans ((sb1.2 l n3).trans ho),r⟩
   ·exact hR es3 ep3 t3 h3 tk3 V3 (λb o q1 q2 e=>k3 b o q1 q2 ((sb2.2 b q1).trans ((sb1.2 b q2).trans e))) S3 u3 g3 w3
  have tk1:=Ky lt'
  refine J9 (s:={ s with heap:=h1,toks:=s.toks+(ws[i].length+1) }) S1 (by omega) hu hx1 (λhm=>?_) λes2 ep2 t2 h2 nk sb2 S2 g2=>?_
  ·refine Ao ⟨cJ Cz _,?_⟩
   refine kt h1 es ep t U (Heap.SameBut.refl a h1) S1 (by omega) (λx=>?_) (λz=>?_) hV _
   ·rw[tk1,List.mem_append,List.mem_singleton,hU x]
    exact ⟨.inl,λq=>q.elim id λq=>by rw[q]; exact (hU _).mp hm⟩
   ·obtain ⟨j,hj,ej⟩:=Pr.mp ((hU _).mp hm)
    exact absurd ej (Jw.mp z j i (by omega) lt' (by omega))
  ·refine Ao ⟨cJ Cz _,?_⟩
   refine kt h2 es2 ep2 t2 (ws[i]::U) sb2 S2 (by rw[S2.sz,Bq,<- S.sz]; omega) (λx=>?_) (λz=>?_) (λv hv=>?_) _
   ·rw[tk1,List.mem_append,List.mem_singleton,Ap,hU x]
    exact Or.comm
   ·rw[Ky (by rw[Ag]; exact lt),show items.toList[i]=Cf b from ev]
    exact g2.trans ((hN z).append_right _)
   ·rcases Aw.mp (g2.mem_iff.mp hv) with q | q
    ·exact hV v q
    ·rw[Af.mp q,<- ev]
     exact Mf _
end
section
variable{prog:Bh}{w:World}{A:Cr}{E:Value->Ah->Prop}{s:Ah}
theorem nP{h:Heap}:SetT prog w [] (h.push (Fw #[] 0 (.fresh 0 0 (!bt w)))) h.objs.size #[] 0 (.fresh 0 0 (!bt w)) :=
 ⟨Bi _ rfl,(λe he=>by simp at he),⟨⟨rX,rfl,rfl,Fb,(λj hj=>by simp [SetTable.fresh] at hj),rfl⟩,by show 0 * 5<7 * 3; decide⟩,by show 7 % 2=1; decide,by show 7<8192; decide,by show 0<=1100; decide,λz=>by show (!bt w)=true; rw[z]; rfl,Cy,rfl,λu hu=>by simp at hu,λx hx=>by simp at hx⟩
theorem xR{l:Addr}{items:Array Value}{ws:List (List Int)}{Q:Value->Ah->Prop}(hh:A.handled=none)(hu:A.units+64<cLine)(hl:s.heap.IsList l items)(hw:Vk prog w s.heap items.toList ws)(few:ws.length<=1100)(h:∀es ep t h' tk U,(∀b o,s.heap.get? b=some o->h'.get? b=some o)->SetT prog w U h' s.heap.objs.size es ep t->(∀x,x∈U↔x∈ws)->(ws.Nodup->(es.toList.map (·.2)).Perm items.toList)->(∀v∈es.toList.map (·.2),v∈items.toList)->Q (.ref s.heap.objs.size) { s with heap:=h',toks:=tk }):wpAny (model prog w) A (call (.type "set") [.ref l]) Q E s:=by
 obtain ⟨c,tl,hmro⟩:=PySem.F.called_set.mro
 have hmade:=PySem.F.called_set.made
 have hsub:=PySem.F.called_set.sub
 have h1:=PySem.F.called_set.notType
 have h2:=PySem.F.called_set.canCreate
 have hct:=PySem.F.typeCall_set_1 (.ref l)
 refine wpAny_call (codeAny_of_tree (show wpAny _ _ (callAny (.type "set") _) _ _ _ from ?_))
 refine Ao ⟨Xz _ (by decide +kernel),Hr PySem.F.entry_type_call ?_⟩
 rw[Around.under_plain (weight_type_call_type "set" [.ref l] []) rfl]
 repeat (any_goals (first | assumption | wp_step))
 refine Je (lG (.ref l) (E:=E) (Q:=λv s1=>v=.ref s.heap.objs.size/\s1={ s with heap:=s.heap.push (Fw #[] 0 (.fresh 0 0 (!bt w))) }) ⟨rfl,rfl⟩) λr s1 hr=>?_
 rcases r with e | (_ | _ | _ | v)
 ·exact hr
 ·exact hr.elim
 ·exact hr.elim
 ·exact hr.elim
 obtain ⟨rfl,rfl⟩:=hr
 have S0:=nP (prog:=prog) (w:=w) (h:=s.heap)
 have T0:Shared.TypeIs { s with heap:=s.heap.push (Fw #[] 0 (.fresh 0 0 (!bt w))) } (.ref s.heap.objs.size) "set" := ⟨_,S0.obj,rfl⟩
 have hli:=PySem.F.called_set.init.lookup
 have hbi:=PySem.F.called_set.init.bind (.ref s.heap.objs.size)
 repeat (any_goals (first | assumption | wp_step))
 refine Je (Of (R:=wants (λr s2=>r=.none/\∃es ep t h' tk U,s2={ s with heap:=h',toks:=tk }/\(∀b o,s.heap.get? b=some o->h'.get? b=some o)/\SetT prog w U h' s.heap.objs.size es ep t/\(∀x,x∈U↔x∈ws)/\(ws.Nodup->(es.toList.map (·.2)).Perm items.toList)/\(∀v∈es.toList.map (·.2),v∈items.toList)) E)
  PySem.F.called_set.init.plain PySem.F.entry_set_init (check_set_init_1 T0 ?_)) λr s2 hr=>?_
 ·obtain ⟨⟨oc,od,odt,osl⟩,ho,hc,n,hd⟩:=id hl
  have hc':oc=.type "list" := hc
  have hd':odt=.seq items n:=hd
  subst hc' hd'
  have ho':=Aj (Fw #[] 0 (.fresh 0 0 (!bt w))) ho
  have hl1:(s.heap.push (Fw #[] 0 (.fresh 0 0 (!bt w)))).IsList l items:=⟨_,ho',rfl,n,rfl⟩
  have f1:=PySem.F.sub_list_set
  have f2:=PySem.F.sub_list_frozenset
  have f3:(Fk "list" == Fk "dict")=false:=by decide
  have lt:=Az ho
  unfold Builtin.«set.__init__» noKeywords Tv
  generalize hPI:pyIter=PI
  wp_walk
  subst hPI
  refine fK hl1 (Ac (wpAny_runValue ?_))
  have sz:(s.heap.push (Fw #[] 0 (.fresh 0 0 (!bt w)))).objs.size=s.heap.objs.size+1:=Heap.size_push _ _
  have g1:((s.heap.push (Fw #[] 0 (.fresh 0 0 (!bt w)))).push { cls:=.type "list_iterator",data:=.fields #[.ref l,.int 0 0] }).get? (s.heap.push (Fw #[] 0 (.fresh 0 0 (!bt w)))).objs.size=some { cls:=.type "list_iterator",data:=.fields #[.ref l,.int 0 0] }:=Bi _ rfl
  have kp1:Vn s.heap ((s.heap.push (Fw #[] 0 (.fresh 0 0 (!bt w)))).push { cls:=.type "list_iterator",data:=.fields #[.ref l,.int 0 0] }):=λb o _ e=>Aj _ (Aj _ e)
  refine tN (by rw[sz]; exact Ct (cP _)) (Nat.ne_of_gt lt) (by rw[sz]; exact Ct (Ln lt)) few (by simp [hh]) (by simp; omega) (items.size - 0) 0 _ #[] 0 (.fresh 0 0 (!bt w)) [] rfl (Dm _) ⟨_,g1,rfl,rfl⟩ ⟨_,Aj _ ho',rfl,n,rfl⟩
   (hw.keep kp1) (S0.keep λb o _ q=>Aj _ q) (Dm _) (λx=>Iff.rfl) (λ_=>Kf _) (λv hv=>nomatch hv) λes ep t h' tk U k' S' m' m2' m3'=>?_
  refine Ao (Ao ⟨rfl,es,ep,t,h',tk,U,rfl,λb o e=>?_,S',m',m2',m3'⟩)
  ·have lb:=Az e
   exact k' b o (Ct lb) (by rw[sz]; exact Ct (Ln lb)) (Aj _ (Aj _ e))
 ·rcases r with e | (_ | _ | _ | v)
  ·exact hr
  ·exact hr.elim
  ·exact hr.elim
  ·exact hr.elim
  obtain ⟨rfl,es,ep,t,h',tk,U,rfl,k',S',m',m2',m3'⟩:=hr
  repeat (any_goals (first | assumption | wp_step))
  exact h es ep t h' tk U k' S' m' m2' m3'
end
end NdS
namespace Nd
open PySem PySem.Spec PyProof.Rows L2 NdS
def pH(a:Addr)(n:Nat)(h:Heap):Prop:=∃es ep t,h.get? a=some (Fw es ep t)/\t.fits es.size=true/\es.size=n
abbrev uT(a:Addr)(n:Nat):HO:=.ext (pH a n)
theorem J4{P:Bh}{w':World}{H:Hp}{h:Heap}{a:Addr}{n:Nat}(e:pH a n h):Io P w' H h a (uT a n) :=
 ⟨e,let ⟨_,_,_,S,_⟩:=e; ⟨_,S⟩,λh1 h2 ⟨es,ep,t,S,m⟩ k=>⟨es,ep,t,k _ S,m⟩⟩
theorem sW{P:Bh}{w:World}{H:Hp}{h:Heap}{a:Addr}{n:Nat}(ok:Xg P w H h)(e:H a=some (uT a n)):pH a n h :=
 (show Io P w H h a (uT a n) from ok a _ e).1
theorem kP{prog:Bh}{w:World}:∀{ns:List Int} {vs:List Value},Fq (ns.map V.int) vs->ItemsAre (Bx prog w) ns vs
 | [],_,h=>by cases h; exact .nil
 | n::ns,_,h=>by
  cases h with
  | cons a t =>
   obtain ⟨tk,rfl⟩:=a
   exact .cons (intKind_is _ _ _ _) (kP t)
theorem pU:∀{rs:List Addr} {vs:List Value},Fq (rs.map V.ref) vs->vs=rs.map Cf
 | [],_,h=>by cases h; rfl
 | r::rs,_,h=>by
  cases h with
  | cons a t =>
   cases a
   rw[pU t]
   rfl
theorem Zq{α:Type}[DecidableEq α]:∀{l1 l2:List α},l1.Nodup->(∀e∈l1,e∈l2)->l1.length<=l2.length
 | [],_,_,_=>Dm _
 | a::l1,l2,nd,h=>by
  have nd':=Cd.mp nd
  have ha:=h a (Aa ..)
  have:=Zq (l2:=l2.erase a) nd'.2 λe he=>(Ms (show e≠a from λz=>nd'.1 (by rw[<- z]; exact he))).mpr (h e (Ae _ he))
  rw[Ke ha] at this
  have p:0<l2.length:=Lb ha
  rw[Bq]
  omega
theorem kU{α:Type}[DecidableEq α]:∀{l:List α},¬ l.Nodup->∃x∈l,x∈l.erase x
 | [],h=>absurd Cy h
 | a::l,h=>by
  by_cases c:a∈l
  ·exact ⟨a,Aa ..,by rw[List.erase_cons_head]; exact c⟩
  ·obtain ⟨x,hx,hx2⟩:=kU (l:=l) λz=>h (Cd.mpr ⟨c,z⟩)
   have ne:¬ (a == x)=true:=λz=>c (by rw[show a=x by simpa using z]; exact hx)
   exact ⟨x,Ae _ hx,by rw[List.erase_cons_tail ne]; exact Ae _ hx2⟩
theorem yQ{α:Type}[DecidableEq α]{U ws:List α}(n1:U.Nodup)(h:∀x,x∈U↔x∈ws):U.length<=ws.length/\(U.length=ws.length↔ws.Nodup):=by
 have l1:=Zq n1 λe he=>(h e).mp he
 refine ⟨l1,λe=>Ha λz=>?_,λn2=>Nat.le_antisymm l1 (Zq n2 λe he=>(h e).mpr he)⟩
 obtain ⟨x,hx,hx2⟩:=kU z
 have:=Zq (l2:=ws.erase x) n1 λe he=>by
  by_cases c:e=x
  ·rw[c]; exact hx2
  ·exact (Ms c).mpr ((h e).mp he)
 rw[Ke hx] at this
 have p:0<ws.length:=Lb hx
 omega
def BZ(K:PySem.W.Frag):List V->Hp->VK->Prop:=λxs H Q=>∃(a:Addr) (rs:List Addr) (f:Addr->List Int),xs=[.ref a]/\Za K H a (rs.map V.ref)/\(∀r∈rs,Vi K H r ((f r).map V.int))/\rs.length<=1100 /\
 ∀(p:Addr) (n:Nat),H p=none->n<=rs.length->(n=rs.length↔(rs.map f).Nodup)->Q (.ref p) (upd H p (uT p n))
theorem tK{X:Cx}(hc:X.calm=true)(hu:X.A.units+64<cLine):Kb X (.type "set") (BZ X.K):=by
 intro pins s σ H xs us Q I r h
 obtain ⟨a,rs,f,rfl,hs,ht,few,q⟩:=h
 obtain ⟨u,rfl,ru⟩:=vals1 r
 cases ru
 obtain ⟨its,rv,pl,_⟩:=I.list hs
 have e:=pU rv
 subst e
 refine xR (ws:=rs.map f) (I.ok.hd hc) hu pl.isList ⟨by simp,λi h1 h2=>?_⟩ (by rw[Ab]; exact few) λes ep t h' tk U k S m m2 _=>?_
 ·have hi:i<rs.length:=by simpa using h1
  obtain ⟨js,jv,⟨o,e,hcl,n,hd⟩,_⟩:=I.tuple (ht rs[i] (Mf hi))
  exact ⟨rs[i],by simp,o,_,n,e,hcl,hd,by rw[List.getElem_map]; simpa using kP jv⟩
 ·obtain ⟨l1,l2⟩:=yQ S.nd m
  rw[Ab,<- S.sz] at l1 l2
  exact ⟨.ref s.heap.objs.size,_,I.laid k (Al _) (J4 ⟨es,ep,t,S.obj,S.tab.fits,rfl⟩),rfl,q _ _ (I.hok.fresh (Al _)) l1 l2⟩
def CQ:List V->Hp->VK->Prop:=λxs H Q=>∃a n,xs=[V.ref a]/\H a=some (uT a n)/\n<=1100/\Q (.int n) H
theorem uI{X:Cx}:Kb X (.builtin "len") CQ:=by
 intro pins s σ H xs us Q I r h
 obtain ⟨a,n,rfl,ha,hn,q⟩:=h
 obtain ⟨u,rfl,ru⟩:=vals1 r
 cases ru
 obtain ⟨es,ep,t,ho,hf,rfl⟩:=sW I.hok ha
 refine call_len_set ho ⟨rfl,rfl,rfl⟩ rfl hf (by omega) ?_
 exact ⟨.int es.size,H,I.tok _,⟨_,rfl⟩,q⟩
end Nd
namespace Nd
open PySem L2
end Nd
namespace DL
open PySem PySem.Spec PyProof.Rows L2 Nd
def FM(xs:List DV)(δ:DS)(P:DV->DS->Prop):Prop:=match xs with
 | [.dat _ (.list ds)]=>∃ws:List (List Int),ds=ws.map Co/\ws.length<=1100/\∀n:Nat,n<=ws.length->(ws.Nodup->n=ws.length)->(n=ws.length->ws.Nodup)->P (.dat .ow (.int n)) δ
 | _=>False
def rF(da:DA):DE:=λδ P=>da δ λxs δ1=>FM xs δ1 P
section
variable{X:Cx}{p p2 pos pos2:Pos}{e:Expr}{da:DA}
theorem sG(hu:X.A.units+64<cLine)(hc:X.calm=true)(hg:Gl X "len")(hm:X.mg "len" = none)(hg2:Gl X "set")(hm2:X.mg "set" = none)(ha:iP X [e] da)(he:Bf [e] X.env=[(false,eval e X.env)]:=by rfl)(he2:Bf [.Call (.Name "set" p2) [e] [] pos2] X.env=[(false,eval (.Call (.Name "set" p2) [e] [] pos2) X.env)]:=by rfl):Em X (.Call (.Name "len" p) [.Call (.Name "set" p2) [e] [] pos2] [] pos) (rF da):=by
 refine PE.imp (Pf uI hg hm (by decide +kernel) (Eb (Su (tK hc hu) hg2 hm2 (by decide +kernel) ha (by decide) (by decide) he rfl) Jk he2) (by decide) (by decide) he2 rfl) λσ H Q h=>?_
 obtain ⟨H0,Y,S,T,δ,P,rfl,hS,hA,hd,k⟩:=h
 refine ⟨H0,Y,S,T,δ,_,rfl,hS,hA,hd,λxs δ' As us S' H' e1 e2 ex eu hA' p=>?_⟩
 unfold FM at p
 split at p
 ·obtain ⟨v,F,rfl,hA2⟩:=Ip eu hA' ex
  obtain ⟨ws,rfl,hl,pp⟩:=p
  obtain ⟨a,xs,G,rfl,ha,ra,rfl,hz⟩:=(hA2.told mem_mid).list_inv
  obtain ⟨rs,rfl,rfl,rfl,c1,c2⟩:=kG ra rfl
  rw[Ab] at hl
  refine ⟨a,rs,BG H',rfl,Za.of ha,λr hr=>Vi.of (c1 r hr),hl,λq n hq h1 h2=>?_⟩
  refine ⟨q,n,rfl,Et,by omega,?_⟩
  have s1:=Gu hq (uT q n)
  exact k _ δ' _ _ S' _ e1 e2 ((hA2.drop.grow s1 (Al _)).pushI (.int _)) (pp n (by rw[Ab]; exact h1) (by rw[Ab]; exact h2.mpr) (by rw[Ab]; exact h2.mp))
 ·exact p.elim
end
end DL
namespace NdW
open PySem PyProof.Rows NdS
end NdW
namespace Nd
open PySem PySem.Spec PyProof.Rows L2 NdS NdW
end Nd
namespace DL
open PySem PySem.Spec PyProof.Rows L2 Nd
def P2(t u:DB)(D:DEnds)(b:Bool)(δ:DS):Prop:=match b with
 | true=>t D δ
 | false=>u D δ
def CH(x:DV)(δ:DS)(P:DV->DS->Prop):Prop:=match x with
 | .dat _ d=>imm d=true/\P (.dat .ow d) δ
 | _=>False
def IQ(i:Nat)(s:Option DV)(δ:DS)(P:DV->DS->Prop):Prop:=match s with
 | some (.dat .pk _)=>False
 | some (.dat _ d)=>P (.dat .sh d) ⟨δ.sl.set i (.dat .sh d),δ.n⟩
 | _=>False
def tupB(xs:List DV)(δ:DS)(P:DV->DS->Prop):Prop:=match datas xs with
 | some ds=>ds.length<=1000/\P (.dat (pkMd .sh xs) (.tuple ds)) δ
 | none=>False
def lstB(xs:List DV)(δ:DS)(P:DV->DS->Prop):Prop:=match datas xs with
 | some ds=>ds.length<=1000/\P (.dat (pkMd .tp xs) (.list ds)) δ
 | none=>False
def R8(x:DV)(δ:DS)(P:Option Int->DS->Prop):Prop:=match x with
 | .dat _ (.int i)=>P (some i) δ
 | _=>False
def HX(i:Bool)(x:DV)(l h:Option Int)(δ:DS)(P:DV->DS->Prop):Prop:=match x with
 | .dat m (.list ds)=>lU i m (Ls ds l h) λz=>P z δ
 | .dat m (.tuple ds)=>cU i m (Ls ds l h) λz=>P z δ
 | _=>False
def JC(xs:List DV)(δ:DS)(P:DV->DS->Prop):Prop:=match xs with
 | [.dat _ (.list ds)]=>∃ns:List Int,ds=ns.map Bs/\(∀x∈ns,0<=x/\x<60)/\P (.dat .ow (.list ((aP ns).map Bs))) δ
 | [.dat _ (.tuple ds)]=>∃ns:List Int,ds=ns.map Bs/\(∀x∈ns,0<=x/\x<60)/\P (.dat .ow (.list ((aP ns).map Bs))) δ
 | _=>False
def bB(x:DV)(δ:DS)(P:Bool->DS->Prop):Prop:=match x with
 | .dat _ (.bool b)=>P b δ
 | _=>False
def tL(du:DT)(b:Bool)(δ:DS)(P:Bool->DS->Prop):Prop:=match b with
 | true=>du δ P
 | false=>P false δ
def FH(du:DT)(b:Bool)(δ:DS)(P:Bool->DS->Prop):Prop:=match b with
 | true=>P true δ
 | false=>du δ P
def CV(x:DV)(δ:DS)(P:DV->DS->Prop):Prop:=match x with
 | .dat _ (.bool b)=>P (.dat .ow (.bool (!b))) δ
 | _=>False
def DJ(db:DE)(x:DV)(δ:DS)(P:DV->DS->Prop):Prop:=match x with
 | .dat _ (.bool true)=>db δ P
 | .dat _ (.bool false)=>P (.dat .ow (.bool false)) δ
 | _=>False
def HE(da db:DE)(b:Bool)(δ:DS)(P:DV->DS->Prop):Prop:=match b with
 | true=>da δ P
 | false=>db δ P
def BN(x:DV)(δ:DS)(P:DV->DS->Prop):Prop:=match x with
 | .dat _ (.int i)=>P (.dat .ow (.int (-i))) δ
 | _=>False
def lB(x:DV)(δ:DS)(P:Md->List Ad->DS->Prop):Prop:=match x with
 | .dat m (.list ds)=>P (Kr m) ds δ
 | _=>False
def IE(x:DV)(δ:DS)(P:Md->List Ad->DS->Prop):Prop:=match x with
 | .dat m (.tuple ds)=>P (Kr m) ds δ
 | _=>False
def T6(xs:List DV)(δ:DS)(P:Md->List Ad->DS->Prop):Prop:=match xs with
 | [.dat _ (.int j)]=>-1000000<=j/\j<=1000000/\P .sh ((Cc j.toNat).map λi:Nat=>.int i) δ
 | _=>False
def GV(xs:List DV)(δ:DS)(P:Md->List Ad->DS->Prop):Prop:=match xs with
 | [.dat m (.tuple ds)]=>P (Kr m) (ds.zipIdx.map λp=>.tuple [.int p.2,p.1]) δ
 | _=>False
def CP(dg:DG)(db:DB)(D:DEnds)(m:Md)(ds:List Ad)(δ1:DS):Prop:=m=.sh/\∃I:Nat->DS->Prop,I 0 δ1 /\
 (∀i d δ',ds[i]? = some d->I i δ'->dg (.dat .sh d) δ' λδ2=>db { D with nx:=I (i+1),ct:=I (i+1),bk:=D.nx } δ2)/\∀δ',I ds.length δ'->D.nx δ'
def qB(js:List Nat)(dc:DT)(de:DE)(P:DV->DS->Prop)(m:Md)(ds:List Ad)(δ1:DS):Prop:=∃I:Nat->List Ad->Nat->Prop,I 0 [] δ1.n /\
 (∀i d acc n,ds[i]? = some d->I i acc n->Nj dc de ⟨.dat m d::frD δ1.sl js,n⟩ (λe n'=>I (i+1) (acc++[e]) n') (λn'=>I (i+1) acc n')) /\
 ∀acc n,I ds.length acc n->P (.dat .ow (.list acc)) ⟨δ1.sl,n⟩
def zP(js:List Nat)(dc:DT)(de:DE)(P:DV->DS->Prop)(m:Md)(ds:List Ad)(δ1:DS):Prop:=∃I:Nat->List Ad->Nat->Prop,I 0 [] δ1.n /\
 (∀i d acc n,ds[i]? = some d->I i acc n->∃d1 d2,d=.tuple [d1,d2]/\Nj dc de ⟨.dat m d1::.dat m d2::frD δ1.sl js,n⟩ (λe n'=>I (i+1) (acc++[e]) n') (λn'=>I (i+1) acc n')) /\
 ∀acc n,I ds.length acc n->P (.dat .ow (.list acc)) ⟨δ1.sl,n⟩
def xF(js1:List Nat)(j0:Nat)(js2:List Nat)(dc:DT)(de:DE)(P:DV->DS->Prop)(m:Md)(ds:List Ad)(δ1:DS):Prop:=δ1.sl[j0]? = some .drw/\∃I:Nat->List Ad->Nat->Prop,I 0 [] δ1.n /\
 (∀i d acc n,ds[i]? = some d->I i acc n->Pb (js1.length+1) dc de ⟨.dat m d::(frD (δ1.sl.set j0 .un) js1++.drw::frD (δ1.sl.set j0 .un) js2),n⟩ (λe n'=>I (i+1) (acc++[e]) n') (λn'=>I (i+1) acc n')) /\
 ∀acc n,I ds.length acc n->P (.dat .ow (.list acc)) ⟨δ1.sl,n⟩
def V9(yes:Ad->Nat->Prop)(y:DV)(δ:DS):Prop:=match y with
 | .dat _ e=>imm e=true/\yes e δ.n
 | _=>False
def yX(de:DE)(yes:Ad->Nat->Prop)(no:Nat->Prop)(b:Bool)(δ:DS):Prop:=match b with
 | true=>de δ λy δ3=>V9 yes y δ3
 | false=>no δ.n
def xW(p:Nat)(yes:Ad->Nat->Prop)(y:DV)(δ:DS):Prop:=match y with
 | .dat _ e=>imm e=true/\δ.sl[p]? = some .drw/\yes e δ.n
 | _=>False
def t5(p:Nat)(de:DE)(yes:Ad->Nat->Prop)(no:Nat->Prop)(b:Bool)(δ:DS):Prop:=match b with
 | true=>de δ λy δ3=>xW p yes y δ3
 | false=>δ.sl[p]? = some .drw/\no δ.n
def callB(pf:PF)(xs:List DV)(δ:DS)(P:DV->DS->Prop):Prop:=match datas xs with
 | some ds=>pf ds λd=>P (.dat .ow d) δ
 | none=>False
def callBW(i:Nat)(df:DF)(xs:List DV)(δ:DS)(P:DV->DS->Prop):Prop:=match δ.sl[i]? with
 | some .drw=>match datas xs with
  | some ds=>df ds δ.n λd n'=>P (.dat .ow d) ⟨δ.sl,n'⟩
  | none=>False
 | _=>False
def i3(xs:List DV)(δ:DS)(P:DV->DS->Prop):Prop:=match xs with
 | [.dat _ (.int _)]=>P .drw δ
 | _=>False
def appB(i:Nat)(y:DV)(δ:DS)(D:DEnds):Prop:=match δ.sl[i]?,y with
 | some (.dat m (.list ds)),.dat _ e=>own1 m=true/\npk δ.sl=true/\imm e=true/\ds.length<1000000/\D.nx ⟨δ.sl.set i (.dat m (.list (ds++[e]))),δ.n⟩
 | _,_=>False
def setB(i:Nat)(y z:DV)(δ:DS)(D:DEnds):Prop:=match δ.sl[i]?,y,z with
 | some (.dat m (.list ds)),.dat _ e,.dat _ (.int k)=>own1 m=true/\npk δ.sl=true/\imm e=true/\Eg ds=true/\∃j,oH ds.length k=some j/\D.nx ⟨δ.sl.set i (.dat m (.list (ds.set j e))),δ.n⟩
 | _,_,_=>False
def callXB(px:PX)(Ex:Addr->Prop)(xs:List DV)(δ:DS)(P:DV->DS->Prop):Prop:=match datas xs with
 | some ds=>px ds (λd=>P (.dat .ow d) δ) Ex
 | none=>False
def callAB(pf:PF)(xs:List DV)(δ:DS)(P:DV->DS->Prop):Prop:=match datas xs with
 | some ds=>pf ds λd=>P (.dat .sh d) δ
 | none=>False
def BY(xs:List DV)(δ:DS)(P:DV->DS->Prop):Prop:=match xs with
 | [.dat _ (.tuple ds)]=>∃ns:List Int,ds=ns.map Bs/\(∀x∈ns,0<=x/\x<60)/\P (.dat .ow (.list ((aP ns).map Bs))) δ
 | _=>False
theorem e_lenSet{da:DA}{δ:DS}{P:DV->DS->Prop}:rF da δ P=(da δ λxs δ1=>FM xs δ1 P):=rfl
theorem e_lsB{m:Md}{ds:List Ad}{δ:DS}{P:DV->DS->Prop}:FM [.dat m (.list ds)] δ P=(∃ws:List (List Int),ds=ws.map Co/\ws.length<=1100/\∀n:Nat,n<=ws.length->(ws.Nodup->n=ws.length)->(n=ws.length->ws.Nodup)->P (.dat .ow (.int n)) δ):=rfl
theorem BB{i:Nat}{dk de:DE}{D:DEnds}{δ:DS}:j5 i dk de D δ=(match δ.sl[i]? with | some (.dat _ (.list _))=>dk δ λz δ1=>de δ1 λy δ2=>R4 i z y δ2 D | _=>False):=rfl
theorem e_seq{t u:DB}{D:DEnds}{δ:DS}:V5 t u D δ=(t { D with nx:=λδ'=>u D δ' } δ):=rfl
theorem e_skip{D:DEnds}{δ:DS}:P4 D δ=(D.nx δ):=rfl
theorem e_ret{de:DE}{D:DEnds}{δ:DS}:AC de D δ=(de δ D.rt):=rfl
theorem e_expr{de:DE}{D:DEnds}{δ:DS}:O2 de D δ=(de δ λ_ δ'=>D.nx δ'):=rfl
theorem e_if{dt:DT}{t u:DB}{D:DEnds}{δ:DS}:GX dt t u D δ=(dt δ (P2 t u D)):=rfl
theorem e_asg{de:DE}{dg:DG}{D:DEnds}{δ:DS}:mH de dg D δ=(de δ λx δ'=>dg x δ' D.nx):=rfl
theorem e_name{i:Nat}{m:Md}{d:Ad}{δ:DS}{Q:DS->Prop}:My i (.dat .ow d) δ Q=(Q ⟨δ.sl.set i (.dat .sh d),δ.n⟩):=rfl
theorem e_name2{i:Nat}{m:Md}{d:Ad}{δ:DS}{Q:DS->Prop}:My i (.dat .sh d) δ Q=(Q ⟨δ.sl.set i (.dat .sh d),δ.n⟩):=rfl
theorem e_name3{i:Nat}{m:Md}{d:Ad}{δ:DS}{Q:DS->Prop}:My i (.dat .tp d) δ Q=(Q ⟨δ.sl.set i (.dat .sh d),δ.n⟩):=rfl
theorem e_name4{i:Nat}{δ:DS}{Q:DS->Prop}:My i .drw δ Q=(Q ⟨δ.sl.set i .drw,δ.n⟩):=rfl
theorem e_own{i:Nat}{d:Ad}{δ:DS}{Q:DS->Prop}:aO i (.dat .ow d) δ Q=(Q ⟨δ.sl.set i (.dat .ow d),δ.n⟩):=rfl
theorem e_nT{i:Nat}{x:DV}{δ:DS}{Q:DS->Prop}:HC true i x δ Q=(aO i x δ Q):=rfl
theorem e_gtup{n:Nat}{gs:yA}{m:Md}{ds:List Ad}{δ:DS}{Q:DS->Prop}:vP n gs (.dat m (.tuple ds)) δ Q=(ds.length=n/\gs (ds.map λd=>.dat (Nt m) d) δ Q):=rfl
theorem e_gsn{δ:DS}{Q:DS->Prop}:zX [] δ Q=(Q δ):=rfl
theorem e_gsc{g:DG}{gs:yA}{x:DV}{r:List DV}{δ:DS}{Q:DS->Prop}:pM g gs (x::r) δ Q=(g x δ λδ'=>gs r δ' Q):=rfl
theorem e_op{rd:D2}{da db:DE}{δ:DS}{P:DV->DS->Prop}:Tz rd da db δ P=(da δ λx δ1=>db δ1 λy δ2=>rd x y λz=>P z δ2):=rfl
theorem e_var{i:Nat}{δ:DS}{P:DV->DS->Prop}:E3 i δ P=(match δ.sl[i]? with | some (.dat m d)=>P (.dat (mI m) d) δ | _=>False):=rfl
theorem e_c{d:Ad}{δ:DS}{P:DV->DS->Prop}:dC d δ P=(P (.dat .ow d) δ):=rfl
theorem e_imm{de:DE}{δ:DS}{P:DV->DS->Prop}:CC de δ P=(de δ λx δ'=>CH x δ' P):=rfl
theorem e_immB{m:Md}{d:Ad}{δ:DS}{P:DV->DS->Prop}:CH (.dat m d) δ P=(imm d=true/\P (.dat .ow d) δ):=rfl
theorem e_take{i:Nat}{δ:DS}{P:DV->DS->Prop}:vO i δ P=(match δ.sl[i]? with | some (.dat m d)=>P (.dat m d) ⟨δ.sl.set i .un,δ.n⟩ | _=>False):=rfl
theorem e_I{C:Int->Int->Prop}{g:Int->Int->Ad}{i j:Int}{m m':Md}{P:DV->Prop}:BC C g (.dat m (.int i)) (.dat m' (.int j)) P=(C i j/\P (.dat .ow (g i j))):=rfl
theorem e_I0{g:Int->Int->Ad}{i j:Int}{m m':Md}{P:DV->Prop}:gB g (.dat m (.int i)) (.dat m' (.int j)) P=(P (.dat .ow (g i j))):=rfl
theorem e_eqF{d e:Ad}{m m':Md}{P:DV->Prop}:cT false (.dat m d) (.dat m' e) P=(d.depth<=60/\e.depth<=60/\P (.dat .ow (.bool (Ds d e)))):=rfl
theorem e_eqT{d e:Ad}{m m':Md}{P:DV->Prop}:cT true (.dat m d) (.dat m' e) P=(d.depth<=60/\e.depth<=60/\P (.dat .ow (.bool (!Ds d e)))):=rfl
theorem e_inFl{d:Ad}{es:List Ad}{m m':Md}{P:DV->Prop}:oA false (.dat m d) (.dat m' (.list es)) P=(Bk es<=60/\d.depth<=60/\P (.dat .ow (.bool (es.any λe=>Ds e d)))):=rfl
theorem e_inTl{d:Ad}{es:List Ad}{m m':Md}{P:DV->Prop}:oA true (.dat m d) (.dat m' (.list es)) P=(Bk es<=60/\d.depth<=60/\P (.dat .ow (.bool (!(es.any λe=>Ds e d))))):=rfl
theorem e_inTt{d:Ad}{es:List Ad}{m m':Md}{P:DV->Prop}:oA true (.dat m d) (.dat m' (.tuple es)) P=(Bk es<=60/\d.depth<=60/\P (.dat .ow (.bool (!(es.any λe=>Ds e d))))):=rfl
theorem e_isNF{d:Ad}{m m':Md}{P:DV->Prop}:Yj false (.dat m d) (.dat m' .none) P=(P (.dat .ow (.bool (isNone d)))):=rfl
theorem e_isNT{d:Ad}{m m':Md}{P:DV->Prop}:Yj true (.dat m d) (.dat m' .none) P=(P (.dat .ow (.bool (!isNone d)))):=rfl
theorem e_ixl{ds:List Ad}{i:Int}{m m':Md}{P:DV->Prop}:yP (.dat m (.list ds)) (.dat m' (.int i)) P=(∃d,Re ds i=some d/\P (.dat (Nt m) d)):=rfl
theorem e_cat{ds es:List Ad}{m m':Md}{P:DV->Prop}:qE (.dat m (.list ds)) (.dat m' (.list es)) P=(Eg ds=true/\Eg es=true/\ds.length+es.length<=1000000/\P (.dat .ow (.list (ds++es)))):=rfl
theorem e_catT_w1{nds:List Int}{ds es:List Ad}{m m':Md}{P:DV->Prop}:iL (.dat m (Co nds)) (.dat m' (.tuple es)) P=(Eg (nds.map Bs)=true/\Eg es=true/\(nds.map Bs).length+es.length<=1000000/\P (.dat .ow (.tuple ((nds.map Bs)++es)))):=rfl
theorem e_catS{i j:Str}{m m':Md}{P:DV->Prop}:iV (.dat m (.str i)) (.dat m' (.str j)) P=(i.length+j.length<=1000000/\P (.dat .ow (.str (i++j)))):=rfl
theorem e_ntT{m:Md}{ds:List Ad}{P:DV->Prop}:cU true m ds P=(Eg ds=true/\P (.dat .ow (.tuple ds))):=rfl
theorem e_pkOfsh  : mI .sh=(Md.sh):=rfl
theorem e_pkOfow  : mI .ow=(Md.pk):=rfl
theorem e_mdInpk  : Nt .pk=(Md.pk):=rfl
theorem e_mdInsh  : Nt .sh=(Md.sh):=rfl
theorem e_mdInow  : Nt .ow=(Md.ow):=rfl
theorem e_mdItsh  : Kr .sh=(Md.sh):=rfl
theorem e_mdIttp  : Kr .tp=(Md.sh):=rfl
theorem e_mdItow  : Kr .ow=(Md.sh):=rfl
theorem e_nil{δ:DS}{P:List DV->DS->Prop}:Y6 δ P=(P [] δ):=rfl
theorem e_cons{de:DE}{da:DA}{δ:DS}{P:List DV->DS->Prop}:mF de da δ P=(de δ λx δ1=>da δ1 λxs δ2=>P (x::xs) δ2):=rfl
theorem e_tup{da:DA}{δ:DS}{P:DV->DS->Prop}:CG da δ P=(da δ λxs δ'=>tupB xs δ' P):=rfl
theorem e_lst{da:DA}{δ:DS}{P:DV->DS->Prop}:CT da δ P=(da δ λxs δ'=>lstB xs δ' P):=rfl
theorem e_noPart{δ:DS}{P:Option Int->DS->Prop}:rJ δ P=(P none δ):=rfl
theorem e_part{de:DE}{δ:DS}{P:Option Int->DS->Prop}:T1 de δ P=(de δ λx δ'=>R8 x δ' P):=rfl
theorem e_partB{m:Md}{i:Int}{δ:DS}{P:Option Int->DS->Prop}:R8 (.dat m (.int i)) δ P=(P (some i) δ):=rfl
theorem e_sl{i:Bool}{de:DE}{dl dh:DO}{δ:DS}{P:DV->DS->Prop}:IF i de dl dh δ P=(de δ λx δ1=>dl δ1 λl δ2=>dh δ2 λh δ3=>HX i x l h δ3 P):=rfl
theorem e_slBt_w1{nds:List Int}{i:Bool}{m:Md}{ds:List Ad}{l h:Option Int}{δ:DS}{P:DV->DS->Prop}:HX i (.dat m (Co nds)) l h δ P=(cU i m (Ls (nds.map Bs) l h) λz=>P z δ):=rfl
theorem e_cb{rd:DC}{da:DA}{δ:DS}{P:DV->DS->Prop}:BF rd da δ P=(da δ λxs δ1=>rd xs λz=>P z δ1):=rfl
theorem e_lenl{ds:List Ad}{m m':Md}{P:DV->Prop}:qD [.dat m (.list ds)] P=(P (.dat .ow (.int ds.length))):=rfl
theorem e_tuplel{i:Bool}{ds:List Ad}{m m':Md}{P:DV->Prop}:iR i [.dat m (.list ds)] P=(cU i m ds P):=rfl
theorem e_intb{i:Bool}{m m':Md}{P:DV->Prop}:zZ [.dat m (.bool i)] P=(P (.dat .ow (.int (if i=true then 1 else 0)))):=rfl
theorem e_all{ds:List Ad}{m m':Md}{P:DV->Prop}:j4 [.dat m (.list ds)] P=(∃bs:List Bool,ds=bs.map PyData.bool/\P (.dat .ow (.bool (bs.all id)))):=rfl
theorem e_isi{d:Ad}{n:String}{m m':Md}{P:DV->Prop}:u5 [.dat m d,.val (.ty n)] P=((n = "int" \/ n = "bool" \/ n = "str" \/ n = "list" \/ n = "tuple")/\P (.dat .ow (.bool (Ua d n)))):=rfl
theorem e_str{d:Ad}{m m':Md}{P:DV->Prop}:i9 [.dat m d] P=((∃b,b<=400/\Po b d/\(b+12) * Mi d<=Ax)/\d.depth<=90/\P (.dat .ow (.str (Ro d)))):=rfl
theorem e_v{v:V}{δ:DS}{P:DV->DS->Prop}:dV v δ P=(P (.val v) δ):=rfl
theorem e_b{de:DE}{δ:DS}{P:Bool->DS->Prop}:dB de δ P=(de δ λx δ'=>bB x δ' P):=rfl
theorem e_bB{m:Md}{b:Bool}{δ:DS}{P:Bool->DS->Prop}:bB (.dat m (.bool b)) δ P=(P b δ):=rfl
theorem e_notT{dt:DT}{δ:DS}{P:Bool->DS->Prop}:T3 dt δ P=(dt δ λb δ'=>P (!b) δ'):=rfl
theorem e_andT{dt du:DT}{δ:DS}{P:Bool->DS->Prop}:O8 dt du δ P=(dt δ λb δ'=>tL du b δ' P):=rfl
theorem e_andTt{du:DT}{δ:DS}{P:Bool->DS->Prop}:tL du true δ P=(du δ P):=rfl
theorem e_andTf{du:DT}{δ:DS}{P:Bool->DS->Prop}:tL du false δ P=(P false δ):=rfl
theorem e_orT{dt du:DT}{δ:DS}{P:Bool->DS->Prop}:ED dt du δ P=(dt δ λb δ'=>FH du b δ' P):=rfl
theorem e_orTt{du:DT}{δ:DS}{P:Bool->DS->Prop}:FH du true δ P=(P true δ):=rfl
theorem e_orTf{du:DT}{δ:DS}{P:Bool->DS->Prop}:FH du false δ P=(du δ P):=rfl
theorem e_not{de:DE}{δ:DS}{P:DV->DS->Prop}:EX de δ P=(de δ λx δ'=>CV x δ' P):=rfl
theorem e_notB{m:Md}{b:Bool}{δ:DS}{P:DV->DS->Prop}:CV (.dat m (.bool b)) δ P=(P (.dat .ow (.bool (!b))) δ):=rfl
theorem e_and{da db:DE}{δ:DS}{P:DV->DS->Prop}:ER da db δ P=(da δ λx δ'=>DJ db x δ' P):=rfl
theorem e_andt{db:DE}{m:Md}{δ:DS}{P:DV->DS->Prop}:DJ db (.dat m (.bool true)) δ P=(db δ P):=rfl
theorem e_ifE{dt:DT}{da db:DE}{δ:DS}{P:DV->DS->Prop}:ET dt da db δ P=(dt δ λb δ'=>HE da db b δ' P):=rfl
theorem e_ifEt{da db:DE}{δ:DS}{P:DV->DS->Prop}:HE da db true δ P=(da δ P):=rfl
theorem e_ifEf{da db:DE}{δ:DS}{P:DV->DS->Prop}:HE da db false δ P=(db δ P):=rfl
theorem e_neg{de:DE}{δ:DS}{P:DV->DS->Prop}:DQ de δ P=(de δ λx δ'=>BN x δ' P):=rfl
theorem e_negB{m:Md}{i:Int}{δ:DS}{P:DV->DS->Prop}:BN (.dat m (.int i)) δ P=(P (.dat .ow (.int (-i))) δ):=rfl
theorem e_dL{de:DE}{δ:DS}{P:Md->List Ad->DS->Prop}:dL de δ P=(de δ λx δ'=>lB x δ' P):=rfl
theorem e_dTp{de:DE}{δ:DS}{P:Md->List Ad->DS->Prop}:ID de δ P=(de δ λx δ'=>IE x δ' P):=rfl
theorem e_lB{m:Md}{ds:List Ad}{δ:DS}{P:Md->List Ad->DS->Prop}:lB (.dat m (.list ds)) δ P=(P (Kr m) ds δ):=rfl
theorem e_tpB_w1{nds:List Int}{m:Md}{ds:List Ad}{δ:DS}{P:Md->List Ad->DS->Prop}:IE (.dat m (Co nds)) δ P=(P (Kr m) (nds.map Bs) δ):=rfl
theorem e_range1{da:DA}{δ:DS}{P:Md->List Ad->DS->Prop}:jX da δ P=(da δ λxs δ'=>T6 xs δ' P):=rfl
theorem e_rng1B{m:Md}{j:Int}{δ:DS}{P:Md->List Ad->DS->Prop}:T6 [.dat m (.int j)] δ P=(-1000000<=j/\j<=1000000/\P .sh ((Cc j.toNat).map λi:Nat=>.int i) δ):=rfl
theorem e_for{di:DI}{dg:DG}{db:DB}{D:DEnds}{δ:DS}:CI di dg db D δ=(di δ (CP dg db D)):=rfl
theorem e_comp{di:DI}{js:List Nat}{dc:DT}{de:DE}{δ:DS}{P:DV->DS->Prop}:zN di js dc de δ P=(di δ (qB js dc de P)):=rfl
theorem e_comp2{di:DI}{js:List Nat}{dc:DT}{de:DE}{δ:DS}{P:DV->DS->Prop}:zL di js dc de δ P=(di δ (zP js dc de P)):=rfl
theorem e_compD{di:DI}{js1 js2:List Nat}{j0:Nat}{dc:DT}{de:DE}{δ:DS}{P:DV->DS->Prop}:pC di js1 j0 js2 dc de δ P=(di δ (xF js1 j0 js2 dc de P)):=rfl
theorem e_noTest{δ:DS}{P:Bool->DS->Prop}:jA δ P=(P true δ):=rfl
theorem e_step{dc:DT}{de:DE}{δ:DS}{yes:Ad->Nat->Prop}{no:Nat->Prop}:Nj dc de δ yes no=(dc δ λb δ2=>yX de yes no b δ2):=rfl
theorem e_stepT{de:DE}{δ:DS}{yes:Ad->Nat->Prop}{no:Nat->Prop}:yX de yes no true δ=(de δ λy δ3=>V9 yes y δ3):=rfl
theorem e_stepF{de:DE}{δ:DS}{yes:Ad->Nat->Prop}{no:Nat->Prop}:yX de yes no false δ=(no δ.n):=rfl
theorem e_yesB{m:Md}{e:Ad}{δ:DS}{yes:Ad->Nat->Prop}:V9 yes (.dat m e) δ=(imm e=true/\yes e δ.n):=rfl
theorem e_stepD{p:Nat}{dc:DT}{de:DE}{δ:DS}{yes:Ad->Nat->Prop}{no:Nat->Prop}:Pb p dc de δ yes no=(dc δ λb δ2=>t5 p de yes no b δ2):=rfl
theorem e_stepDT{p:Nat}{de:DE}{δ:DS}{yes:Ad->Nat->Prop}{no:Nat->Prop}:t5 p de yes no true δ=(de δ λy δ3=>xW p yes y δ3):=rfl
theorem e_yesBD{p:Nat}{m:Md}{e:Ad}{δ:DS}{yes:Ad->Nat->Prop}:xW p yes (.dat m e) δ=(imm e=true/\δ.sl[p]? = some .drw/\yes e δ.n):=rfl
theorem e_call{pf:PF}{da:DA}{δ:DS}{P:DV->DS->Prop}:wL pf da δ P=(da δ λxs δ1=>callB pf xs δ1 P):=rfl
theorem e_callW{i:Nat}{df:DF}{da:DA}{δ:DS}{P:DV->DS->Prop}:oN i df da δ P=(match δ.sl[i]? with | some .drw=>da δ λxs δ1=>callBW i df xs δ1 P | _=>False):=rfl
theorem e_draws{da:DA}{δ:DS}{P:DV->DS->Prop}:xT da δ P=(da δ λxs δ1=>i3 xs δ1 P):=rfl
theorem e_drawsB{m:Md}{i:Int}{δ:DS}{P:DV->DS->Prop}:i3 [.dat m (.int i)] δ P=(P .drw δ):=rfl
theorem e_append{i:Nat}{de:DE}{D:DEnds}{δ:DS}:iK i de D δ=(match δ.sl[i]? with | some (.dat _ (.list _))=>de δ λy δ1=>appB i y δ1 D | _=>False):=rfl
theorem e_setI{i:Nat}{dk de:DE}{D:DEnds}{δ:DS}:R7 i dk de D δ=(de δ λy δ1=>match δ1.sl[i]? with | some (.dat _ (.list _))=>dk δ1 λz δ2=>setB i y z δ2 D | _=>False):=rfl
theorem e_scrSl{i:Nat}{dl dh:DO}{δ:DS}{P:DV->DS->Prop}:oP i dl dh δ P=(match δ.sl[i]? with | some (.scr ns)=>dl δ λl δ2=>dh δ2 λh δ3=>P (.dat .ow (.list ((Ls ns l h).map Bs))) δ3 | _=>False):=rfl
theorem e_callX{px:PX}{Ex:Addr->Prop}{da:DA}{δ:DS}{P:DV->DS->Prop}:wJ px Ex da δ P=(da δ λxs δ1=>callXB px Ex xs δ1 P):=rfl
theorem e_raise{Ex:Addr->Prop}{C:Addr}{D:DEnds}{δ:DS}:pF Ex C D δ=(Ex C):=rfl
theorem e_callA{pf:PF}{da:DA}{δ:DS}{P:DV->DS->Prop}:xQ pf da δ P=(da δ λxs δ1=>noPk xs=true/\callAB pf xs δ1 P):=rfl
theorem e_ssT{da:DA}{δ:DS}{P:DV->DS->Prop}:BK da δ P=(da δ λxs δ1=>BY xs δ1 P):=rfl
theorem e_ssTt{m:Md}{ds:List Ad}{δ:DS}{P:DV->DS->Prop}:BY [.dat m (.tuple ds)] δ P=(∃ns:List Int,ds=ns.map Bs/\(∀x∈ns,0<=x/\x<60)/\P (.dat .ow (.list ((aP ns).map Bs))) δ):=rfl
section
variable{t u:DB}{D:DEnds}{δ δ1:DS}
theorem Uq{α:Type}{dg:DG}{db:DB}{ds:List Ad}{l:List α}{g:α->Ad}(e:ds=l.map g)(I:Nat->DS->Prop)(h0:I 0 δ1)(hs:∀i a δ',l[i]? = some a->I i δ'->dg (.dat .sh (g a)) δ' λδ2=>db { D with nx:=I (i+1),ct:=I (i+1),bk:=D.nx } δ2)(hf:∀δ',I l.length δ'->D.nx δ'):CP dg db D .sh ds δ1:=by
 subst e
 refine ⟨rfl,I,h0,λi d δ' hd hI=>?_,λδ' h=>hf δ' (by rw[Ab] at h; exact h)⟩
 rw[Cn] at hd
 cases q:l[i]? with
 | none=>rw[q] at hd; cases hd
 | some a=>rw[q] at hd; cases hd; exact hs i a δ' q hI
end
section
variable{js:List Nat}{dc:DT}{de:DE}{P:DV->DS->Prop}{m:Md}{ds:List Ad}{δ1:DS}{α:Type}
theorem R3{l:List α}{g:α->Ad}(e:ds=l.map g)(p:α->Bool)(f:α->Ad)(h:∀a∈l,∀(yes:Ad->Nat->Prop) (no:Nat->Prop),(p a=true->yes (f a) δ1.n)->(p a=false->no δ1.n)->Nj dc de ⟨.dat m (g a)::frD δ1.sl js,δ1.n⟩ yes no)(q:P (.dat .ow (.list ((l.filter p).map f))) δ1):qB js dc de P m ds δ1:=by
 subst e
 refine ⟨λi acc n=>n=δ1.n/\acc=((l.take i).filter p).map f,⟨rfl,by simp⟩,λi d acc n hd ⟨hn,ha⟩=>?_,λacc n ⟨hn,ha⟩=>?_⟩
 ·subst hn ha
  rw[Cn] at hd
  cases q:l[i]? with
  | none=>rw[q] at hd; cases hd
  | some a =>
   rw[q] at hd
   cases hd
   refine h a (Ay q) _ _ (λhp=>⟨rfl,?_⟩) (λhp=>⟨rfl,?_⟩)
   ·rw[Gb q,Oq,Bd]; simp [hp]
   ·rw[Gb q,Oq,Bd]; simp [hp]
 ·subst hn ha
  rw[Ab,Dr]
  exact q
theorem t8{l:List α}{g:α->Ad}(e:ds=l.map g)(f:α->Ad)(h:∀a∈l,∀(yes:Ad->Nat->Prop) (no:Nat->Prop),yes (f a) δ1.n->Nj dc de ⟨.dat m (g a)::frD δ1.sl js,δ1.n⟩ yes no)(q:P (.dat .ow (.list (l.map f))) δ1):qB js dc de P m ds δ1:=by
 refine R3 e (λ_=>true) f (λa ha yes no hy _=>h a ha yes no (hy rfl)) ?_
 rw[uX.mpr λ_ _=>rfl]
 exact q
theorem Y7{l:List α}{g1 g2:α->Ad}(e:ds=l.map λa=>.tuple [g1 a,g2 a])(p:α->Bool)(f:α->Ad)(h:∀a∈l,∀(yes:Ad->Nat->Prop) (no:Nat->Prop),(p a=true->yes (f a) δ1.n)->(p a=false->no δ1.n)->Nj dc de ⟨.dat m (g1 a)::.dat m (g2 a)::frD δ1.sl js,δ1.n⟩ yes no)(q:P (.dat .ow (.list ((l.filter p).map f))) δ1):zP js dc de P m ds δ1:=by
 subst e
 refine ⟨λi acc n=>n=δ1.n/\acc=((l.take i).filter p).map f,⟨rfl,by simp⟩,λi d acc n hd ⟨hn,ha⟩=>?_,λacc n ⟨hn,ha⟩=>?_⟩
 ·subst hn ha
  rw[Cn] at hd
  cases q:l[i]? with
  | none=>rw[q] at hd; cases hd
  | some a =>
   rw[q] at hd
   cases hd
   refine ⟨_,_,rfl,h a (Ay q) _ _ (λhp=>⟨rfl,?_⟩) (λhp=>⟨rfl,?_⟩)⟩
   ·rw[Gb q,Oq,Bd]; simp [hp]
   ·rw[Gb q,Oq,Bd]; simp [hp]
 ·subst hn ha
  rw[Ab,Dr]
  exact q
theorem aM{l:List α}{g:α->Ad}(e:ds=l.map g)(I:Nat->List Ad->Nat->Prop)(h0:I 0 [] δ1.n)(h:∀i a acc n,l[i]? = some a->I i acc n->Nj dc de ⟨.dat m (g a)::frD δ1.sl js,n⟩ (λe n'=>I (i+1) (acc++[e]) n') (λn'=>I (i+1) acc n'))(q:∀acc n,I l.length acc n->P (.dat .ow (.list acc)) ⟨δ1.sl,n⟩):qB js dc de P m ds δ1:=by
 subst e
 refine ⟨I,h0,λi d acc n hd hI=>?_,λacc n hI=>q acc n (by rw[Ab] at hI; exact hI)⟩
 rw[Cn] at hd
 cases q:l[i]? with
 | none=>rw[q] at hd; cases hd
 | some a=>rw[q] at hd; cases hd; exact h i a acc n q hI
theorem M4{js1 js2:List Nat}{j0:Nat}{l:List α}{g:α->Ad}(e:ds=l.map g)(hj:δ1.sl[j0]? = some .drw)(I:Nat->List Ad->Nat->Prop)(h0:I 0 [] δ1.n)(h:∀i a acc n,l[i]? = some a->I i acc n->Pb (js1.length+1) dc de ⟨.dat m (g a)::(frD (δ1.sl.set j0 .un) js1++.drw::frD (δ1.sl.set j0 .un) js2),n⟩ (λe n'=>I (i+1) (acc++[e]) n') (λn'=>I (i+1) acc n'))(q:∀acc n,I l.length acc n->P (.dat .ow (.list acc)) ⟨δ1.sl,n⟩):xF js1 j0 js2 dc de P m ds δ1:=by
 subst e
 refine ⟨hj,I,h0,λi d acc n hd hI=>?_,λacc n hI=>q acc n (by rw[Ab] at hI; exact hI)⟩
 rw[Cn] at hd
 cases q:l[i]? with
 | none=>rw[q] at hd; cases hd
 | some a=>rw[q] at hd; cases hd; exact h i a acc n q hI
end
theorem Rp{t u:DB}{D:DEnds}{b:Bool}{δ:DS}(h1:b=true->t D δ)(h2:b=false->u D δ):P2 t u D b δ:=by
 cases b with
 | true=>exact h1 rfl
 | false=>exact h2 rfl
theorem nM{du:DT}{b:Bool}{δ:DS}{P:Bool->DS->Prop}(h1:b=true->du δ P)(h2:b=false->P false δ):tL du b δ P:=by
 cases b with
 | true=>exact h1 rfl
 | false=>exact h2 rfl
theorem eR{du:DT}{b:Bool}{δ:DS}{P:Bool->DS->Prop}(h1:b=true->P true δ)(h2:b=false->du δ P):FH du b δ P:=by
 cases b with
 | true=>exact h1 rfl
 | false=>exact h2 rfl
class Im (d:Ad):Prop where
 h:imm d=true
class ImA (ds:List Ad):Prop where
 h:Eg ds=true
theorem IS{ds:List Ad}[h:ImA ds]:Eg ds=true:=h.h
instance {i:Int}:Im (.int i):=⟨by simp [imm]⟩
instance {i:Bool}:Im (.bool i):=⟨by simp [imm]⟩
instance {i:Str}:Im (.str i):=⟨by simp [imm]⟩
instance:Im .none:=⟨by simp [imm]⟩
instance {ds:List Ad} [h:ImA ds]:Im (.tuple ds):=⟨by rw[imm]; exact h.h⟩
instance {ns:List Int}:Im (Co ns):=⟨cE ns⟩
instance:ImA []:=⟨by simp [Eg]⟩
instance {d:Ad} {ds:List Ad} [h:Im d] [t:ImA ds]:ImA (d::ds):=⟨by rw[Eg,h.h,t.h]; rfl⟩
instance {α:Type} {f:α->Ad} {l:List α} [h:∀a,Im (f a)]:ImA (l.map f):=⟨Qh (λa=>(h a).h) l⟩
instance {a b:List Ad} [h:ImA a] [k:ImA b]:ImA (a++b):=⟨by rw[aH,h.h,k.h]; rfl⟩
class Dp (d:Ad) (k:outParam Nat):Prop where
 h:d.depth<=k
class DpA (ds:List Ad) (k:outParam Nat):Prop where
 h:Bk ds<=k
theorem dp{d:Ad}{k:Nat}[h:Dp d k](hk:k<=60:=by decide):d.depth<=60:=Ba h.h hk
instance {i:Int}:Dp (.int i) 0:=⟨by simp [Cv]⟩
instance {i:Bool}:Dp (.bool i) 0:=⟨by simp [Cv]⟩
instance {i:Str}:Dp (.str i) 0:=⟨by simp [Cv]⟩
instance:Dp .none 0:=⟨by simp [Cv]⟩
instance {ds:List Ad} {k:Nat} [h:DpA ds k]:Dp (.tuple ds) (k+1):=⟨by have:=h.h; simp only[Cv]; omega⟩
instance {ds:List Ad} {k:Nat} [h:DpA ds k]:Dp (.list ds) (k+1):=⟨by have:=h.h; simp only[Cv]; omega⟩
instance {ns:List Int}:Dp (Co ns) 1:=⟨oU ns⟩
instance:DpA [] 0:=⟨by simp [Bk]⟩
instance {d:Ad} {ds:List Ad} {k j:Nat} [h:Dp d k] [t:DpA ds j]:DpA (d::ds) (k+j):=⟨by have:=h.h; have:=t.h; simp only[Bk]; omega⟩
instance {α:Type} {f:α->Ad} {l:List α} {k:Nat} [h:∀a,Dp (f a) k]:DpA (l.map f) k:=⟨Ye λx hx=>by
 obtain ⟨a,_,rfl⟩:=Ci.mp hx
 exact (h a).h⟩
theorem iT{a b:List Ad}:Bk (a++b)<=Bk a+Bk b:=by
 induction a with
 | nil=>simp [Bk]
 | cons x a ih=>simp only[En,Bk]; omega
instance {a b:List Ad} {k j:Nat} [h:DpA a k] [t:DpA b j]:DpA (a++b) (k+j):=⟨by have:=h.h; have:=t.h; have:=iT (a:=a) (b:=b); omega⟩
theorem eqD_bl(i j:Bool):Ds (.bool i) (.bool j)=(i == j):=by simp [Ds]
theorem eqD_str(i j:Str):Ds (.str i) (.str j)=(i == j):=by simp [Ds]
theorem mD(a b:List Ad):Ds (.list a) (.list b)=Ko a b:=by simp [Ds]
theorem rW(a b:List Ad):Ds (.tuple a) (.tuple b)=Ko a b:=by simp [Ds]
theorem eI(x y:Ad)(a b:List Ad):Ko (x::a) (y::b)=(Ds x y && Ko a b):=by simp [Ko]
theorem zA:Ko [] []=true:=by simp [Ko]
theorem Vf{α:Type}[DecidableEq α]{f:α->Ad}(h:∀a b,Ds (f a) (f b)=decide (a=b)):∀l m:List α,Ko (l.map f) (m.map f)=decide (l=m)
 | [],[]=>by simp [Ko]
 | [],_::_=>by simp [Ko]
 | _::_,[]=>by simp [Ko]
 | a::l,b::m=>by simp [Ko,h,Vf h l m]
theorem eqD_intd(i j:Int):Ds (.int i) (.int j)=decide (i=j):=by simp [Ds]; rfl
theorem Rv(a b:List Int):Ds (Co a) (Co b)=decide (a=b):=by
 unfold Co
 rw[rW,Vf eqD_intd]
def jG(ws:List (List Int)):Ad:=.list (ws.map Co)
instance {ws:List (List Int)}:Dp (jG ws) 2:=⟨(inferInstance:Dp (.list (ws.map Co)) 2).h⟩
theorem uJ(a b:List (List Int)):Ds (jG a) (jG b)=decide (a=b):=by
 unfold jG
 rw[mD,Vf Rv]
def BW(ns:List Int):Ad:=.list (ns.map Bs)
instance {ns:List Int}:Dp (BW ns) 1:=⟨(inferInstance:Dp (.list (ns.map Bs)) 1).h⟩
theorem FO(ns:List Int)(i:Int):((ns.map Bs).any λe=>Ds e (.int i))=decide (i∈ns):=by
 rw[List.any_map]
 induction ns with
 | nil=>rfl
 | cons n ns ih =>
  rw[Mm,ih]
  simp only[Um,eqD_intd,Ap]
  by_cases h:n=i
  ·subst h; simp
  ·have : ¬ i=n:=λz=>h z.symm
   simp [h,this]
theorem any_map{α:Type}[DecidableEq α]{f:α->Ad}(h:∀a b,Ds (f a) (f b)=decide (a=b))(l:List α)(a:α):((l.map f).any λe=>Ds e (f a))=decide (a∈l):=by
 rw[List.any_map]
 induction l with
 | nil=>rfl
 | cons n ns ih =>
  rw[Mm,ih]
  simp only[Um,h,Ap]
  by_cases h:n=a
  ·subst h; simp
  ·have : ¬ a=n:=λz=>h z.symm
   simp [h,this]
theorem any_word(ws:List (List Int))(a:List Int):((ws.map Co).any λe=>Ds e (Co a))=decide (a∈ws):=(any_map Rv ws a).trans (decide_eq_decide.mpr Iff.rfl)
theorem gO{α β:Type}(f:α->β)(l:List α)(i:Int):Re (l.map f) i=(Re l i).map f:=by
 unfold Re
 rw[Ab]
 cases oH l.length i with
 | none=>rfl
 | some j=>simp
theorem Sh{α:Type}{l:List α}{i:Int}(h0:0<=i)(h1:i<l.length):∃a,l[i.toNat]? = some a/\Re l i=some a/\a∈l:=by
 have hk:i.toNat<l.length:=by omega
 refine ⟨l[i.toNat],by simp [hk],?_,Mf hk⟩
 have q:Re l ((i.toNat:Nat):Int)=some l[i.toNat]:=Zf (by simp [hk])
 rwa [show ((i.toNat:Nat):Int)=i by omega] at q
theorem im_e{d:Ad}[h:Im d]:(imm d=true)=True:=eq_true h.h
theorem ima_e{ds:List Ad}[h:ImA ds]:(Eg ds=true)=True:=eq_true h.h
theorem dp_e{d:Ad}{k:Nat}[h:Dp d k](hk:k<=60):(d.depth<=60)=True:=eq_true (Ba h.h hk)
theorem dpa_e{ds:List Ad}{k:Nat}[h:DpA ds k](hk:k<=60):(Bk ds<=60)=True:=eq_true (Ba h.h hk)
theorem e8(a b:List (List Int)):Ds (.list (a.map Co)) (.list (b.map Co))=decide (a=b):=uJ a b
theorem eqD_l0(a:List Ad):Ds (.list a) (.list [])=a.isEmpty:=K4 a
theorem ow_e{d:Ad}{R:Ad->Prop}:(∃e,DV.dat .ow d=.dat .ow e/\R e)=R d:=by
 apply propext
 constructor
 ·(intro q_; obtain ⟨e,h,r⟩ := q_); cases h; exact r
 ·intro r; exact ⟨d,rfl,r⟩
theorem tt_e{m:Md}{b:Bool}:(∃m',DV.dat m (.bool b)=.dat m' (.bool true))=(b=true):=by
 apply propext
 constructor
 ·rintro ⟨e,h⟩; cases h; rfl
 ·intro r; subst r; exact ⟨m,rfl⟩
theorem cdiv_e{i j:Int}:V7 i j=(0<j/\j<1073741824):=rfl
theorem cmul_l{i j:Int}(h:-18446744073709551616<i/\i<18446744073709551616):C0 i j=True:=eq_true (.inl h)
theorem qQ{t u:DB}{D:DEnds}{b:Bool}{δ:DS}(J:DS->Prop)(h:∀N:DS->Prop,(∀δ',J δ'->N δ')->P2 t u { D with nx:=N } b δ)(k:∀δ',J δ'->D.nx δ'):P2 t u D b δ:=h D.nx k
theorem Qw{sl sl':List DV}{n n':Nat}(h:sl=sl')(h':n=n'):(⟨sl,n⟩ : DS)=⟨sl',n'⟩:=by subst h h'; rfl
theorem Rl{j i a:Nat}(h:(Cc j)[i]? = some a):a=i/\i<j:=by
 obtain ⟨h1,h2⟩:=Av.mp h
 rw[Dx] at h1
 rw[List.getElem_range] at h2
 exact ⟨h2.symm,h1⟩
def NP(v:DV):Prop:=∀l,npk (v::l)=npk l
theorem Gy:NP .un:=λ_=>rfl
theorem Ej{d:Ad}:NP (.dat .sh d):=λ_=>rfl
theorem zU:NP .drw:=λ_=>rfl
theorem Q7{t u:DB}{D:DEnds}(X:(Bool->DS->Prop)->Prop)(J:DS->Prop)(h:∀N:DS->Prop,(∀δ',J δ'->N δ')->X (P2 t u { D with nx:=N }))(k:∀δ',J δ'->D.nx δ'):X (P2 t u D):=h D.nx k
theorem eD{α:Type}(x y:α)(b:Bool):Re [x,y] (if b=true then 1 else 0)=some (if b=true then y else x):=by cases b <;> rfl
theorem fold_w(w:List Int):PyData.tuple (List.map Bs w)=Co w:=rfl
theorem U9(ds:List Ad):Ua (.tuple ds) "tuple" = true:=by simp [Ua,w4]
theorem isi_ib(i:Int):Ua (.int i) "bool" = false:=by simp [Ua,w4]
theorem isi_ii(i:Int):Ua (.int i) "int" = true:=by simp [Ua,w4]
theorem isi_wt(w:List Int):Ua (Co w) "tuple" = true:=U9 _
theorem dN{ws:List (List Int)}{i:Int}(h0:0<=i)(h1:i<ws.length):∃w∈ws,Re (ws.map Co) i=some (Co w):=by
 obtain ⟨w,_,e2,e3⟩:=Sh (l:=ws) h0 h1
 exact ⟨w,e3,by rw[gO,e2]; rfl⟩
theorem EM{ns:List Int}(k:Nat):(Ls ns none (some (k:Int))).length<=k:=by
 rw[sZ,Da]
 exact Nat.min_le_left _ _
theorem ifB_lt{t u:DB}{D:DEnds}{δ:DS}:P2 t u D true δ=t D δ:=rfl
theorem ifB_lf{t u:DB}{D:DEnds}{δ:DS}:P2 t u D false δ=u D δ:=rfl
theorem isi_ss(i:Str):Ua (.str i) "str" = true:=by simp [Ua,w4]
theorem str_self(s:Str):(s == s)=true:=by simp
theorem pR{α:Type}{l:List α}{i:Nat}{a:α}(h:l[i]? = some a):Re l (i:Int)=some a:=by
 obtain ⟨b,e1,e2,_⟩:=Sh (l:=l) (i:=(i:Int)) (by omega) (by have:=(Av.mp h).1; omega)
 rw[e2,<- e1,<- h]; rfl
theorem p9{m m':Md}{ds es:List Ad}{P:DV->Prop}(h1:m≠.pk)(h2:m'≠.pk):Xi (.dat m (.list ds)) (.dat m' (.list es)) P=(ds.length+es.length<=1000000/\P (.dat .tp (.list (ds++es)))):=propext ⟨λh=>h.2.2,λh=>⟨h1,h2,h⟩⟩
theorem catL_owtp{ds es:List Ad}{P:DV->Prop}:Xi (.dat .ow (.list ds)) (.dat .tp (.list es)) P=(ds.length+es.length<=1000000/\P (.dat .tp (.list (ds++es)))):=p9 (by decide) (by decide)
theorem catL_show{ds es:List Ad}{P:DV->Prop}:Xi (.dat .sh (.list ds)) (.dat .ow (.list es)) P=(ds.length+es.length<=1000000/\P (.dat .tp (.list (ds++es)))):=p9 (by decide) (by decide)
theorem mW{α:Type}{l:List α}(h:l≠[]):∃a∈l,Re l (-1)=some a/\l.getLast? = some a:=by
 have hp:=uW.mpr h
 refine ⟨l[l.length - 1],Mf _,?_,?_⟩
 ·unfold Re oH
  rw[if_neg (by decide),if_pos (by omega),show ((-1:Int)+l.length).toNat=l.length - 1 by omega]
  simp [hp]
 ·rw[List.getLast?_eq_getElem?]; simp [hp]
theorem rT{α:Type}(x:α)(l:List α):Re (x::l) 0=some x:=pR (i:=0) rfl
theorem rM{α:Type}(x y:α)(l:List α):Re (x::y::l) 1=some y:=pR (i:=1) rfl
theorem S8{α:Type}(x y z:α)(l:List α):Re (x::y::z::l) 2=some z:=pR (i:=2) rfl
theorem P3{α:Type}(x y z t:α)(l:List α):Re (x::y::z::t::l) 3=some t:=pR (i:=3) rfl
theorem dec_self{α:Type}(a:α)[h:Decidable (a=a)]:decide (a=a)=true:=by simp
theorem isE_cons{α:Type}(a:α)(l:List α):(a::l).isEmpty=false:=rfl
theorem retA_sh{d:Ad}{R:Ad->Prop}:(∃m d',DV.dat .sh d=.dat m d'/\m≠.pk/\R d')=R d:=propext ⟨λ⟨m,d',e,_,h⟩=>by cases e; exact h,λh=>⟨_,_,rfl,by decide,h⟩⟩
end DL
namespace K82
open PySem L2 Nd DL
def top(i:Nat):Stmt:=PySem.Challenge.pw_needledeck_k82_texts_that_tell_nothing.main.body.getD i (.Pass ⟨0,0,0,0⟩)
abbrev Us:Stmt:=top 12
abbrev Wx:Stmt:=top 13
abbrev Qg:Stmt:=top 17
abbrev Lg:Stmt:=top 18
abbrev Oa:Stmt:=top 19
abbrev Uo:Stmt:=top 20
abbrev Nz:Stmt:=top 21
abbrev Rx:Stmt:=top 22
abbrev Qd:Stmt:=top 23
abbrev Rz:Stmt:=top 24
abbrev iC:Stmt:=top 26
abbrev rV:Stmt:=top 27
abbrev Sf:Stmt:=top 28
abbrev Uu:Stmt:=top 29
abbrev Rj:Stmt:=top 30
abbrev Rq:Stmt:=top 31
abbrev Gr:Stmt:=top 32
abbrev Jg:Stmt:=top 33
abbrev Jr:Stmt:=top 34
abbrev Li:Stmt:=top 35
abbrev Kv:Stmt:=top 36
abbrev Rt:Stmt:=top 37
abbrev Qc:Stmt:=top 38
abbrev Se:Stmt:=top 39
abbrev Ru:Stmt:=top 40
abbrev Mx:Stmt:=top 41
abbrev cY:Stmt:=top 42
section
variable{P:Bh}{w:World}{K:PySem.W.Frag}{mg:Str->Option Value}{base:Heap}
theorem IK:FnScope ["_law_cell"] ["_law_cell"] (Bj iC):=⟨rfl,rfl,rfl,by decide +kernel,rfl,by decide +kernel,by decide +kernel⟩
theorem i7{f:Addr}{fd:Bz}(F:Fun K "_law_draws" "_law_draws" iC f fd):FnOk P w K mg base Ik 1 f fd ["_law_cell"] qO:=by
 refine F.ok IK (λvs H Q E h=>?_) (λcdv A outer s H vs Q E hr h=>?_)
 ·obtain ⟨c,rfl,_⟩:=h
  rfl
 obtain ⟨c,rfl,q⟩:=h
 refine ⟨_,Lj (Qf (zV (Eb (pv 0) (Eb Gc (Eb (qL R9 (pv 0) (Kc nS Gc Gc) (Ku _)) Jk))))),?_⟩
 refine ⟨_,rfl,_,rfl,10,18,rfl,rfl,⟨by decide,by decide,by decide⟩,_,_,rfl,rfl,(by show 3<=Ax; decide),λp hp=>?_⟩
 exact q p _ _ hp Et (Gu hp _)
theorem II:FnScope ["_law_draws_here", "_law_k", "_law_number_here"] ["_law_draws_here"] (Bj rV):=⟨rfl,rfl,rfl,by decide +kernel,rfl,by decide +kernel,by decide +kernel⟩
theorem C6{f:Addr}{fd:Bz}(F:Fun K "_law_next" "_law_next" rV f fd):FnOk P w K mg base Ik 1 f fd ["_law_draws_here"] yO:=by
 refine F.ok II (λvs H Q E h=>?_) (λcdv A outer s H vs Q E hr h=>?_)
 ·obtain ⟨d,c,k,fl,rfl,_⟩:=h
  rfl
 obtain ⟨d,c,k,fl,rfl,hd,h0,h1,q⟩:=h
 refine ⟨_,Gv (fT (Kc bF (cF Tc (pv 0) Gc (λ_ _=>rfl)) Gc) (oI (pv 0) Gc bE))
  (Gv (Na (i:=1) II.nd rfl (Ce rfl) (cF Tc (pv 0) Gc (λ_ _=>rfl)))
  (Gv (eL (bZ (cF Tc (pv 0) Gc (λ_ _=>rfl)))
   (Gv (Na (i:=2) II.nd rfl (Ce rfl) (Kc Xh (cF Tc (pv 0) Gc (λ_ _=>rfl)) (Kc nS Gc Gc)))
    (Gv (fT (Kc gU (cF Tc (pv 0) Gc (λ_ _=>rfl)) (Kc nS Gc Gc)) (oI (pv 0) Gc bE))
    (Lj (Qf (pv 2))))) Vv)
  (Gv (Na (i:=2) II.nd rfl (Ce rfl) (Kc Xh (Kc Ww (Kc bF (Kc bF (Kc Xh (cF Tc (pv 0) Gc (λ_ _=>rfl)) Gc) (Kc Ww (Kc Ww (pv 1) (pv 1)) Gc)) (pv 1)) Gc) Gc))
  (Gv (Na (i:=2) II.nd rfl (Ce rfl) (Kc Xh (Kc Ww (pv 2) (pv 2)) Gc))
  (Lj (Qf (Kc gU (Kc Xh (Kc Ww (pv 2) (Kc bF (pv 2) Gc)) Gc) Gc))))))),?_⟩
 -- draws[1]=draws[1]+1
 refine ⟨_,rfl,d,_,1,_,rfl,rfl,Za.of hd,rfl,_,_,rfl,rfl,_,rfl,d,_,1,1,rfl,rfl,hd,rfl,?_⟩
 have e1:(upd H d (.lst ([V.int c,V.int k,V.bl fl].set 1 (V.int (k+1))))) d=some (.lst [.int c,.int (k+1),.bl fl]):=Et
 generalize hH1:upd H d (.lst ([V.int c,V.int k,V.bl fl].set 1 (V.int (k+1))))=H1 at e1
 have s1:Yi d H H1:=by rw[<- hH1]; exact Yi.upd
 -- k=draws[1]; if draws[2]
 refine ⟨_,rfl,d,_,1,_,rfl,rfl,Za.of e1,rfl,_,rfl,d,_,2,_,rfl,rfl,Za.of e1,rfl,_,rfl,?_⟩
 refine GT (λ_=>?_) (λ_=>?_)
 ·refine ⟨_,rfl,d,_,0,_,rfl,rfl,Za.of e1,rfl,10,6,rfl,rfl,⟨by decide,by decide,by decide⟩,_,_,rfl,rfl,(by show (0:Int)<10 ^ (6:Int).toNat; decide),?_⟩
  refine ⟨_,rfl,d,_,0,_,rfl,rfl,Za.of e1,rfl,10,6,rfl,rfl,⟨by decide,by decide,by decide⟩,_,_,rfl,rfl,⟨by decide,by decide⟩,_,rfl,d,_,0,0,rfl,rfl,e1,rfl,_,rfl,?_⟩
  exact q _ _ _ Et (s1.trans Yi.upd)
 ·have m1:=Zk c 1000003 (by decide)
  have b1:=Zk ((c % 1000003+(k+1) * (k+1) * 7919+(k+1)) * 48271) 2147483629 (by decide)
  refine ⟨_,rfl,d,_,0,_,rfl,rfl,Za.of e1,rfl,_,_,rfl,rfl,(by show (0:Int)<1000003; decide),_,rfl,_,rfl,_,_,rfl,rfl,.inl ⟨by omega,by omega⟩,_,_,rfl,rfl,.inr ⟨by decide,by decide⟩,_,_,rfl,rfl,_,rfl,_,_,rfl,rfl,
   _,_,rfl,rfl,.inr ⟨by decide,by decide⟩,_,_,rfl,rfl,(by show (0:Int)<2147483629; decide),?_⟩
  generalize ((c % 1000003+(k+1) * (k+1) * 7919+(k+1)) * 48271) % 2147483629=x at b1
  have b2:=Zk (x * x) 2147483587 (by decide)
  refine ⟨_,rfl,_,rfl,_,_,rfl,rfl,.inl ⟨by omega,by omega⟩,_,_,rfl,rfl,(by show (0:Int)<2147483587; decide),?_⟩
  generalize (x * x) % 2147483587=y at b2
  refine ⟨_,rfl,_,rfl,_,_,rfl,rfl,_,_,rfl,rfl,.inl ⟨by omega,by omega⟩,_,_,rfl,rfl,(by show (0:Int)<2147483579; decide),_,_,rfl,rfl,⟨by decide,by decide⟩,?_⟩
  exact q _ _ _ e1 s1
theorem uQ{f:Addr}{fd:Bz}(F:Fun K "_law_draws" "_law_draws" iC f fd):FnOk P w K mg base Ik 1 f fd ["_law_cell"] Vo:=wX (i7 F)
theorem zR{f:Addr}{fd:Bz}(F:Fun K "_law_next" "_law_next" rV f fd):FnOk P w K mg base Ik 1 f fd ["_law_draws_here"] (Zp K Rr):=K2 (C6 F)
end
end K82
namespace DL
open PySem PySem.Spec PyProof.Rows L2 Nd
end DL
namespace Nd
open PySem PySem.Spec PyProof.Rows L2
section
variable{X:Cx}
theorem lY:∀{ss:List Str} {its:List Value},Fq (ss.map V.str) its->∃l:List (Str×Tok),l.map (·.1)=ss/\its=strValues l
 | [],_,.nil=>⟨[],rfl,rfl⟩
 | s::ss,_,.cons r t=>by
  obtain ⟨l,e1,e2⟩:=lY t
  obtain ⟨k,rfl⟩:=r
  exact ⟨(s,k)::l,by rw[Ar,e1],by rw[e2]; rfl⟩
theorem mV(sep:Str):∀(ss:List Str) (n:Nat),List.foldl (λa x=>a+x.length+sep.length) n ss=n+(ss.map λx=>x.length+sep.length).sum
 | [],n=>by simp
 | s::ss,n=>by rw[Nn,mV sep ss,Ar,Wq]; omega
theorem rA(k:Nat):∀ss:List Str,(ss.map λx=>x.length+k).sum=(ss.map λx=>x.length).sum+ss.length * k
 | []=>by simp
 | s::ss=>by
  rw[Ar,Wq,rA k ss,Ar,Wq,Bq,Nat.succ_mul]
  omega
theorem Vu(sep:Str)(ss:List Str):(Bn sep ss).length<=(ss.map λx=>x.length+sep.length).sum:=by
 rw[size_glued,rA]
 exact Nat.add_le_add_left (Nat.mul_le_mul_right _ (Nat.sub_le _ _)) _
def EC(K:PySem.W.Frag):V->List V->Hp->VK->Prop:=λx vs H Q=>∃sep a ss,x=.str sep/\vs=[.ref a]/\Za K H a (ss.map V.str)/\(ss.map λx=>x.length+sep.length).sum<=Ax/\Q (.str (Bn sep ss)) H
theorem M8:BA X "str.join" (EC X.K):=by
 intro pins s σ H x vs v us Q I rx rv h
 obtain ⟨sep,a,ss,rfl,rfl,hq,hz,q⟩:=h
 obtain ⟨t,rfl⟩:=rx
 obtain ⟨u,rfl,ru⟩:=rv.one
 cases ru
 obtain ⟨its,r,pl,hl⟩:=I.list hq
 obtain ⟨l,e1,rfl⟩:=lY r
 refine Qy F.slot_str_join rfl F.entry_str_join (F.args_str_join_2 _ _) (meets_str_join_list sep t a l ?_) ⟨pl.isList,?_⟩
 ·rw[List.foldl_toArray,e1,mV]
  unfold Builtin.Str.tooLong
  exact decide_eq_false (by omega)
 ·match l,e1 with
  | [p],e1 =>
   subst e1
   exact ⟨.str p.1,H,I,⟨_,rfl⟩,q⟩
  | [],e1 =>
   subst e1
   exact ⟨Ba (Vu _ _) hz,.str _,H,I.tok _,⟨_,rfl⟩,q⟩
  | p::p2::l,e1 =>
   subst e1
   exact ⟨Ba (Vu _ _) hz,.str _,H,I.tok _,⟨_,rfl⟩,q⟩
def AH:V->List V->Hp->VK->Prop:=λx vs H Q=>∃z y,x=.str z/\vs=[.str y]/\z.length<=100000/\(∀c∈z.cps.toList,c<256)/\y.length=1/\(∀c∈y.cps.toList,c<256) /\
 ∀p,H p=none->Q (.ref p) (upd H p (.lst ((Do z (Bg z y 0 z.length (z.length+1)) y.length).map V.str)))
theorem fG:∀(k:Nat) (l:List Str),Fq (l.map V.str) (strsFrom k l)
 | _,[]=>.nil
 | k,s::l=>.cons ⟨_,rfl⟩ (fG _ l)
theorem zC(z:Str)(w:Nat):Do z [] w=[z]:=by
 rw[Builtin.Str.partsBetween.eq_1]
 simp [Cq,Ho]
theorem wQ:BA X "str.split" AH:=by
 intro pins s σ H x vs v us Q I rx rv h
 obtain ⟨z,y,rfl,rfl,hz,hk,hy,hk2,q⟩:=h
 obtain ⟨t,rfl⟩:=rx
 obtain ⟨u,rfl,ru⟩:=rv.one
 obtain ⟨t2,rfl⟩:=ru
 have hf:H s.heap.objs.size=none:=I.hok.fresh (Al _)
 have kind:∀c:Str,(∀i∈c.cps.toList,i<256)->Lx c=1:=λc hc=>by
  unfold Lx
  rw[if_pos]
  rw[Array.all_eq_true']
  exact λi hi=>decide_eq_true (hc i (by simpa using hi))
 have hl:z.length<=Ax:=Ba hz (dA (by decide))
 have lo:=Rf z y 0 z.length (z.length+1)
 by_cases he:(Bg z y 0 z.length (z.length+1)).isEmpty=true
 ·have e0:Bg z y 0 z.length (z.length+1)=[]:=List.isEmpty_iff.mp he
  rw[e0,zC] at q
  by_cases hc:(decide (z.length<y.length) || decide (Lx z<Lx y))=true
  ·refine Qy fM rfl cQ (Zy _ _) (meets_str_split_cannot_occur z y t t2 hc) ?_
   exact ⟨.ref s.heap.objs.size,upd H s.heap.objs.size (.lst [.str z]),I.laid (t':=_) (λb u e=>Aj _ e) (Al _) ⟨sz (by simp),_,0,.cons ⟨_,rfl⟩ .nil,Bi _ rfl⟩,rfl,q _ hf⟩
  ·refine Qy fM rfl cQ (Zy _ _) (meets_str_split_not_found z y t t2 (Px.mpr hc) (by rw[hy]; rfl) he) ?_
   exact ⟨.ref s.heap.objs.size,upd H s.heap.objs.size (.lst [.str z]),I.laid (t':=_) (λb u e=>Aj _ e) (Al _) ⟨sz (by simp),_,0,.cons ⟨_,rfl⟩ .nil,Bi _ rfl⟩,rfl,q _ hf⟩
 ·have hne:Bg z y 0 z.length (z.length+1)≠[]:=λe=>he (by rw[e]; rfl)
  have hlt:y.length<=z.length:=by
   cases ho:Bg z y 0 z.length (z.length+1) with
   | nil=>exact absurd ho hne
   | cons i r =>
    have:=(StrLaws.occ_spec z y 0 z.length (z.length+1) i (by rw[ho]; exact Aa)).1
    omega
  have lp:(Do z (Bg z y 0 z.length (z.length+1)) y.length).length<=Ax:=by
   rw[Zx]
   exact Ba (show _<=100002 by omega) (dA (by decide))
  refine Qy fM rfl cQ (Zy _ _) (meets_str_split_sep z y t t2 (by rw[kind z hk,kind y hk2]; simp; omega) (by rw[hy]; rfl) (Px.mpr he) hl lp) ?_
  exact ⟨.ref s.heap.objs.size,upd H s.heap.objs.size (.lst ((Do z (Bg z y 0 z.length (z.length+1)) y.length).map V.str)),I.laid (t':=_) (λb u e=>Aj _ e) (Al _) ⟨by rw[Ab]; exact lp,_,0,fG _ _,Bi _ rfl⟩,rfl,q _ hf⟩
def Ud(z y:Str):List Str:=match Bg z y 0 z.length 1 with
 | i::_=>[Cq z 0 i,y,Cq z (i+y.length) z.length]
 | []=>[z,Jv,Jv]
def DW:V->List V->Hp->VK->Prop:=λx vs H Q=>∃z y,x=.str z/\vs=[.str y]/\z.length<=100000/\y.length=1/\∀p,H p=none->Q (.ref p) (upd H p (.tup ((Ud z y).map V.str)))
theorem jE:BA X "str.partition" DW:=by
 intro pins s σ H x vs v us Q I rx rv h
 obtain ⟨z,y,rfl,rfl,hz,hy,q⟩:=h
 obtain ⟨t,rfl⟩:=rx
 obtain ⟨u,rfl,ru⟩:=rv.one
 obtain ⟨t2,rfl⟩:=ru
 have hf:H s.heap.objs.size=none:=I.hok.fresh (Al _)
 refine Qy F.slot_str_partition rfl F.entry_str_partition (F.args_str_partition_2 _ _) (meets_str_partition z y t t2 (by rw[hy]; rfl) (Ba hz (dA (by decide)))) ?_
 have q':=q _ hf
 unfold Ud at q'
 cases e:Bg z y 0 z.length 1 with
 | nil =>
  rw[e] at q'
  exact ⟨.ref s.heap.objs.size,upd H s.heap.objs.size (.tup [.str z,.str Jv,.str Jv]),I.laid (t':=_) (λb u e=>Aj _ e) (Al _) ⟨sz (by simp),_,.cons ⟨_,rfl⟩ (.cons ⟨_,rfl⟩ (.cons ⟨_,rfl⟩ .nil)),⟨_,Bi _ rfl,rfl,_,rfl⟩⟩,rfl,q'⟩
 | cons i r =>
  rw[e] at q'
  exact ⟨.ref s.heap.objs.size,upd H s.heap.objs.size (.tup [.str (Cq z 0 i),.str y,.str (Cq z (i+y.length) z.length)]),I.laid (t':=_) (λb u e=>Aj _ e) (Al _) ⟨sz (by simp),_,.cons ⟨_,rfl⟩ (.cons ⟨_,rfl⟩ (.cons ⟨_,rfl⟩ .nil)),⟨_,Bi _ rfl,rfl,_,rfl⟩⟩,rfl,q'⟩
theorem sF:Kb X (.type "int") (λxs H Q=>∃z n,xs=[.str z]/\Ui z=some n/\z.length<=640/\Q (.int n) H):=by
 intro pins s σ H xs us Q I r h
 obtain ⟨z,n,rfl,hn,hl,q⟩:=h
 obtain ⟨u,rfl,t,rfl⟩:=vals1 r
 exact PySem.W.KIN.call_text hn hl ⟨.int n,H,I.tok _,⟨_,rfl⟩,q⟩
end
def Jz(z:Str):Prop:=∀c∈z.cps.toList,c<128
def HG(z:Str):It:=⟨λi _=>i<z.cps.size,λi H x H'=>H'=H/\∃c,z.cps[i]? = some c/\x=.str ⟨#[c]⟩,λi _=>z.cps.size<=i⟩
theorem yD{P:Bh}{w:World}{K:PySem.W.Frag}{tg:Expr}(z:Str)(t:Tok)(it:Addr):Turn P w K tg (HG z) [it] it (λi h=>h.IsStrIter it "str_ascii_iterator" z t i) where
 mem:=by simp
 obj:=λi h st b hb=>by
  have e:b=it:=by simpa using hb
  subst e
  obtain ⟨o,e,c,d⟩:=st
  exact ⟨o,e,λv z=>by rw[d] at z; cases z⟩
 keep:=λi h h' st k=>by
  obtain ⟨o,e,c,d⟩:=st
  exact ⟨o,k it (by simp) o e,c,d⟩
 item:=by
  intro X hP hw hK hc i pins s σ H E I hf st hg
  subst hP hw hK
  obtain ⟨f0,f1,f2,f3,f4,f5⟩:=hf it (by simp)
  have hg:i<z.cps.size:=hg
  have hx:z.cps[i]? = some z.cps[i]:=by simp [hg]
  refine wpAny_pyNext_ascii_item st hx λh' st' sb=>?_
  have I1:Inv X pins σ H { s with heap:=h',toks:=s.toks+1 }:=I.turned (t':=s.toks+1) (λb o hb e=>(sb.2 b hb).trans e) f0 f1 f3 f4 f5
  obtain ⟨o,e,c,d⟩:=id st'
  exact ⟨_,rfl,qH (s:={ s with heap:=h',toks:=s.toks+1 }) e c d (by decide) ⟨.str ⟨#[z.cps[i]]⟩,H,I1,⟨_,rfl⟩,⟨rfl,_,hx,rfl⟩,st',λb hb=>(hf b hb).1⟩⟩
 done:=by
  intro X hP hw hK hc i pins s σ H E I hf st hg
  subst hP hw hK
  obtain ⟨f0,f1,f2,f3,f4,f5⟩:=hf it (by simp)
  have hg:z.cps.size<=i:=hg
  exact wpAny_pyNext_ascii_end (I.ok.hd hc) st (by simp; omega) λh' eb=>⟨rfl,I.turned (t':=s.toks) (λb o hb e=>eb b o hb e) f0 f1 f3 f4 f5⟩
 self:=λ_ _ _ _ _ st h=>wpAny_pyIter_striter_ascii st h
section
variable{X:Cx}{tg:Expr}
def HN(te:TE):TI:=λσ H R=>te σ H λx H1=>∃z,x=.str z/\Jz z/\R (HG z) H1
theorem X7{l:Expr}{tl:TE}(hl:PE X l tl):PI X tg l (HN tl):=by
 intro pins s σ H R I h
 refine Gh (hl pins s σ H _ I h) λv s1 q0_ => ?_
 obtain ⟨x,H1,I1,r1,q1⟩ := q0_
 obtain ⟨z,e,ha,q⟩:=q1
 subst e
 obtain ⟨t,rfl⟩:=r1
 refine wpAny_pyIter_strU ?_
 have et:strIterType z = "str_ascii_iterator" := by
  rw[strIterType,if_pos]
  rw[Array.all_eq_true']
  exact λi hi=>decide_eq_true (ha i (by simpa using hi))
 rw[et]
 refine ⟨s1.heap.objs.size,[s1.heap.objs.size],_,_,H1,rfl,I1.kept (t':=s1.toks) λb o e=>Aj _ e,yD z t _,⟨_,Bi _ rfl,rfl,rfl⟩,λb hb=>?_,q⟩
 have e:b=s1.heap.objs.size:=by simpa using hb
 subst e
 exact I1.fpOk (Al _) (I1.hok.fresh (Al _))
end
def tI(c:Nat)(z:Str):Prop:=c∉z.cps.toList
theorem Rn(z:Str)(i j:Nat):(Cq z i j).cps.toList=(z.cps.toList.take j).drop i:=by
 unfold Cq
 rw[Array.toList_extract,List.extract_eq_drop_take',]
theorem Jt{a b:Str}(h:a.cps.toList=b.cps.toList):a=b:=by
 cases a; cases b
 congr 1
 exact Array.toList_inj.mp h
theorem bK{z y:Str}{c:Nat}(hy:y.cps.toList=[c])(i:Nat):StrLaws.At z y z.length i↔z.cps.toList[i]? = some c:=by
 have e1:y.length=1:=by
  show y.cps.size=1
  rw[<- Ag,hy]
  rfl
 unfold StrLaws.At Builtin.Str.subAt
 rw[e1,beq_iff_eq,<- Array.toList_inj,hy,Array.toList_extract,List.extract_eq_drop_take,Nat.add_sub_cancel_left]
 have el:z.length=z.cps.toList.length:=(Ag).symm
 rw[el]
 constructor
 ·rintro ⟨h1,h2⟩
  have : (z.cps.toList.drop i)[0]? = some c:=by
   have:=congrArg (λl=>l[0]?) h2
   simpa using this
  simpa using this
 ·intro h
  obtain ⟨h1,h2⟩:=Av.mp h
  refine ⟨h1,?_⟩
  rw[Pu h1,h2]
  rfl
def PB(z:Str)(lo:Nat)(cuts:List Nat):List Str:=((lo::cuts.map (· + 1)).zip (cuts++[z.length])).map λp=>Cq z p.1 p.2
theorem bW{z:Str}{c lo hi:Nat}(h:∀k,lo<=k->k<hi->¬ z.cps.toList[k]? = some c):tI c (Cq z lo hi):=by
 unfold tI
 rw[Rn]
 intro hm
 obtain ⟨k,hk⟩:=sC.mp hm
 rw[List.getElem?_drop] at hk
 by_cases hl:lo+k<hi
 ·rw[mZ hl] at hk
  exact h _ (by omega) hl hk
 ·rw[List.getElem?_take_eq_none (by omega)] at hk
  cases hk
theorem rO{z y:Str}{c:Nat}(hy:y.cps.toList=[c]):∀(cuts:List Nat) (lo f:Nat),StrLaws.ChainG z y z.length lo cuts f->(∀k,f<=k->¬ StrLaws.At z y z.length k)->∀q∈PB z lo cuts,tI c q
 | [],lo,f,hc,hf,q,hq=>by
  have e:f=lo:=by first | exact hc | exact hc.symm | exact hc.1
  subst e
  rw[show PB z f []=[Cq z f z.length] from rfl] at hq
  rw[Af.mp hq]
  exact bW λk h1 _ z=>hf k h1 ((bK hy k).mpr z)
 | i::r,lo,f,hc,hf,q,hq=>by
  obtain ⟨h1,h2,h3,h4⟩:=hc
  have e1:y.length=1:=by
   show y.cps.size=1
   rw[<- Ag,hy]
   rfl
  rw[e1] at h4
  rw[show PB z lo (i::r)=Cq z lo i::PB z (i+1) r from rfl] at hq
  rcases Ap.mp hq with e | hq
  ·rw[e]
   exact bW λk a b z=>h3 k a b ((bK hy k).mpr z)
  ·exact rO hy r (i+1) f h4 hf q hq
theorem Pz(sep p:Str):∀(R:List Str),(Bn sep (p::R)).cps.toList=p.cps.toList++R.flatMap λq=>sep.cps.toList++q.cps.toList:=by
 intro R
 rw[Builtin.Str.glued.eq_1]
 show (List.foldl (λacc p=>acc++sep.cps++p.cps) p.cps R).toList=_
 generalize p.cps=a
 induction R generalizing a with
 | nil=>simp
 | cons q R ih =>
  rw[Nn,ih,Ld]
  simp
theorem i5{c:Nat}:∀{R S:List (List Nat)} {p q:List Nat},c∉p->c∉q->(∀x∈R,c∉x)->(∀x∈S,c∉x)->p++R.flatMap (λx=>c::x)=q++S.flatMap (λx=>c::x)->p=q/\R=S:=by
 have tw:∀(R:List (List Nat)) (p:List Nat),c∉p->(p++R.flatMap λx=>c::x).takeWhile (λx=>decide (x≠c))=p:=λR p hp=>by
  have h1:∀x∈p,decide (x≠c)=true:=λx hx=>decide_eq_true λe=>hp (by rw[<- e]; exact hx)
  rw[dJ h1]
  cases R with
  | nil=>simp
  | cons r R=>simp
 intro R
 induction R with
 | nil =>
  intro S p q hp hq _ hS h
  have e:p=q:=by rw[<- tw [] p hp,h,tw S q hq]
  subst e
  have h:=Kn h
  cases S with
  | nil=>exact ⟨rfl,rfl⟩
  | cons s S=>simp at h
 | cons r R ih =>
  intro S p q hp hq hR hS h
  have e:p=q:=by rw[<- tw (r::R) p hp,h,tw S q hq]
  subst e
  have h:=Kn h
  cases S with
  | nil=>simp at h
  | cons s S =>
   rw[Ld,Ld,En,En] at h
   injection h with _ h
   obtain ⟨e1,e2⟩:=ih (hR r Aa) (hS s Aa) (λx hx=>hR x (Ae _ hx)) (λx hx=>hS x (Ae _ hx)) h
   exact ⟨rfl,by rw[e1,e2]⟩
theorem mS{y:Str}{c:Nat}(hy:y.cps.toList=[c]){ps:List Str}(hn:ps≠[])(hp:∀p∈ps,tI c p):Do (Bn y ps) (Bg (Bn y ps) y 0 (Bn y ps).length ((Bn y ps).length+1)) y.length=ps:=by
 have e1:y.length=1:=by
  show y.cps.size=1
  rw[<- Ag,hy]
  rfl
 obtain ⟨f,h1,h2⟩:=StrLaws.occ_tight (Bn y ps) y (by rw[e1]; exact Al _)
 have g:=cO (Bn y ps) y ((Bn y ps).length+1)
 generalize Bg (Bn y ps) y 0 (Bn y ps).length ((Bn y ps).length+1)=cuts at h1 g
 have fr:=rO hy cuts 0 f h1 h2
 have eP:Do (Bn y ps) cuts y.length=PB (Bn y ps) 0 cuts:=by
  rw[Builtin.Str.partsBetween.eq_1,e1]
  rfl
 rw[eP] at g ⊢
 have hne:PB (Bn y ps) 0 cuts≠[]:=by
  unfold PB
  cases cuts <;> simp
 generalize PB (Bn y ps) 0 cuts=qs at g fr hne
 obtain ⟨p,R,rfl⟩:=Jm hn
 obtain ⟨q,S,rfl⟩:=Jm hne
 have g2:=congrArg (λs:Str=>s.cps.toList) g
 rw[Pz,Pz,hy] at g2
 have fm:∀R:List Str,(R.flatMap λq=>[c]++q.cps.toList)=(R.map λq=>q.cps.toList).flatMap λx=>c::x:=λR=>by
  rw[List.flatMap_map]
  rfl
 rw[fm,fm] at g2
 obtain ⟨a,b⟩:=i5 (fr q Aa) (hp p Aa) (λx hx=>by
  obtain ⟨u,hu,rfl⟩:=Ci.mp hx
  exact fr u (Ae _ hu)) (λx hx=>by
  obtain ⟨u,hu,rfl⟩:=Ci.mp hx
  exact hp u (Ae _ hu)) g2
 rw[Jt a,(List.map_inj_right λx y e=>Jt e).mp b]
end Nd
namespace DL
open PySem PySem.Spec PyProof.Rows L2 Nd
def signs(z:Str):List Ad:=z.cps.toList.map λc=>Cp ⟨#[c]⟩
section
variable{K:PySem.W.Frag}{H:Hp}
theorem RdFs.strs:∀ns:List Str,RdFs K H (ns.map V.str) (ns.map Cp) []
 | []=>.nil
 | n::ns=>RdFs.cons (F:=[]) (.str n) (RdFs.strs ns)
theorem RdFs.strs_inv:∀{ns:List Str} {xs:List V} {F:List Addr},RdFs K H xs (ns.map Cp) F->xs=ns.map V.str/\F=[]
 | [],_,_,h=>by cases h; exact ⟨rfl,rfl⟩
 | n::ns,_,_,h=>by
  rw[Ar] at h
  cases h with
  | cons a t =>
   obtain ⟨rfl,rfl⟩:=a.str_inv
   obtain ⟨rfl,rfl⟩:=RdFs.strs_inv t
   exact ⟨rfl,rfl⟩
theorem kX(ns:List Str):Eg (ns.map Cp)=true:=Qh (λ_=>by simp [imm]) ns
theorem vV{z:Str}:IterOk K (HG z) [] .sh (signs z) where
 md:=.inl rfl
 hd:=λe he=>nomatch he
 np:=λ_ e he=>nomatch he
 go:=λH n i h hi=>by
  unfold signs at hi
  rw[Ab,Ag] at hi
  exact hi
 yld:=λH n i x H' h hi y=>by
  obtain ⟨rfl,c,hc,rfl⟩:=y
  refine ⟨Nh.refl _,.str ⟨#[c]⟩,[],?_,.str _,λa z=>nomatch z⟩
  unfold signs
  rw[Cn,Fg,hc]
  rfl
 stop:=λH n h=>by
  unfold signs
  rw[Ab,Ag]
  exact Al _
end
def FE(x:DV)(δ:DS)(P:Md->List Ad->DS->Prop):Prop:=match x with
 | .dat _ (.str z)=>Jz z/\z.length<=100000/\P .sh (signs z) δ
 | _=>False
def HS(de:DE):DI:=λδ P=>de δ λx δ'=>FE x δ' P
def Yb(ne:Bool):D2:=λx y P=>match x,y with
 | .dat _ (.str i),.dat _ (.str j)=>P (.dat .ow (.bool (match ne with | true=>!(!(Bg j i 0 j.length 1).isEmpty) | false=>!(Bg j i 0 j.length 1).isEmpty)))
 | _,_=>False
theorem AQ{K:PySem.W.Frag}:eZ K (λx y H Q=>∃i j,x=.str i/\y=.str j/\Q (.bl (!(Bg j i 0 j.length 1).isEmpty)) H) (Yb false):=by
 intro H0 X n S T x y v w F G H Q P hA hd k
 unfold Yb at hd
 split at hd
 ·obtain ⟨rfl,_⟩:=(hA.told Ff).str_inv
  obtain ⟨rfl,_⟩:=(hA.told mem_mid).str_inv
  exact ⟨_,_,rfl,rfl,k _ _ [] H (hA.drop2.pushI (.bl _)) hd⟩
 ·exact hd.elim
theorem tX{K:PySem.W.Frag}:eZ K (λx y H Q=>∃i j,x=.str i/\y=.str j/\Q (.bl (!(!(Bg j i 0 j.length 1).isEmpty))) H) (Yb true):=by
 intro H0 X n S T x y v w F G H Q P hA hd k
 unfold Yb at hd
 split at hd
 ·obtain ⟨rfl,_⟩:=(hA.told Ff).str_inv
  obtain ⟨rfl,_⟩:=(hA.told mem_mid).str_inv
  exact ⟨_,_,rfl,rfl,k _ _ [] H (hA.drop2.pushI (.bl _)) hd⟩
 ·exact hd.elim
def pB:DC:=λxs P=>match xs with
 | [.dat _ (.str z)]=>z.length<=640/\∃n,Ui z=some n/\P (.dat .ow (.int n))
 | _=>False
theorem K3{K:PySem.W.Frag}:Qu K (λxs H Q=>∃z n,xs=[V.str z]/\Ui z=some n/\z.length<=640/\Q (.int n) H) pB:=by
 intro H0 X n S T As us H Q P eu hA hd k
 unfold pB at hd
 split at hd
 ·rename_i ex
  obtain ⟨v,F,rfl,hA⟩:=Ip eu hA ex
  obtain ⟨rfl,_⟩:=(hA.told mem_mid).str_inv
  obtain ⟨hl,m,hm,p⟩:=hd
  exact ⟨_,m,rfl,hm,hl,k _ _ [] H (hA.drop.pushI (.int _)) p⟩
 ·exact hd.elim
def rQ(z:Str)(y:DV)(δ:DS)(P:DV->DS->Prop):Prop:=match y with
 | .dat _ (.list ds)=>∃ss:List Str,ds=ss.map Cp/\(ss.map λx=>x.length+z.length).sum<=1000000/\P (.dat .ow (.str (Bn z ss))) δ
 | _=>False
def qN(x:DV)(δ:DS)(db:DE)(P:DV->DS->Prop):Prop:=match x with
 | .dat _ (.str z)=>db δ λy δ2=>rQ z y δ2 P
 | _=>False
def P1(da db:DE):DE:=λδ P=>da δ λx δ1=>qN x δ1 db P
def fY(z:Str)(y:DV)(δ:DS)(P:DV->DS->Prop):Prop:=match y with
 | .dat _ (.str y)=>z.length<=100000/\Jz z/\y.length=1/\Jz y/\P (.dat .ow (.list ((Do z (Bg z y 0 z.length (z.length+1)) y.length).map Cp))) δ
 | _=>False
def gE(x:DV)(δ:DS)(db:DE)(P:DV->DS->Prop):Prop:=match x with
 | .dat _ (.str z)=>db δ λy δ2=>fY z y δ2 P
 | _=>False
def r6(da db:DE):DE:=λδ P=>da δ λx δ1=>gE x δ1 db P
def pQ(z:Str)(y:DV)(δ:DS)(P:DV->DS->Prop):Prop:=match y with
 | .dat _ (.str y)=>z.length<=100000/\y.length=1/\P (.dat .ow (.tuple ((Ud z y).map Cp))) δ
 | _=>False
def fR(x:DV)(δ:DS)(db:DE)(P:DV->DS->Prop):Prop:=match x with
 | .dat _ (.str z)=>db δ λy δ2=>pQ z y δ2 P
 | _=>False
def Q1(da db:DE):DE:=λδ P=>da δ λx δ1=>fR x δ1 db P
section
variable{X:Cx}{o e a b tg:Expr}{da db de:DE}{apos cpos pos:Pos}
theorem nX(h:Em X e de):E2 X tg e (HS de):=by
 refine PI.imp (X7 h) λσ H R h=>?_
 obtain ⟨H0,Y,S,T,δ,P,rfl,hS,hA,hd,k⟩:=h
 refine ⟨H0,Y,S,T,δ,_,rfl,hS,hA,hd,λx δ1 v F S1 H1 e1 e2 hA1 p1=>?_⟩
 unfold FE at p1
 split at p1
 ·obtain ⟨rfl,_⟩:=(hA1.told mem_mid).str_inv
  obtain ⟨q1,q2,q3⟩:=p1
  exact ⟨_,rfl,q1,k _ _ δ1 _ [] S1 H1 e1 e2 hA1.drop vV (by unfold signs; rw[Ab,Ag]; exact Ba q2 (dA (by decide))) q3⟩
 ·exact p1.elim
theorem Z1(ha:Em X a da)(hb:Em X b db)(hm:Fm .In b=false:=by with_unfolding_all rfl):Em X (.Compare a [.In] [b] pos) (Tz (Yb false) da db):=gA sY AQ ha hb hm
theorem uP(ha:Em X a da)(hb:Em X b db)(hm:Fm .NotIn b=false:=by with_unfolding_all rfl):Zg X (.Compare a [.NotIn] [b] pos) (dB (Tz (Yb true) da db)):=Nb iX tX ha hb hm
theorem yU{x:Str}{z:Str}{u:Value}(hg:Gl X x)(hm:X.mg x=some u)(r:RelV (.str z) u)(hd:(x == ("__debug__" : Str))=false:=by decide):Em X (.Name x pos) (dC (.str z)):=Xp (Js hg hm r hd) λ_=>.str z
theorem zT{x:Str}{z:Int}{u:Value}(hg:Gl X x)(hm:X.mg x=some u)(r:RelV (.int z) u)(hd:(x == ("__debug__" : Str))=false:=by decide):Em X (.Name x pos) (dC (.int z)):=Xp (Js hg hm r hd) λ_=>.int z
theorem gW(ho:Em X o da)(he:Em X e db)
  (hbase:Nu o "join" X.env (eval o X.env)=eval o X.env:=by rfl) (hline:(apos.endLine == cpos.line)=true:=by rfl)
  (hfew:((Gn cpos (Bf [e] X.env)).all (λx=>!x.1) && (backToKw cpos (Sj [] X.env)).all (λx=>x.1.isSome)
   && decide (([e]:List Expr).length+([]:List Nv).length+(if ([]:List Nv).isEmpty then 0 else 1)<30))=true:=by rfl)
  (hs:Bf [e] X.env=[(false,eval e X.env)]:=by rfl):Em X (.Call (.Attribute o "join" apos) [e] [] cpos) (P1 da db):=by
 refine PE.imp (mL PySem.F.plainAttrs_str PySem.F.slot_str_join PySem.F.type_str_join M8 ho (Eb he Jk hs) hbase hfew hline hs rfl) λσ H Q h=>?_
 obtain ⟨H0,Y,S,T,δ,P,rfl,hS,hA,hd,k⟩:=h
 refine ⟨H0,Y,S,T,δ,_,rfl,hS,hA,hd,λx δ1 v F S1 H1 e1 e2 hA1 p1=>?_⟩
 unfold qN at p1
 split at p1
 ·rename_i m z
  obtain ⟨rfl,rfl⟩:=(hA1.told mem_mid).str_inv
  refine ⟨rfl,?_⟩
  refine ⟨H0,Y,S1,⟨some (.str z),.dat m (.str z),[]⟩::T,δ1,_,e1,e2,hA1,p1,λy δ2 w G S2 H2 e3 e4 hA2 p2=>?_⟩
  unfold rQ at p2
  split at p2
  ·obtain ⟨ss,rfl,hz,p3⟩:=p2
   obtain ⟨b,ys,G2,rfl,hlb,rb,_,_⟩:=(hA2.told mem_mid).list_inv
   obtain ⟨rfl,_⟩:=rb.strs_inv
   exact ⟨z,b,ss,rfl,rfl,Za.of hlb,Ba hz (dA (Al _)),k _ δ2 _ [] S2 _ e3 e4 (hA2.drop2.pushI (.str _)) p3⟩
  ·exact p2.elim
 ·exact p1.elim
theorem Vj(ho:Em X o da)(he:Em X e db)
  (hbase:Nu o "split" X.env (eval o X.env)=eval o X.env:=by rfl) (hline:(apos.endLine == cpos.line)=true:=by rfl)
  (hfew:((Gn cpos (Bf [e] X.env)).all (λx=>!x.1) && (backToKw cpos (Sj [] X.env)).all (λx=>x.1.isSome)
   && decide (([e]:List Expr).length+([]:List Nv).length+(if ([]:List Nv).isEmpty then 0 else 1)<30))=true:=by rfl)
  (hs:Bf [e] X.env=[(false,eval e X.env)]:=by rfl):Em X (.Call (.Attribute o "split" apos) [e] [] cpos) (r6 da db):=by
 refine PE.imp (mL PySem.F.plainAttrs_str PySem.F.slot_str_split PySem.F.type_str_split wQ ho (Eb he Jk hs) hbase hfew hline hs rfl) λσ H Q h=>?_
 obtain ⟨H0,Y,S,T,δ,P,rfl,hS,hA,hd,k⟩:=h
 refine ⟨H0,Y,S,T,δ,_,rfl,hS,hA,hd,λx δ1 v F S1 H1 e1 e2 hA1 p1=>?_⟩
 unfold gE at p1
 split at p1
 ·rename_i m z
  obtain ⟨rfl,rfl⟩:=(hA1.told mem_mid).str_inv
  refine ⟨rfl,?_⟩
  refine ⟨H0,Y,S1,⟨some (.str z),.dat m (.str z),[]⟩::T,δ1,_,e1,e2,hA1,p1,λy δ2 w G S2 H2 e3 e4 hA2 p2=>?_⟩
  unfold fY at p2
  split at p2
  ·rename_i m2 y
   obtain ⟨hz,az,ly,ay,p3⟩:=p2
   obtain ⟨rfl,rfl⟩:=(hA2.told mem_mid).str_inv
   refine ⟨z,y,rfl,rfl,hz,λc hc=>Oi (az c hc) (by decide),ly,λc hc=>Oi (ay c hc) (by decide),λp hp=>?_⟩
   have lo:=Rf z y 0 z.length (z.length+1)
   exact k _ δ2 _ _ S2 _ e3 e4 (hA2.drop2.newI (RdFs.strs _) (kX _) (by rw[Ab,Zx]; exact Ba (show _<=100002 by omega) (dA (by decide))) hp .ow) p3
  ·exact p2.elim
 ·exact p1.elim
theorem N4(ho:Em X o da)(he:Em X e db)
  (hbase:Nu o "partition" X.env (eval o X.env)=eval o X.env:=by rfl) (hline:(apos.endLine == cpos.line)=true:=by rfl)
  (hfew:((Gn cpos (Bf [e] X.env)).all (λx=>!x.1) && (backToKw cpos (Sj [] X.env)).all (λx=>x.1.isSome)
   && decide (([e]:List Expr).length+([]:List Nv).length+(if ([]:List Nv).isEmpty then 0 else 1)<30))=true:=by rfl)
  (hs:Bf [e] X.env=[(false,eval e X.env)]:=by rfl):Em X (.Call (.Attribute o "partition" apos) [e] [] cpos) (Q1 da db):=by
 refine PE.imp (mL PySem.F.plainAttrs_str PySem.F.slot_str_partition PySem.F.type_str_partition jE ho (Eb he Jk hs) hbase hfew hline hs rfl) λσ H Q h=>?_
 obtain ⟨H0,Y,S,T,δ,P,rfl,hS,hA,hd,k⟩:=h
 refine ⟨H0,Y,S,T,δ,_,rfl,hS,hA,hd,λx δ1 v F S1 H1 e1 e2 hA1 p1=>?_⟩
 unfold fR at p1
 split at p1
 ·rename_i m z
  obtain ⟨rfl,rfl⟩:=(hA1.told mem_mid).str_inv
  refine ⟨rfl,?_⟩
  refine ⟨H0,Y,S1,⟨some (.str z),.dat m (.str z),[]⟩::T,δ1,_,e1,e2,hA1,p1,λy δ2 w G S2 H2 e3 e4 hA2 p2=>?_⟩
  unfold pQ at p2
  split at p2
  ·rename_i m2 y
   obtain ⟨hz,ly,p3⟩:=p2
   obtain ⟨rfl,rfl⟩:=(hA2.told mem_mid).str_inv
   refine ⟨z,y,rfl,rfl,hz,ly,λp hp=>?_⟩
   have s1:=Gu hp (.tup ((Ud z y).map V.str))
   have l3:(Ud z y).length=3:=by
    unfold Ud
    split <;> rfl
   exact k _ δ2 _ [] S2 _ e3 e4 ((hA2.drop2.grow s1 (Al _)).pushI (.tup Et (by rw[Ab,l3]; exact sz (by decide)) ((RdFs.strs _).kp (Kp.of s1)))) p3
  ·exact p2.elim
 ·exact p1.elim
end
section
variable{δ:DS}{P:DV->DS->Prop}{m:Md}{z y:Str}{da db de:DE}{ds:List Ad}
theorem e_tx{Q:Md->List Ad->DS->Prop}:HS de δ Q=(de δ λx δ'=>FE x δ' Q):=rfl
theorem e_txB{Q:Md->List Ad->DS->Prop}:FE (.dat m (.str z)) δ Q=(Jz z/\z.length<=100000/\Q .sh (signs z) δ):=rfl
theorem e_inS{m':Md}{Q:DV->Prop}:Yb false (.dat m (.str z)) (.dat m' (.str y)) Q=Q (.dat .ow (.bool (!(Bg y z 0 y.length 1).isEmpty))):=rfl
theorem e_lenS{Q:DV->Prop}:qD [.dat m (.str z)] Q=(z.length<=1000000/\Q (.dat .ow (.int z.length))):=rfl
theorem e_ixS{m':Md}{i:Int}{Q:DV->Prop}:yP (.dat m (.str z)) (.dat m' (.int i)) Q=(z.length<=Ax/\∃c,Re z.cps.toList i=some c/\Q (.dat .ow (.str ⟨#[c]⟩))):=rfl
theorem e_intS{Q:DV->Prop}:pB [.dat m (.str z)] Q=(z.length<=640/\∃n,Ui z=some n/\Q (.dat .ow (.int n))):=rfl
theorem e_join:P1 da db δ P=(da δ λx δ1=>qN x δ1 db P):=rfl
theorem e_joinB:qN (.dat m (.str z)) δ db P=(db δ λy δ2=>rQ z y δ2 P):=rfl
theorem e_joinC:rQ z (.dat m (.list ds)) δ P=(∃ss:List Str,ds=ss.map Cp/\(ss.map λx=>x.length+z.length).sum<=1000000/\P (.dat .ow (.str (Bn z ss))) δ):=rfl
theorem e_split:r6 da db δ P=(da δ λx δ1=>gE x δ1 db P):=rfl
theorem e_splitB:gE (.dat m (.str z)) δ db P=(db δ λy δ2=>fY z y δ2 P):=rfl
theorem e_splitC:fY z (.dat m (.str y)) δ P=(z.length<=100000/\Jz z/\y.length=1/\Jz y/\P (.dat .ow (.list ((Do z (Bg z y 0 z.length (z.length+1)) y.length).map Cp))) δ):=rfl
theorem e_prt:Q1 da db δ P=(da δ λx δ1=>fR x δ1 db P):=rfl
theorem e_prtB:fR (.dat m (.str z)) δ db P=(db δ λy δ2=>pQ z y δ2 P):=rfl
theorem e_prtC:pQ z (.dat m (.str y)) δ P=(z.length<=100000/\y.length=1/\P (.dat .ow (.tuple ((Ud z y).map Cp))) δ):=rfl
end
end DL
namespace Nd
open PySem PySem.Spec PyProof.Rows L2
theorem eQ{h b b':Heap}(m:∀a,b.get? a=none->b'.get? a=none):∀{l:List Env},h.FunFrames b l->h.FunFrames b' l
 | [],x=>x
 | env::l,⟨k,⟨L,o,f,n,g,d⟩,r⟩=>⟨k,⟨L,o,f,m L n,g,d⟩,eQ m r⟩
theorem Xv{h:Heap}{C a:Addr}(n:h.get? a=none):(PySem.W.hideAll h [C]).get? a=none:=by
 cases q:(PySem.W.hideAll h [C]).get? a with
 | none=>rfl
 | some o =>
  have:=PySem.W.of_hideAll _ q
  rw[n] at this
  cases this
theorem zB{B h h':Heap}{l:List Env}{e L C:Addr}{cls a0:Value}{oC:Obj}(x:So B l e cls a0 L h)(hC:B.get? C=some oC)(hs:Fj C h h'):So (PySem.W.hideAll B [C]) l e cls a0 L h':=by
 obtain ⟨k1,k2,k3,oe,vs,T,oT,ts,he,hc,hd,h1,hnT,hTe,hT,hdT,h3⟩:=x
 have ne:∀{b:Addr},B.get? b=none->b≠C:=λ{b} n z=>by rw[z,hC] at n; cases n
 refine ⟨λb o q=>?_,Xv k2,?_,oe,vs,T,oT,ts,(hs.2 e (ne k2)).trans he,hc,hd,h1,Xv hnT,hTe,(hs.2 T (ne hnT)).trans hT,hdT,h3⟩
 ·by_cases z:b=C
  ·rw[z,PySem.W.hideAll_none _ Aa] at q
   cases q
  ·exact (hs.2 b z).trans (k1 b o (PySem.W.of_hideAll _ q))
 ·have k4:h'.FunFrames B l:=by
   clear he hT k1
   induction l with
   | nil=>exact k3
   | cons env l ih =>
    obtain ⟨a,⟨L',o,f,n,g,d⟩,r⟩:=k3
    exact ⟨a,⟨L',o,f,n,(hs.2 L' (ne n)).trans g,d⟩,ih r⟩
  exact eQ (λa n=>Xv n) k4
section
variable{M:Model}{A:Cr}{E:Value->Ah->Prop}{s:Ah}
theorem jS{base:Heap}{l:List Env}{e L:Addr}{cls a0:Value}{Q:Unit->Ah->Prop}(hh:So base l e cls a0 L s.heap)(h:∀h',So base l e cls a0 L h'->s.heap.UpToSlots h'->Q () { s with heap:=h' }):wpAny M A (setFlight (.ref e) (some L)) Q E s:=by
 obtain ⟨hkb,hen,hl,oe,vs,T,oT,ts,he,hcls,hd,h1,hnT,hTe,hT,hdT,h3⟩:=hh
 have hsz3:3<ts.size:=(fO.mp h3).1
 have other:∀b,b≠T->(s.heap.update T (Obj.mapFields (·.setIfInBounds 3 (Ll L)))).get? b=s.heap.get? b:=λb hb=>Sn _ _ (Kl hb)
 have noR:∀b o,s.heap.get? b=some o->(∀vs,o.data≠.fields vs)->b≠T:=λb o hb hnf q=>by
  rw[q,hT] at hb; injection hb with hb; subst hb; exact hnf ts hdT
 unfold setFlight
 refine Ac (Yp he hd h1 ?_)
 rw[if_pos (show (Cf T != Ly)=true from by simp)]
 refine Yo hT hdT hsz3 (h _ ⟨λb o hbo=>(other b λq=>by rw[q,hnT] at hbo; cases hbo).trans (hkb b o hbo),hen,
  hl.of_keeps λb o hb hnf=>⟨o,(other b (noR b o hb hnf)).trans hb,rfl⟩,?_⟩ λb o hb hnf=>⟨o.slots,(other b (noR b o hb hnf)).trans hb⟩)
 exact ⟨oe,vs,T,_,_,(other e (Kl hTe)).trans he,hcls,hd,h1,hnT,hTe,Jc _ hT (Obj.isFreed_of_fields (Obj.data_mapFields hdT _)),Obj.data_mapFields hdT _,by simp [hsz3]⟩
theorem kT{α:Type}{what:String}{base:Heap}{l:List Env}{e L:Addr}{cls a0:Value}{env:Env}{Q:α->Ah->Prop}(hf:env.frame=some L)(hh:So base l e cls a0 L s.heap)(h:∀h',So base l e cls a0 L h'->s.heap.UpToSlots h'->E (.ref e) { s with heap:=h' }):wpAny M A (PySem.passOn what (.ref e) env:Sem α) Q E s:=by
 obtain ⟨_,_,_,oe,vs,T,oT,ts,he,hcls,hd,h1,_⟩:=id hh
 unfold PySem.passOn
 refine Ac (Yp he hd h1 ?_)
 rw[if_neg (show ¬ ((Cf T == Ly)=true) from by simp),hf]
 exact Ac (jS hh λh' k1 k2=>wpAny_throw (h h' k1 k2))
end
def BH(P:Bh)(w:World)(stk:List Env)(HD:Hp)(sD:Ah)(E:XK)(Cb:Addr):Value->Ah->Prop:=λev s'=>∃(e C t:Addr) (H':Hp) (B:Heap),ev=.ref e/\Fly P w stk HD H' sD s' e C t B/\E (.ref C) none H'/\H' Cb=none/\∃m,B.Ns Cb m
section
variable{P:Bh}{w:World}{K:PySem.W.Frag}{mg:Str->Option Value}{base:Heap}{N:List Str}{qual:Str}{scope:Scope}{f:Addr}{cd:Value}{A:Cr}{outer:List Env}{s:Ah}{H:Hp}{E:XK}
structure BOk(stk:List Env)(HD:Hp)(sD:Ah)(fp:List Addr)(s3:Ah)(H3:Hp):Prop where
 os:s3.os=sD.os
 un:Un (Ot stk) [] HD H3 sD.heap s3.heap
 old:∀b∈fp,sD.heap.objs.size<=b
theorem Ur{scope':Scope}{cl:List (Str×Addr)}{N':List Str}{fp:List Addr}{s3:Ah}{H3:Hp}{X:Cx}(hP:X.prog=P)(hw:X.w=w)(b0:BOk X.stack H s fp s3 H3):Mc (Mh P w) ((Er X scope' cl N' fp s3 H3).wish (BH P w X.stack H s E s3.heap.objs.size)) E:=by
 intro pins σ H1 s1 ev s' I h
 obtain ⟨e,C,t,H',B,rfl,F,q⟩:=h
 have F:Fly P w X.stack H1 H' s1 s' e C t B:=F
 have hb:Un (Ot X.stack) fp H3 H1 s3.heap s1.heap:=I.base
 have u:=b0.un
 have nf:∀b o,s.heap.get? b=some o->b∉fp:=λb o e1 z=>absurd (Az e1) (jN.mpr (b0.old b z))
 obtain ⟨m,hm,_⟩:=I.loc
 have hm:s1.heap.Ns s3.heap.objs.size m:=hm
 have fr:H1 s3.heap.objs.size=none:=I.free
 obtain ⟨oC,es,ep,g1,g2,g3,g4⟩:=hm
 have nC:s3.heap.objs.size∉Ot X.stack:=λz=>by
  have:=(I.ok.funs.mem z)
  obtain ⟨_,o',e1,_⟩:=this
  exact absurd (Az e1) (Ep _)
 refine ⟨e,C,t,H',B,rfl,⟨(F.os.trans I.os).trans b0.os,F.bare,F.fly,λb o e1 hn=>?_,λb o e1 hm n=>?_,λb o e1 n=>?_,λb xs z=>F.tups b xs (hb.tups b xs (u.tups b xs z)),λb o v z=>F.frzs b o v (hb.frzs b o v (u.frzs b o v z)),λb ps z=>?_,F.hok⟩,q,F.free _ oC g1 fr,m,?_⟩
 ·obtain ⟨o3,e3⟩:=u.there b o e1 (λz=>nomatch z)
  obtain ⟨o1,e4⟩:=hb.there b o3 e3 (nf b o e1)
  obtain ⟨o',e5,e6⟩:=F.cov b o1 e4 hn
  refine ⟨o',e5,λn=>?_⟩
  have k3:=u.keep b o e1 n hn (λz=>nomatch z)
  have n3:=u.free b o e1 n (λz=>nomatch z)
  have k1:=hb.keep b o k3 n3 hn (nf b o e1)
  rw[e6 (hb.free b o k3 n3 (nf b o e1))]
  rw[k1] at e4
  exact (Br e4).symm
 ·obtain ⟨sl,e2⟩:=u.slot b o e1 n hm (λz=>nomatch z)
  have n3:=u.free b o e1 n (λz=>nomatch z)
  obtain ⟨sl2,e3⟩:=hb.slot b _ e2 n3 hm (nf b o e1)
  obtain ⟨sl3,e4⟩:=F.slot b _ e3 hm (hb.free b _ e2 n3 (nf b o e1))
  exact ⟨sl3,e4⟩
 ·have n3:=u.free b o e1 n (λz=>nomatch z)
  obtain ⟨o3,e3⟩:=u.there b o e1 (λz=>nomatch z)
  obtain ⟨o1,e4⟩:=hb.there b o3 e3 (nf b o e1)
  exact F.free b o1 e4 (hb.free b o3 e3 n3 (nf b o e1))
 ·obtain ⟨m1,z1⟩:=u.tbls b ps z
  obtain ⟨m2,z2⟩:=hb.tbls b _ z1
  obtain ⟨m3,z3⟩:=F.tbls b _ z2
  exact ⟨m1++m2++m3,by rw[z3]; simp⟩
 ·obtain ⟨o',e5,e6⟩:=F.cov _ oC g1 nC
  rw[e6 fr] at e5
  exact ⟨oC,es,ep,e5,g2,g3,g4⟩
theorem tM{what:String}{E':Value->Ah->Prop}{Cb:Addr}{ev:Value}{s':Ah}(hfr:(A.deeper (Ed qual scope s.heap.objs.size f cd)).frames=some (Ed qual scope s.heap.objs.size f cd::outer))(hCb:s.heap.objs.size<Cb)(hx:BH P w (Ed qual scope s.heap.objs.size f cd::outer) H s E Cb ev s'):wpAny (model P w) (A.deeper (Ed qual scope s.heap.objs.size f cd)) (noteFrame ev (Ed qual scope s.heap.objs.size f cd)) (λ_ s2=>∃m,s2.heap.Ns Cb m/\∀h',Fj Cb s2.heap h'->wpAny (model P w) (A.deeper (Ed qual scope s.heap.objs.size f cd)) (PySem.passOn what ev (Ed qual scope s.heap.objs.size f cd):Sem Value) (λ_ _=>False) (Hq (Mh P w) P w K mg base N qual scope f cd A outer s H E).xe { s2 with heap:=h' }) E' s':=by
 obtain ⟨e,C,t,H',B,rfl,F,q,nCb,m,hN⟩:=hx
 obtain ⟨oC,es,ep,g1,g2,g3,g4⟩:=hN
 refine wpAny_looks_onW (L:=s.heap.objs.size) hfr rfl F.fly λh1 hh u1=>⟨m,⟨oC,es,ep,hh.1 _ _ g1,g2,g3,g4⟩,λh2 hs2=>?_⟩
 have hh2:=zB hh g1 hs2
 refine kT (L:=s.heap.objs.size) rfl hh2 λh3 hh3 u3=>?_
 show wpAny (model P w) (A.deeper (Ed qual scope s.heap.objs.size f cd)) (leaving (Ed qual scope s.heap.objs.size f cd) (.ref e)) _ _ _
 unfold leaving
 refine Ac (wpAny_noteFrame_againW (L:=s.heap.objs.size) rfl hh3.2.2.2 ?_)
 refine wpAny_landsW hh3 λh4 hfl u4=>?_
 obtain ⟨k1,k2,⟨_,_,k3⟩,k4⟩:=hfl
 have oldC:∀b o,s.heap.get? b=some o->b≠Cb:=λb o e1 z=>by
  have:=Az e1
  rw[z] at this
  exact absurd this (jN.mpr (Iy hCb))
 have nL:∀b o,s.heap.get? b=some o->b∉Ot outer->b∉Ot (Ed qual scope s.heap.objs.size f cd::outer):=λb o e1 hn hm=>by
  rcases Zw (L:=s.heap.objs.size) rfl hm with z | z
  ·exact absurd (Az e1) (by rw[z]; exact Ep _)
  ·exact hn z
 refine ⟨e,C,t,H',PySem.W.hideAll B [Cb],rfl,⟨F.os,F.bare,⟨k1,k2,k3,k4⟩,λb o e1 hn=>?_,λb o e1 hm n=>?_,F.free,F.tups,F.frzs,F.tbls,λa v e1=>?_⟩,q⟩
 ·obtain ⟨o',e2,e3⟩:=F.cov b o e1 (nL b o e1 hn)
  exact ⟨o',PySem.W.hideAll_get _ e2 λz=>oldC b o e1 (Af.mp z),e3⟩
 ·have hm':b∈Ot (Ed qual scope s.heap.objs.size f cd::outer):=by
   obtain ⟨x,hx',hf⟩:=Cg.mp hm
   exact Cg.mpr ⟨x,Ae _ hx',hf⟩
  obtain ⟨sl,e2⟩:=F.slot b o e1 hm' n
  obtain ⟨_,o',e3,nf⟩:=F.fly.2.2.1.mem hm'
  rw[e2] at e3
  cases e3
  obtain ⟨sl1,e4⟩:=u1 b _ e2 nf
  have e5:=(hs2.2 b (oldC b o e1)).trans e4
  obtain ⟨sl2,e6⟩:=u3 b _ e5 nf
  obtain ⟨sl3,e7⟩:=u4 b _ e6 nf
  exact ⟨sl3,e7⟩
 ·refine (F.hok a v e1).stay (λb v' hc e2=>PySem.W.hideAll_get _ e2 λhm=>?_) (λ_ z=>z) (λ_ _ z=>z)
  rw[Af.mp hm] at hc
  rcases hc with r | r
  ·rw[<- r,nCb] at e1; cases e1
  ·rw[nCb] at r; cases r
end
section
variable{M:Model}{A:Cr}{E:Value->Ah->Prop}{s:Ah}{env:Env}
def vN(M:Model)(A:Cr)(E:Value->Ah->Prop)(Q:Value->Ah->Prop)(acc:Value)(cenv:Env)(r:Result)(s':Ah):Prop:=match r with
 | .ok _=>∃m,s'.heap.Ns cenv.locals m/\∀h',Fj cenv.locals s'.heap h'->Q acc { s' with heap:=h' }
 | .error x=>∃m,s'.heap.Ns cenv.locals m/\∀h',Fj cenv.locals s'.heap h'->wpAny M A (PySem.passOn "comprehension.variables-let-go" x cenv:Sem Value) (λ_ _=>False) E { s' with heap:=h' }
theorem cI{e:Expr}{scope:Scope}{pos:Pos}{newAcc first:Sem Value}{g:Comprehension}{gs:List Comprehension}{cl:List (Str×Addr)}{Q:Value->Ah->Prop}(hcl:clausesOf e=g::gs)(hs:∀x,Ez g.iter env x=pure x)(hclos:closureFor scope env=pure cl)(hkind:scope.kind=.function)(hnames:∀x∈scope.names,x.2=.local->scope.names.lookup x.1=some .local)(h:wpAny M A first (λx s₁=>wpAny M A (pyIter x) (λit s₂=>wpAny M A newAcc (λacc s₃=>wpAny M A (Kd scope env.globals cl [] env.qual none .none (some env)) (λcenv s₄=>Hv M A (.compStart e 0 it acc { cenv with scope:=relabel scope env }) (vN M A E Q acc { cenv with scope:=relabel scope env }) s₄) E s₃) E s₂) E s₁) E s):wpAny M A (comprehension e scope env pos newAcc false first none) Q E s:=by
 unfold comprehension
 rw[hclos,hcl]
 refine Ac (Dn h (λx s₁ h₁=>Ac (To (Ac (Lv (hs x) (Ac (Dq (Dn h₁ (λit s₂ h₂ =>
  wpAny_standIf (Ac (Dn h₂ (λacc s₃ h₃=>Ac (Ao (Ac (Dn h₃ (λcenv s₄ h₄=>?_) λ_ _ h'=>h')))) λ_ _ h'=>h')))
   λ_ _ h'=>h'))))))) λ_ _ h'=>h')
 dsimp only
 have hv:∀x∈(scope.names.filter λx=>(x.2 == .local || x.2 == .cell) && x.1 != (".0" : Str)).reverse,x.2=.local ->
   Env.kindOf { cenv with scope:=relabel scope env } x.1=some .local:=λx hx hl=>Yr (hnames x (dM.mp (List.mem_reverse.mp hx)).1 hl)
 refine Dq (Ac (wpAny_attempt (Dq (wpAny_run (Je h₄ λr s' hr=>?_)))))
 cases r with
 | ok f =>
  obtain ⟨m,hn,hr⟩:=hr
  exact Ac (Dq (wpAny_comp_letGo (cenv:={ cenv with scope:=relabel scope env }) hkind _ s' m hv hn λh' m' _ hs'=>Ao (hr h' hs')))
 | error x =>
  obtain ⟨m,hn,hr⟩:=hr
  exact Ac (Dq (wpAny_comp_letGo (cenv:={ cenv with scope:=relabel scope env }) hkind _ s' m hv hn λh' m' _ hs'=>Dn (hr h' hs') (λ_ _ f=>f.elim) λ_ _ y=>y))
end
section
variable{prog:Bh}{w:World}{A:Cr}{R:Result->Ah->Prop}{s:Ah}
theorem mQ{Ex:Value->Ah->Prop}{elt tg iter:Expr}{ifs:List Expr}{scope:Scope}{pos:Pos}{it acc:Value}{env:Env}(J:Nat->Ah->Prop)(hE:∀x s',Ex x s'->notedBy (model prog w) A env (λx s'=>R (.error x) s') x s') (turn:∀n s,J n s->wpAny (model prog w) A (Tr it) (λr s1=>match r with
    | none=>R (.ok .next) s1
    | some v=>wpAny (model prog w) A (Ow tg it v) (λ_ s2=>wpAny (model prog w) A (Qz tg env v) (λ_ s3 =>
      wpAny (model prog w) A (forIn ifs true λc r=>if r=true then (do
        let ok <- isTrue c env (eval c env)
        pure (Jq ok)) else pure (Jq r)) (λok s4 =>
       if ok=true then
        wpAny (model prog w) A (eval elt env) (λx s5=>wpAny (model prog w) A (call (.builtin "list.append") [acc,x]) (λ_ s6=>∃m,m<n/\J m s6) (λ_ _=>False) s5) Ex s4
       else ∃m,m<n/\J m s4) (λ_ _=>False) s3) (λ_ _=>False) s2) (λ_ _=>False) s1) (λ_ _=>False) s)
  (n:Nat) (h:J n s):Hv (model prog w) A (.compLoop (.ListComp elt [⟨tg,iter,ifs,0⟩] scope pos) 0 it acc env) R s:=by
 refine codeAny_loop rfl J (λn s hJ=>?_) n h
 show wpAny _ A (Sem.onRaise (compTurn (.ListComp elt [⟨tg,iter,ifs,0⟩] scope pos) 0 it acc env) (λx=>do noteFrame x env; theTreesLotGoes x)) _ _ s
 refine wpAny_noted ?_
 rw[compTurn_list]
 refine Ac (To (Ac (Dn (turn n s hJ) (λr s1 h1=>?_) λ_ _ z=>z.elim)))
 cases r with
 | none=>exact Ao h1
 | some v =>
  refine Ac (Dn h1 (λ_ s2 h2=>?_) λ_ _ z=>z.elim)
  refine Ac (Dn h2 (λ_ s3 h3=>?_) λ_ _ z=>z.elim)
  refine Ac (Dn h3 (λok s4 h4=>?_) λ_ _ z=>z.elim)
  cases ok with
  | false=>exact Ao ⟨rfl,h4⟩
  | true =>
   refine Ac (Ac (Dn h4 (λx s5 h5=>?_) λx s' hx=>hE x s' hx))
   exact Ac (Dn h5 (λ_ s6 h6=>Ao (Ao ⟨rfl,h6⟩)) λ_ _ z=>z.elim)
end
theorem wY{X:Cx}{F:Value->Ah->Prop}{pins:List (Addr×Obj)}{σ:L2.St}{H:Hp}{s:Ah}(I:Inv X pins σ H s):Inv (X.wish F) pins σ H s :=
 ⟨⟨I.ok.mod,I.ok.kind,I.ok.glob,I.ok.blt,I.ok.above,I.ok.inj,I.ok.has,I.ok.cab,I.ok.hd,I.ok.frames,I.ok.stk,I.ok.exf,I.ok.bs,I.ok.bsz,I.ok.noex,I.ok.exfs,I.ok.funs,I.ok.frf,I.ok.tab⟩,I.os,I.bare,I.base,I.loc,I.cell,I.free,I.freeC,I.pin,I.hok,I.len⟩
theorem unwish{X:Cx}{F:Value->Ah->Prop}{pins:List (Addr×Obj)}{σ:L2.St}{H:Hp}{s:Ah}(I:Inv (X.wish F) pins σ H s):Inv X pins σ H s :=
 ⟨⟨I.ok.mod,I.ok.kind,I.ok.glob,I.ok.blt,I.ok.above,I.ok.inj,I.ok.has,I.ok.cab,I.ok.hd,I.ok.frames,I.ok.stk,I.ok.exf,I.ok.bs,I.ok.bsz,I.ok.noex,I.ok.exfs,I.ok.funs,I.ok.frf,I.ok.tab⟩,I.os,I.bare,I.base,I.loc,I.cell,I.free,I.freeC,I.pin,I.hok,I.len⟩
section
variable{P:Bh}{w:World}{K:PySem.W.Frag}{mg:Str->Option Value}{base:Heap}{N:List Str}{qual:Str}{scopeD:Scope}{f:Addr}{cd:Value}{A:Cr}{outer:List Env}{sD:Ah}{HD:Hp}{E:XK}
theorem xX{elt iter:Expr}{x:Str}{px pos:Pos}{ifs:List Expr}{scope:Scope}{cl:List (Str×Addr)}{ys:List Str}{js:List Nat}{wi:TI}{tc:TT}{te:TE}{X:Cx}(hX0:X=(Hq (Mh P w) P w K mg base N qual scopeD f cd A outer sD HD E))(C:CompScope X scope cl x ys js)(hc:X.calm=true)(hi:PI X (.Name x px) iter wi)(ht:∀fp s H,pT (Er X scope cl (x::ys) fp s H) ifs tc)(he:∀fp s H,BOk X.stack HD sD fp s H->PE ((Er X scope cl (x::ys) fp s H).wish (BH P w X.stack HD sD E s.heap.objs.size)) elt te)(hs:∀x,Ez iter X.env x=pure x:=by intro _; rfl):PE X (.ListComp elt [⟨.Name x px,iter,ifs,0⟩] scope pos) (bN wi js tc te):=by
 intro pins s σ H Q I h
 rw[eval_ListComp]
 refine cI rfl hs C.clos C.kind C.locs (Gh (hi pins s σ H _ I h) λv s1 h1=>Gh h1 λitv s2 h2=>?_)
 obtain ⟨it,fp,tn,J,H2,e,I2,T,st2,f2,q2⟩:=h2
 subst e
 have fD:H2 s2.heap.objs.size=none:=I2.hok.fresh (Al _)
 obtain ⟨W,⟨m0,w0⟩,turn⟩:=q2 s2.heap.objs.size fD
 refine Ey ?_
 have I3:Inv X pins σ (upd H2 s2.heap.objs.size (.lst [])) { s2 with heap:=s2.heap.push { cls:=.type "list",dict:=none,data:=.seq ([]:List Value).toArray } } :=
  I2.laid (t':=s2.toks) (λb u q=>Aj _ q) (Al _) ⟨Dm _,[],0,.nil,Bi _ rfl⟩
 have nfp:∀b∈fp,b≠s2.heap.objs.size:=λb hb z=>by
  obtain ⟨o,q,_⟩:=T.obj _ _ st2 b hb
  have:=Az q
  rw[z] at this
  exact absurd this (Ep _)
 have f3:∀b∈fp,Pp X pins (upd H2 s2.heap.objs.size (.lst [])) b:=λb hb=>⟨by rw[Fd (nfp b hb)]; exact (f2 b hb).1,(f2 b hb).2⟩
 generalize hS3:({ s2 with heap:=s2.heap.push { cls:=.type "list",dict:=none,data:=.seq ([]:List Value).toArray } }:Ah)=s3 at I3
 have oV:tn 0 s3.heap:=T.keep 0 _ _ st2 λb hb o q=>by rw[<- hS3]; exact Aj _ q
 have o3:∀b∈fp,∃o,s3.heap.get? b=some o:=λb hb=>let ⟨o,q,_⟩:=T.obj _ _ oV b hb; ⟨o,q⟩
 show wpAny _ _ (Kd scope X.env.globals cl [] X.env.qual none .none (some X.env)) _ _ _
 refine Te C λh4 hns4 keep4 new4=>?_
 have I4:∀tk,Inv (Er X scope cl (x::ys) fp s3 (upd H2 s2.heap.objs.size (.lst []))) [] (none::Ft σ js) (upd H2 s2.heap.objs.size (.lst [])) { s3 with heap:=h4,toks:=tk }:=λtk=>Qb (pre:=[x]) C I3 f3 o3 hns4 keep4 new4
 have st4:tn 0 h4:=T.keep 0 _ _ oV λb hb o q=>keep4 b o q
 generalize hX':Er X scope cl (x::ys) fp s3 (upd H2 s2.heap.objs.size (.lst []))=X' at I4
 have eP:X'.prog=X.prog:=by rw[<- hX']; rfl
 have eW:X'.w=X.w:=by rw[<- hX']; rfl
 have eK:X'.K=X.K:=by rw[<- hX']; rfl
 have eA:X'.A=X.A:=by rw[<- hX']; rfl
 have eC:X'.calm=true:=by rw[<- hX']; exact hc
 have stat:∀{H':Hp},(∀b∈fp,H' b=none)->∀b∈fp,Pp X' [] H' b:=λ{H'} hn b hb=>by
  have ok:=(I4 0).ok
  have hex:b∈X'.ex:=by rw[<- hX']; exact hb
  exact ⟨hn b hb,(ok.exf b hex).1,ok.exfs b hex,.inl hex,(ok.exf b hex).2,λp hp=>by rw[<- hX'] at hp; cases (show p∈([]:List (Addr×Obj)) from hp)⟩
 have b0:BOk X.stack HD sD fp s3 (upd H2 s2.heap.objs.size (.lst [])):=by
  subst hX0
  have hb:Un (Ot outer) [] HD (upd H2 s2.heap.objs.size (.lst [])) sD.heap s3.heap:=I3.base
  have nL:∀b o,sD.heap.get? b=some o->b∈Ot (Ed qual scopeD sD.heap.objs.size f cd::outer)->b∈Ot outer:=λb o e1 hm=>by
   rcases Zw (L:=sD.heap.objs.size) rfl hm with z | z
   ·exact absurd (Az e1) (by rw[z]; exact Ep _)
   ·exact z
  have up:∀b,b∈Ot outer->b∈Ot (Ed qual scopeD sD.heap.objs.size f cd::outer):=λb hm=>by
   obtain ⟨x,hx',hf⟩:=Cg.mp hm
   exact Cg.mpr ⟨x,Ae _ hx',hf⟩
  refine ⟨I3.os,⟨λb o q n hn hx=>hb.keep b o q n (λz=>hn (up b z)) hx,λb o q n hm hx=>hb.slot b o q n (nL b o q hm) hx,hb.free,hb.there,hb.tups,hb.frzs,hb.tbls⟩,λb hb'=>?_⟩
  rcases (f3 b hb').2.2.2.1 with z | z
  ·exact absurd z (λz=>nomatch z)
  ·exact z
 have hout:∀(ev:Value) (s':Ah),BH P w X.stack HD sD E s3.heap.objs.size ev s'->notedBy (model X.prog X.w) X.A (Qx scope (Ea (s3.heap.objs.size+1) scope.names cl) s3.heap.objs.size X.env) (λx s'=>vN (model X.prog X.w) X.A X.xe (EP X pins σ Q) (.ref s2.heap.objs.size) (Qx scope (Ea (s3.heap.objs.size+1) scope.names cl) s3.heap.objs.size X.env) (.error x) s') ev s':=by
  intro ev s' hx
  subst hX0
  have hCb:sD.heap.objs.size<s3.heap.objs.size:=by
   obtain ⟨m,hm,_⟩:=I3.loc
   exact (show s3.heap.Ns sD.heap.objs.size m from hm).lt
  exact tM (K:=K) (mg:=mg) (base:=base) (N:=N) I3.ok.frames hCb hx
 have loop:∀s5:Ah,s5={ s3 with heap:=h4,toks:=s3.toks+([]:List (Str×Value)).length } ->
   Hv (model X.prog X.w) X.A (.compLoop (.ListComp elt [⟨.Name x px,iter,ifs,0⟩] scope pos) 0 (.ref it) (.ref s2.heap.objs.size) (Qx scope (Ea (s3.heap.objs.size+1) scope.names cl) s3.heap.objs.size X.env))
    (vN (model X.prog X.w) X.A X.xe (EP X pins σ Q) (.ref s2.heap.objs.size) (Qx scope (Ea (s3.heap.objs.size+1) scope.names cl) s3.heap.objs.size X.env)) s5:=by
  rintro s5 rfl
  refine mQ (Ex:=BH P w X.stack HD sD E s3.heap.objs.size) (λn s'=>∃i o H',Inv X' [] (o::Ft σ js) H' s'/\tn i s'.heap/\(∀b∈fp,H' b=none)/\W i n H') (λev s' hx=>?_) ?_ m0
   ⟨0,none,_,I4 _,st4,λb hb=>(f3 b hb).1,w0⟩
  ·exact hout ev s' hx
  (intro n s6 q_; obtain ⟨i,o,H6,I6,st6,fr6,w6⟩ := q_)
  rcases turn i n H6 w6 with ⟨stop,qn⟩ | ⟨go,step⟩
  ·have hd:=T.done X' eP eW eK eC i [] s6 _ H6 (λ_ _=>False) I6 (stat fr6) st6 stop
   rw[eA] at hd
   refine Gh hd λr s7 q0_ => ?_
   obtain ⟨hr,I7⟩ := q0_
   subst hr
   obtain ⟨m7,hn7,_⟩:=I7.loc
   have hn7':s7.heap.Ns s3.heap.objs.size m7:=by rw[<- hX'] at hn7; exact hn7
   refine ⟨m7,hn7',λh8 hs8'=>?_⟩
   have hs8:Fj s3.heap.objs.size s7.heap h8:=hs8'
   have I7f:H6 s3.heap.objs.size=none:=by have:=I7.free; rw[<- hX'] at this; exact this
   have b7:Un (Ot X.stack) fp (upd H2 s2.heap.objs.size (.lst [])) H6 s3.heap s7.heap:=by have:=I7.base; rw[<- hX'] at this; exact this
   have ne8:∀b o,s3.heap.get? b=some o->b≠s3.heap.objs.size:=λb o q=>Ct (Az q)
   have u8:Un (Ot X.stack) fp (upd H2 s2.heap.objs.size (.lst [])) H6 s3.heap h8:=by
    refine ⟨λb o q n hb hx=>(hs8.2 b (ne8 b o q)).trans (b7.keep b o q n hb hx),λb o q n hb hx=>?_,b7.free,λb o q hx=>?_,b7.tups,b7.frzs,b7.tbls⟩
    ·obtain ⟨sl,z⟩:=b7.slot b o q n hb hx
     exact ⟨sl,(hs8.2 b (ne8 b o q)).trans z⟩
    ·obtain ⟨o',z⟩:=b7.there b o q hx
     exact ⟨o',(hs8.2 b (ne8 b o q)).trans z⟩
   have hok8:Xg X.prog X.w H6 h8:=λb ob e=>by
    have hk7:=I7.hok
    rw[eP,eW] at hk7
    refine (hk7 b ob e).stay (λc w' hcc q=>(hs8.2 c ?_).trans q) (λ_ q=>q) λ_ _ q=>q
    rintro rfl
    rcases hcc with rfl | hcc
    ·rw[I7f] at e; cases e
    ·rw[I7f] at hcc; cases hcc
   have os7:s7.os=s3.os:=by have:=I7.os; rw[<- hX'] at this; exact this
   exact ⟨.ref s2.heap.objs.size,H6,I3.call' (s':={ s7 with heap:=h8 }) (ch:=fp) os7 u8 hok8 I7.bare (λb hb=>⟨(f3 b hb).2.2.2.1,(f3 b hb).2.1,(f3 b hb).2.2.2.2.1,(f3 b hb).2.2.2.2.2⟩),rfl,qn⟩
  ·have hit:=T.item X' eP eW eK eC i [] s6 _ H6 (λ_ _=>False) I6 (stat fr6) st6 go
   rw[eA] at hit
   refine Gh hit λr s7 q0_ => ?_
   obtain ⟨u,hr,h7⟩ := q0_
   subst hr
   refine Gh h7 λ_ s8 q0_ => ?_
   obtain ⟨y,H8,I8,r8,y8,st8,fr8⟩ := q0_
   have I8':=I8.pinned (stat fr8) (T.obj _ _ st8)
   obtain ⟨N1,N2,hN1,hN2,hst⟩:=step y H8 y8
   have again:∀{H9:Hp} {s9:Ah} {m':Nat},Inv X' ([]++Rh fp s8.heap) (some y::Ft σ js) H9 s9->m'<n->W (i+1) m' H9->∃m,m<n/\∃i o H',Inv X' [] (o::Ft σ js) H' s9/\tn i s9.heap/\(∀b∈fp,H' b=none)/\W i m H':=λ{H9 s9 m'} I9 hm w9=>by
    refine ⟨m',hm,i+1,some y,H9,I9.unpinned,T.keep _ _ _ st8 λb hb o e=>(I9.pin (b,o) (Ai _ (Ai _ (Hj hb e)))).1,λb hb=>?_,w9⟩
    obtain ⟨o,e,_⟩:=T.obj _ _ st8 b hb
    exact (I9.pin (b,o) (Ai _ (Ai _ (Hj hb e)))).2.1
   subst hX'
   refine Gh (Qn (i:=0) (x:=x) (pos:=px) C.nd rfl (Vg C.own) (bJ C.own) _ s8 _ H8 y u (λσ' H'=>σ'=some y::Ft σ js/\H'=H8) I8' r8 ⟨rfl,rfl⟩) λ_ s9 q0_ => ?_
   obtain ⟨σ9,H9,I9,e9,e9'⟩ := q0_
   subst e9 e9'
   refine Gh (ht fp s3 _ _ s9 _ _ _ I9 hst) λok s10 q0_ => ?_
   obtain ⟨H10,I10,q10⟩ := q0_
   cases ok with
   | false =>
    rw[if_neg Hb] at q10 ⊢
    obtain ⟨m',hm,w10⟩:=hN1 _ q10
    exact again I10 hm w10
   | true =>
    rw[if_pos rfl] at q10 ⊢
    refine Gh (he fp s3 _ b0 _ s10 _ _ _ (wY I10) q10) λz s11 q0_ => ?_
    obtain ⟨vz,H11,I11',r11,q11⟩ := q0_
    have I11:=unwish I11'
    obtain ⟨acc,ha,hz,m',hm,w11⟩:=hN2 _ _ q11
    refine Gh (Pg _ s11 _ H11 (.ref s2.heap.objs.size) [vz] (.ref s2.heap.objs.size) [z] (λ_ H'=>H'=upd H11 s2.heap.objs.size (.lst (acc++[vz]))) I11 rfl (.cons r11 .nil) ⟨_,acc,vz,rfl,rfl,ha,hz,rfl⟩) λ_ s12 q0_ => ?_
    obtain ⟨_,H12,I12,_,e12⟩ := q0_
    subst e12
    exact again I12 hm w11
 exact Ml (loop _ rfl) (T.self X.A 0 _ _ _ st4 (loop _ rfl))
end
end Nd
namespace DL
open PySem PySem.Spec PyProof.Rows L2 Nd
section
variable{K:PySem.W.Frag}{H0 H:Hp}{n:Nat}{S T:List Ent}
theorem xP{b:Bool}{dc:DT}{de:DE}{δ:DS}{yes:Ad->Nat->Prop}{no:Nat->Prop}{D:Addr}{G:List Addr}{acc:List Ad}{N1:Hp->Prop}{N2:VK}(hS:Sl S δ)(hb:b=true->G=[])(hA:At K H0 (λ_=>False) δ.n (S++⟨some (.ref D),.acc acc,D::G⟩::T) H)(h:Pi b dc de δ yes no)(hz:acc.length+1<=Ax)(k1:∀n' H',At K H0 (λ_=>False) n' (⟨some (.ref D),.acc acc,D::G⟩::T) H'->no n'->N1 H')(k2:∀e n' v H' G',(b=true->G'=[])->(∃xs,H' D=some (.lst xs)/\xs.length=acc.length/\At K H0 (λ_=>False) n' (⟨some (.ref D),.acc (acc++[e]),D::G'⟩::T) (upd H' D (.lst (xs++[v]))))->yes e n'->N2 v H'):LT K dc (vs S) H λc H2=>if c=true then qW K H0 de (vs S) H2 N2 else N1 H2:=by
 refine ⟨H0,_,S,⟨some (.ref D),.acc acc,D::G⟩::T,δ,_,rfl,hS,hA,h,λc δ2 S2 H2 e1 e2 hA2 p2=>?_⟩
 cases c with
 | false=>exact Xf (k1 _ _ (hA2.sub (Bw _ _)) p2)
 | true =>
  refine cX ⟨S2,⟨some (.ref D),.acc acc,D::G⟩::T,δ2,_,e1,e2,hA2,p2,λy δ3 v F S3 H3 e3 e4 hA3 p3=>?_⟩
  split at p3
  ·rename_i m e
   have r:=hA3.told mem_mid
   cases b with
   | true =>
    obtain rfl:=r.imm p3.1
    obtain rfl:=hb rfl
    exact k2 _ _ _ _ [] (λ_=>rfl) ((hA3.drop.sub (Bw _ _)).accPut r hz) p3.2
   | false =>
    have hA4:At K H0 (λ_=>False) δ3.n (⟨some v,.dat m e,F⟩::⟨some (.ref D),.acc acc,D::G⟩::T) H3:=hA3.sub (Bw _ _)
    exact k2 _ _ _ _ (G++F) (λz=>nomatch z) ((hA4.perm (Ef _ _ _)).accPutG p3.1 hz) p3.2
  ·exact p3.elim
end
end DL
namespace Nd
open PySem PySem.Spec PyProof.Rows L2
section
variable{X:Cx}{e a b c:Expr}{te ta tb tc:TE}{lo hi:Option Expr}{tl th:TO}{pos p2:Pos}
theorem sN(he:PE X e te)(hl:PO X lo tl)(hu:PO X hi th):PE X (.Subscript e (.Slice lo hi none p2) pos) (λσ H Q=>te σ H λx H1=>tl σ H1 λl H2=>th σ H2 λu H3=>∃z,x=.str z/\z.length<=Ax/\Q (.str (Cm z l u)) H3):=by
 intro pins s σ H Q I h
 refine Subscript_ (Gh (he pins s σ H _ I h) λv s1 q0_ => ?_)
 obtain ⟨x,H1,I1,r1,q1⟩ := q0_
 refine wpAny_Slice (Gh (hl pins s1 σ H1 _ I1 q1) λvl s2 ⟨l,H2,I2,pl,q2⟩=>Gh (hu pins s2 σ H2 _ I2 q2) λvu s3 q0_ => ?_)
 obtain ⟨u,H3,I3,pu,q3⟩ := q0_
 rw[evalPart_none]
 refine Ao ?_
 obtain ⟨z,rfl,hz,q⟩:=q3
 obtain ⟨t,rfl⟩:=r1
 have kp:KeptH (λh'=>∀b o,s3.heap.get? b=some o->h'.get? b=some o):=λh ob k b o e=>Aj _ (k b o e)
 have fin:∀(h':Heap) (t':Tok) (k:Nat),(∀b o,s3.heap.get? b=some o->h'.get? b=some o)->EP X pins σ Q (.str (Cm z l u) t') { heap:=h',gens:=s3.gens,drawn:=s3.drawn,toks:=k,os:=s3.os }:=λh' t' k kk=>⟨.str _,H3,I3.kept (t':=k) kk,⟨_,rfl⟩,q⟩
 have key:ItemOn (model X.prog X.w) X.A X.xe (.str z t) (.ref s3.heap.objs.size) (EP X pins σ Q) { s3 with heap:=s3.heap.push { cls:=.type "slice",data:=.fields #[vl,vu,.none] } }:=by
  cases pl with
  | none=>cases pu with
   | none=>exact SBH.sliceItem_nn kp (λ_ _ h=>h) fin hz
   | int j u2=>exact SBH.sliceItem_ns kp (λ_ _ h=>h) fin hz
  | int i u1=>cases pu with
   | none=>exact SBH.sliceItem_sn kp (λ_ _ h=>h) fin hz
   | int j u2=>exact SBH.sliceItem_ss kp (λ_ _ h=>h) fin hz
 obtain ⟨T,id,hT,ht,hg⟩:=key
 show wpAny (model X.prog X.w) X.A (subscriptTail e (.Slice lo hi none p2) (.str z t) (.ref s3.heap.objs.size)) (EP X pins σ Q) X.xe { s3 with heap:=s3.heap.push { cls:=.type "slice",data:=.fields #[vl,vu,.none] } }
 exact tail_any (ops:=[.ref s3.heap.objs.size,.str z t]) ht hT hg (by with_unfolding_all rfl)
def T7:R2:=λx y H Q=>∃z n,x=.str z/\y=.int n/\MulOk z n/\Q (.str (Txt.mul z n)) H
theorem G3:Ue X (Jj .Mult) T7:=by
 intro pins s σ H x y v u Q I rx ry h
 obtain ⟨z,n,rfl,rfl,ok,q⟩:=h
 obtain ⟨t,rfl⟩:=rx
 obtain ⟨t2,rfl⟩:=ry
 exact SB.mul ok λt' k=>⟨.str _,H,I.tok _,⟨_,rfl⟩,q⟩
def EV:V->List V->Hp->VK->Prop:=λx vs H Q=>∃z y,x=.str z/\vs=[.str y]/\Q (.int (Txt.find z y)) H
theorem K8:BA X "str.find" EV:=by
 intro pins s σ H x vs v us Q I rx rv h
 obtain ⟨z,y,rfl,rfl,q⟩:=h
 obtain ⟨t,rfl⟩:=rx
 obtain ⟨u,rfl,ru⟩:=rv.one
 obtain ⟨t2,rfl⟩:=ru
 exact SC.find ⟨.int _,H,I.tok _,⟨_,rfl⟩,q⟩
theorem wV(ha:PE X a ta)(hb:PE X b tb)(hc:PE X c tc):PE X (.JoinedStr [a,b,c] pos) (λσ H Q=>ta σ H λx H1=>∃i,x=.str i/\i.length<=1000000/\tb σ H1 λy H2=>∃j,y=.str j/\i.length+j.length<=1000000/\tc σ H2 λw H3=>∃k,w=.str k/\i.length+j.length+k.length<=1000000/\∀z,Q (.str z) H3):=by
 intro pins s σ H Q I h
 refine JoinedStr_many (joinParts_cons (Gh (ha pins s σ H _ I h) λv s1 q0_ => ?_))
 obtain ⟨x,H1,I1,r1,i,e1,hi,h1⟩ := q0_
 subst e1
 obtain ⟨t,rfl⟩:=r1
 have l0:Str.empty.length=0:=rfl
 refine ⟨?_,joinParts_cons (Gh (hb pins s1 σ H1 _ I1 h1) λv s2 ⟨y,H2,I2,r2,j,e2,hl,h2⟩=>?_)⟩
 ·rw[Gi,l0,Hg]; omega
 subst e2
 obtain ⟨t2,rfl⟩:=r2
 refine ⟨?_,joinParts_cons (Gh (hc pins s2 σ H2 _ I2 h2) λv s3 ⟨w,H3,I3,r3,k,e3,hl3,q⟩=>?_)⟩
 ·rw[Gi,Gi,l0,Hg]; omega
 subst e3
 obtain ⟨t3,rfl⟩:=r3
 have hz:(Jv++i++j++k).length<=Ax:=by rw[Gi,Gi,Gi,l0,Hg]; omega
 exact ⟨hz,joinParts_nil ⟨.str _,H3,I3.tok _,⟨_,rfl⟩,q _⟩ hz⟩
end
end Nd
namespace DL
open PySem PySem.Spec PyProof.Rows L2 Nd
def FT(x:DV)(l h:Option Int)(δ:DS)(P:DV->DS->Prop):Prop:=match x with
 | .dat _ (.str z)=>z.length<=100000/\P (.dat .ow (.str (Cm z l h))) δ
 | _=>False
def EH(de:DE)(dl dh:DO):DE:=λδ P=>de δ λx δ1=>dl δ1 λl δ2=>dh δ2 λh δ3=>FT x l h δ3 P
def iY:D2:=λx y P=>match x,y with
 | .dat _ (.str z),.dat _ (.int n)=>MulOk z n/\P (.dat .ow (.str (Txt.mul z n)))
 | _,_=>False
def rS(z:Str)(y:DV)(δ:DS)(P:DV->DS->Prop):Prop:=match y with
 | .dat _ (.str y)=>P (.dat .ow (.int (Txt.find z y))) δ
 | _=>False
def qZ(x:DV)(δ:DS)(db:DE)(P:DV->DS->Prop):Prop:=match x with
 | .dat _ (.str z)=>db δ λy δ2=>rS z y δ2 P
 | _=>False
def N9(da db:DE):DE:=λδ P=>da δ λx δ1=>qZ x δ1 db P
theorem E1{K:PySem.W.Frag}:eZ K T7 iY:=by
 intro H0 X n S T x y v w F G H Q P hA hd k
 unfold iY at hd
 split at hd
 ·obtain ⟨rfl,_⟩:=(hA.told Ff).str_inv
  obtain ⟨rfl,_⟩:=(hA.told mem_mid).int_inv
  exact ⟨_,_,rfl,rfl,hd.1,k _ _ [] H (hA.drop2.pushI (.str _)) hd.2⟩
 ·exact hd.elim
section
variable{X:Cx}{o e a b:Expr}{de da db:DE}{lo hi:Option Expr}{dl dh:DO}{pos p2 apos cpos:Pos}
theorem Th(he:Em X e de)(hl:S7 X lo dl)(hh:S7 X hi dh):Em X (.Subscript e (.Slice lo hi none p2) pos) (EH de dl dh):=by
 refine PE.imp (sN he hl hh) λσ H Q h=>?_
 obtain ⟨H0,Y,S,T,δ,P,rfl,hS,hA,hd,k⟩:=h
 refine ⟨H0,Y,S,T,δ,_,rfl,hS,hA,hd,λx δ1 v F S1 H1 e1 e2 hA1 p1=>?_⟩
 refine ⟨H0,Y,S1,⟨some v,x,F⟩::T,δ1,_,e1,e2,hA1,p1,λl δ2 S2 H2 e3 e4 hA2 p2=>?_⟩
 refine ⟨H0,Y,S2,⟨some v,x,F⟩::T,δ2,_,e3,e4,hA2,p2,λh δ3 S3 H3 e5 e6 hA3 p3=>?_⟩
 unfold FT at p3
 split at p3
 ·obtain ⟨rfl,_⟩:=(hA3.told mem_mid).str_inv
  exact ⟨_,rfl,Ba p3.1 (dA (by decide)),k _ δ3 _ [] S3 _ e5 e6 (hA3.drop.pushI (.str _)) p3.2⟩
 ·exact p3.elim
theorem jF(ha:Em X a da)(hb:Em X b db):Em X (.BinOp a .Mult b pos) (Tz iY da db):=Uc G3 E1 ha hb
theorem G4(ho:Em X o da)(he:Em X e db)
  (hbase:Nu o "find" X.env (eval o X.env)=eval o X.env:=by rfl) (hline:(apos.endLine == cpos.line)=true:=by rfl)
  (hfew:((Gn cpos (Bf [e] X.env)).all (λx=>!x.1) && (backToKw cpos (Sj [] X.env)).all (λx=>x.1.isSome)
   && decide (([e]:List Expr).length+([]:List Nv).length+(if ([]:List Nv).isEmpty then 0 else 1)<30))=true:=by rfl)
  (hs:Bf [e] X.env=[(false,eval e X.env)]:=by rfl):Em X (.Call (.Attribute o "find" apos) [e] [] cpos) (N9 da db):=by
 refine PE.imp (mL PySem.F.plainAttrs_str PySem.F.slot_str_find PySem.F.type_str_find K8 ho (Eb he Jk hs) hbase hfew hline hs rfl) λσ H Q h=>?_
 obtain ⟨H0,Y,S,T,δ,P,rfl,hS,hA,hd,k⟩:=h
 refine ⟨H0,Y,S,T,δ,_,rfl,hS,hA,hd,λx δ1 v F S1 H1 e1 e2 hA1 p1=>?_⟩
 unfold qZ at p1
 split at p1
 ·rename_i m z
  obtain ⟨rfl,rfl⟩:=(hA1.told mem_mid).str_inv
  refine ⟨rfl,?_⟩
  refine ⟨H0,Y,S1,⟨some (.str z),.dat m (.str z),[]⟩::T,δ1,_,e1,e2,hA1,p1,λy δ2 w G S2 H2 e3 e4 hA2 p2=>?_⟩
  unfold rS at p2
  split at p2
  ·obtain ⟨rfl,_⟩:=(hA2.told mem_mid).str_inv
   exact ⟨z,_,rfl,rfl,k _ δ2 _ [] S2 _ e3 e4 (hA2.drop2.pushI (.int _)) p2⟩
  ·exact p2.elim
 ·exact p1.elim
end
section
variable{δ:DS}{P:DV->DS->Prop}{m m':Md}{z y:Str}{n:Int}{l h:Option Int}{da db de:DE}{dl dh:DO}
theorem e_slS:EH de dl dh δ P=(de δ λx δ1=>dl δ1 λl δ2=>dh δ2 λh δ3=>FT x l h δ3 P):=rfl
theorem e_slC:FT (.dat m (.str z)) l h δ P=(z.length<=100000/\P (.dat .ow (.str (Cm z l h))) δ):=rfl
theorem e_mulS{Q:DV->Prop}:iY (.dat m (.str z)) (.dat m' (.int n)) Q=(MulOk z n/\Q (.dat .ow (.str (Txt.mul z n)))):=rfl
theorem e_find:N9 da db δ P=(da δ λx δ1=>qZ x δ1 db P):=rfl
theorem e_findB:qZ (.dat m (.str z)) δ db P=(db δ λy δ2=>rS z y δ2 P):=rfl
theorem e_findC:rS z (.dat m (.str y)) δ P=P (.dat .ow (.int (Txt.find z y))) δ:=rfl
theorem e_notInS{Q:DV->Prop}:Yb true (.dat m (.str z)) (.dat m' (.str y)) Q=Q (.dat .ow (.bool (!(!(Bg y z 0 y.length 1).isEmpty)))):=rfl
end
def FR(K:PySem.W.Frag)(H0:Hp)(di:DI):TI:=λσ H R=>∃(S T:List Ent) (δ:DS) (P:Md->List Ad->DS->Prop),vs S=σ/\Sl S δ/\At K H0 (λ_=>False) δ.n (S++T) H/\di δ P /\
 ∀m ds δ' J hid S' H',vs S'=σ->Sl S' δ'->At K H0 (λ_=>False) δ'.n (S'++(hid++T)) H'->IterOk K J hid m ds->ds.length<=Ax->P m ds δ'->R J H'
section
variable{K:PySem.W.Frag}{H0 H:Hp}{n:Nat}{S T:List Ent}
theorem tR{b:Bool}{di:DI}{js:List Nat}{dc:DT}{de:DE}:∀σ H Q,qW K H0 (nV b di js dc de) σ H Q->bN (FR K H0 di) js (LT K dc) (qW K H0 de) σ H Q:=by
 intro σ H Q h
 obtain ⟨S,T,δ,P,rfl,hS,hA,hd,k⟩:=h
 refine ⟨S,T,δ,_,rfl,hS,hA,hd,λm ds δ1 J hid S1 H1 e1 e2 hA1 it hz p1=>?_⟩
 obtain ⟨I,h0,hs,hf⟩:=p1
 rw[<- e1]
 intro D hD
 refine ⟨λi q H=>q=ds.length - i/\i<=ds.length/\∃acc n G,(b=true->G=[])/\At K H0 (λ_=>False) n (⟨some (.ref D),.acc acc,D::G⟩::(S1++(hid++T))) H/\acc.length<=i/\I i acc n,⟨ds.length,by simp,Dm _,[],δ1.n,[],λ_=>rfl,hA1.accNew hD,Al _,h0⟩,?_⟩
 (intro i q H q_; obtain ⟨rfl,hi,acc,n,G,hG,hA2,hl,hI⟩ := q_)
 have hid_ok:∀e∈hid,Gx K H n e:=λe he=>hA2.ok e (Ae _ (Ai _ (An _ he)))
 by_cases hlt:i<ds.length
 ·refine .inr ⟨it.go H n i hid_ok hlt,λx H' y=>?_⟩
  obtain ⟨s1,d,F,h1,h2,h3⟩:=it.yld H n i x H' hid_ok hlt y
  have hA3:At K H0 (λ_=>False) n ((⟨some (.ref D),.acc acc,D::G⟩::S1)++⟨some x,.dat m d,F⟩::(hid++T)) H':=At.item (S:=⟨some (.ref D),.acc acc,D::G⟩::S1) hA2 s1 h2 h3 it.md it.hd it.np
  have hA4:=hA3.mid
  have hA5:=At.view (S:=S1) hA4 (λe he=>Ae _ (An _ (Ae _ he))) js
  have hA6:At K H0 (λ_=>False) n ((⟨some x,.dat m d,F⟩::Xc S1 js)++⟨some (.ref D),.acc acc,D::G⟩::(S1++(hid++T))) H':=hA5.mid
  have hS6:Sl (⟨some x,.dat m d,F⟩::Xc S1 js) ⟨.dat m d::frD δ1.sl js,n⟩:=by
   unfold Sl
   rw[Ar,kE e2]
  have hv:vs (⟨some x,.dat m d,F⟩::Xc S1 js)=some x::Ft (vs S1) js:=by
   rw[<- lX]
   rfl
  refine ⟨λH2=>∃m',m'<ds.length - i/\_,λy H3=>∃acc,H3 D=some (.lst acc)/\acc.length<Ax/\∃m',m'<ds.length - i/\_,λH2 q=>q,λy H3 q=>q,?_⟩
  rw[<- hv]
  refine xP hS6 hG hA6 (hs i d acc n h1 hI) (by omega) (λn' H2 hA7 p=>?_) (λe n' v H2 G' hG' hA7 p=>?_)
  ·exact ⟨ds.length - (i+1),by omega,rfl,hlt,acc,n',G,hG,hA7,by omega,p⟩
  ·obtain ⟨xs,g1,g2,g3⟩:=hA7
   exact ⟨xs,g1,by omega,ds.length - (i+1),by omega,rfl,hlt,acc++[e],n',G',hG',g3,by rw[Be]; simp; omega,p⟩
 ·have e:i=ds.length:=by omega
  subst e
  refine .inl ⟨it.stop H n hid_ok,k _ ⟨δ1.sl,n⟩ _ (D::G) S1 H e1 e2 ?_ (hf acc n hI)⟩
  have hA3:=hA2.accGetG hG
  have hA4:At K H0 (λ_=>False) n (⟨some (.ref D),.dat (bP b) (.list acc),D::G⟩::(S1++T)) H:=hA3.sub (((Dd S1).append (Bw hid T)).cons₂ _)
  exact hA4.tomid
theorem Y1{r:List V->Hp->VK->Prop}{rd:DC}{da:DA}(o:Qu K r rd):∀σ H Q,qW K H0 (BF rd da) σ H Q->FQ r (BJ K H0 da) σ H Q:=by
 intro σ H Q h
 obtain ⟨S,T,δ,P,rfl,hS,hA,hd,k⟩:=h
 refine ⟨S,T,δ,_,rfl,hS,hA,hd,λxs δ' As us S' H' e1 e2 ex eu hA' p=>?_⟩
 subst ex
 exact o H0 _ δ'.n S' T As us H' Q _ eu hA' p λz u F' H'' hA3 p3=>k z δ' u F' S' H'' e1 e2 hA3 p3
end
section
variable{X:Cx}{H0:Hp}{tg e:Expr}{es:List Expr}{de:DE}{da:DA}{di:DI}{pos p:Pos}{r:List V->Hp->VK->Prop}{rd:DC}{x:Str}{T:String}
theorem Sw(he:PE X e (qW X.K H0 de)):PS X (.Return (some e) pos) (mK X.K H0 (AC de)):=by
 refine PS.impD (Qf he) λD σ H h=>?_
 obtain ⟨S,T,δ,P,rfl,hS,hT,hA,hd,k1,k2,k3,k4⟩:=h
 exact ⟨S,T,δ,_,rfl,hS,hA,hd,λx δ' v F S' H' e1 e2 hA' p=>k2 x δ' v F S' H' e2 hA' p⟩
theorem bU(he:PE X e (qW X.K H0 de))(hs:Ir e none pos.line X.env=pure false:=by rfl):PS X (.Expr e pos) (mK X.K H0 (O2 de)):=by
 refine PS.impD (rR he hs) λD σ H h=>?_
 obtain ⟨S,T,δ,P,rfl,hS,hT,hA,hd,k1,k2,k3,k4⟩:=h
 refine ⟨S,T,δ,_,rfl,hS,hA,hd,λx δ' v F S' H' e1 e2 hA' p=>?_⟩
 rw[<- e1]
 exact k1 δ' S' H' e2 hA'.drop p
theorem yJ{i:Nat}{x:Str}{pos':Pos}(hN:X.N.Nodup)(hi:X.N[i]? = some x)(hx:Loc X.env.scope x)(he:PE X e (qW X.K H0 de))(hs:Ir e (some (.Name x pos')) pos.line X.env=pure false:=by rfl)(hf:X.fn x=true\/X.env.scope.names.lookup x=some .local:=by first | exact .inl rfl | exact .inr rfl | assumption):PS X (.Assign [.Name x pos'] e pos) (mK X.K H0 (mH de (aO i))):=by
 refine PS.impD (Na hN hi hx he hs hf) λD σ H h=>?_
 obtain ⟨S,T,δ,P,rfl,hS,hT,hA,hd,k1,k2,k3,k4⟩:=h
 refine ⟨S,T,δ,_,rfl,hS,hA,hd,λx δ' v F S' H' e1 e2 hA' p=>?_⟩
 exact nZ _ _ _ _ ⟨H0,_,S',T,δ',x,F,P.nx,e1,e2,hA',p,λδ2 S2 H2 e3 hA2 q=>k1 δ2 S2 H2 e3 hA2 q⟩
theorem IU(h:E2 X tg e di):PI X tg e (FR X.K H0 di):=PI.imp h λσ H R ⟨S,T,δ,P,z⟩=>⟨H0,_,S,T,δ,P,z⟩
theorem CB(h:PE X e (qW X.K H0 de)):PI X tg e (FR X.K H0 (dL de)):=by
 refine PI.imp (qX h) λσ H R h=>?_
 obtain ⟨S,T,δ,P,rfl,hS,hA,hd,k⟩:=h
 refine ⟨S,T,δ,_,rfl,hS,hA,hd,λx δ1 v F S1 H1 e1 e2 hA1 p1=>?_⟩
 split at p1
 ·obtain ⟨a,xs,G,rfl,ha,ra,rfl,hz⟩:=(hA1.told mem_mid).list_inv
  exact ⟨a,rfl,⟨xs,Za.of ha⟩,k _ _ δ1 _ [_] S1 H1 e1 e2 ((hA1.mid.wk (iU _)).tomid) fE hz p1⟩
 ·exact p1.elim
theorem pA(hc:Kb X (.type T) r)(o:Qu X.K r rd)(hg:Gl X x)(hm:X.mg x=none)(hv:Hw x=some (.type T))(ha:PA X (e::es) (BJ X.K H0 da))(hn:x ≠ "__name__" := by decide)(hdb:(x == ("__debug__" : Str))=false:=by decide)(he:Bf (e::es) X.env=(false,eval e X.env)::Bf es X.env:=by rfl)(hpl:(Gn pos (Bf es X.env)).any (·.1)=false:=by rfl):PE X (.Call (.Name x p) (e::es) [] pos) (qW X.K H0 (BF rd da)) :=
 PE.imp (Su hc hg hm hv ha hn hdb he hpl) (Y1 o)
end
section
variable{P:Bh}{w:World}{K:PySem.W.Frag}{mg:Str->Option Value}{base:Heap}{N:List Str}{qual:Str}{scopeD:Scope}{f:Addr}{cd:Value}{A:Cr}{outer:List Env}{sD:Ah}{HD H0:Hp}{E:XK}
variable{X:Cx}{elt iter:Expr}{x:Str}{px pos:Pos}{ifs:List Expr}{scope:Scope}{cl:List (Str×Addr)}{ys:List Str}{js:List Nat}{di:DI}{dc:DT}{de:DE}
theorem aZ(hX0:X=Hq (Mh P w) P w K mg base N qual scopeD f cd A outer sD HD E)(C:CompScope X scope cl x ys js)(hc:X.calm=true)(hi:PI X (.Name x px) iter (FR X.K H0 di))(ht:∀fp s H,pT (Er X scope cl (x::ys) fp s H) ifs (LT X.K dc))(he:∀fp s H,BOk X.stack HD sD fp s H->PE ((Er X scope cl (x::ys) fp s H).wish (BH P w X.stack HD sD E s.heap.objs.size)) elt (qW X.K H0 de))(hs:∀x,Ez iter X.env x=pure x:=by intro _; rfl):PE X (.ListComp elt [⟨.Name x px,iter,ifs,0⟩] scope pos) (qW X.K H0 (zN di js dc de)) :=
 PE.imp (xX hX0 C hc hi ht he hs) (tR (b:=true))
theorem oM{Ex:Addr->Prop}{C:Addr}{x:Str}{np cpos pos tp tp2 fp jp:Pos}{t1 t2:Str}{z:Int}{e:Expr}{j j2:Nat}(hE:∀C H',Ex C->Nh HD H'->E (.ref C) none H')(hg:Gl (Hq (Mh P w) P w K mg base N qual scopeD f cd A outer sD HD E) x)(hm:mg x=some (.ref C))(hc:PySem.W.excIn K C pE "ValueError.__new__" = true)(hz:PE (Hq (Mh P w) P w K mg base N qual scopeD f cd A outer sD HD E) e (tC (.int z)))(z0:z.natAbs.log2<1920)(l1:t1.length<=1000)(l2:t2.length<=1000)(l3:Ho (Yq z:Str)<=1000)(hd:(x == ("__debug__" : Str))=false:=by decide):PS (Hq (Mh P w) P w K mg base N qual scopeD f cd A outer sD HD E) (.Raise (some (.Call (.Name x np) [.JoinedStr [.Constant (.str t1) j tp,.FormattedValue e (-1) none fp,.Constant (.str t2) j2 tp2] jp] [] cpos)) none pos) (mK K HD (pF Ex C)):=by
 refine PS.impD (mU hg hm hc (Eb (wV Xt (Y5 hz) Xt) Jk) hd) λD σ H1 h=>?_
 obtain ⟨S,T,δ,Q,rfl,hS,hT,hA,hd,_⟩:=h
 exact ⟨t1,rfl,by omega,z,rfl,z0,_,rfl,by omega,t2,rfl,by omega,λ_=>⟨(by show 1<=Ax; decide),hE C H1 hd (yZ hA)⟩⟩
end
end DL
namespace DL
open PySem L2 Nd
def sub(a b:List Int):Bool:=a.all λi=>decide (i∈b)
theorem V8{h:Int}{a:List Int}(r:Dt h a):a.Nodup:=r.1.imp λ{x y} h=>Int.ne_of_lt h
theorem uK{a:List Int}(nd:a.Nodup)(h:∀x∈a,0<=x/\x<60):a.length<=60:=Ba (NdS.len_leI nd λe he=>Zr (h e he).1 (h e he).2) (by decide)
theorem Jy(a:Int){b:Int}(h:0<b):0<=a % b/\a % b<b:=Zk a b h
def cD:DF:=λds n R=>∃h:Int,ds=[.int h]/\0<h/\h<=60/\n<=90000/\∀ns n',n<=n'->n'<=n+10->Dt h ns->R (Co ns) n'
end DL
namespace Nd
open PySem L2 Ts
end Nd
namespace Nd
open PySem L2
def ch:Nat->Nat->Nat
 | _,0=>1
 | 0,_+1=>0
 | n+1,k+1=>ch n k+ch n (k+1)
def cw:Nat->Int->Nat->List (List Int)
 | _,_,0=>[[]]
 | 0,_,_+1=>[]
 | d+1,p,m+1=>(cw d (p+1) m).map (p::·)++cw d (p+1) (m+1)
end Nd
namespace DL
open PySem L2 Nd
def pairD(p:Nat×Nat):Ad:=.tuple [.int p.1,.int p.2]
instance {p:Nat×Nat}:Im (pairD p):=⟨(inferInstance:Im (.tuple [.int p.1,.int p.2])).h⟩
instance {p:Nat×Nat}:Dp (pairD p) 1:=⟨(inferInstance:Dp (.tuple [.int p.1,.int p.2]) 1).h⟩
def O7(p:Nat×Nat×List Int):Ad:=.tuple [.int p.1,.int p.2.1,Co p.2.2]
instance {p:Nat×Nat×List Int}:Im (O7 p):=⟨(inferInstance:Im (.tuple [.int p.1,.int p.2.1,Co p.2.2])).h⟩
instance {p:Nat×Nat×List Int}:Dp (O7 p) 2:=⟨(inferInstance:Dp (.tuple [.int p.1,.int p.2.1,Co p.2.2]) 2).h⟩
end DL
namespace DRow
open PySem L2 Nd DL
def Yz(w u:List Int):Bool:=w.all λi=>decide (i∈u)
def AI(n1 n2:List Int)(ps:List (List Int×Bool)):Option Bool:=ps.foldl (λst p=>if Yz p.1 n1=Yz p.1 n2 then st else some (Yz p.1 n1 == !p.2)) none
theorem A6(n1 n2:List Int)(ps:List (List Int×Bool))(p:List Int×Bool):AI n1 n2 (ps++[p])=if Yz p.1 n1=Yz p.1 n2 then AI n1 n2 ps else some (Yz p.1 n1 == !p.2):=by
 unfold AI
 rw[List.foldl_append]
 rfl
def bH(ps:List (List Int×Bool))(n:List Int):List Int:=ps.reverse.map λp=>if Yz p.1 n=p.2 then 1 else 0
theorem eT(ps:List (List Int×Bool))(p:List Int×Bool)(n:List Int):bH (ps++[p]) n=(if Yz p.1 n=p.2 then 1 else 0)::bH ps n:=by
 unfold bH
 rw[List.reverse_append,Bd]
 rfl
theorem yS{α:Type}{P:List α->Prop}(h0:P [])(h1:∀l x,P l->P (l++[x]))(l:List α):P l:=by
 have : ∀m:List α,P m.reverse:=λm=>by
  induction m with
  | nil=>exact h0
  | cons x m ih=>rw[List.reverse_cons]; exact h1 _ _ ih
 have:=this l.reverse
 rwa [List.reverse_reverse] at this
theorem xS(n1 n2:List Int)(ps:List (List Int×Bool)):(AI n1 n2 ps=none↔bH ps n1=bH ps n2)/\(AI n1 n2 ps=some true↔HT.lexLt (bH ps n1) (bH ps n2)=true):=by
 induction ps using yS with
 | h0=>exact ⟨⟨λ_=>rfl,λ_=>rfl⟩,⟨λh=>(by cases h),λh=>(by cases h)⟩⟩
 | h1 l p ih =>
  rw[A6,eT,eT,HT.lexLt_cons]
  by_cases h:Yz p.1 n1=Yz p.1 n2
  ·rw[if_pos h,h,if_pos rfl]
   refine ⟨ih.1.trans ⟨λe=>by rw[e],λe=>(Le e).2⟩,ih.2⟩
  ·rw[if_neg h]
   cases h1:Yz p.1 n1 <;> cases h2:Yz p.1 n2 <;> cases h3:p.2 <;> rw[h1,h2] at h <;> first | exact absurd rfl h | simp
theorem oV(x y:List Int)(ps:List (List Int×Bool)):AI x y ps=some false↔(¬ bH ps x=bH ps y/\¬ HT.lexLt (bH ps x) (bH ps y)=true):=by
 rw[<- (xS x y ps).1,<- (xS x y ps).2]
 cases AI x y ps with
 | none=>simp
 | some b=>cases b <;> simp
abbrev Ps:=List Int×Bool
def Mz(p:Ps):Ad:=.tuple [Co p.1,.str (Ug p.2)]
instance {p:Ps}:Im (Mz p):=⟨(inferInstance:Im (.tuple [Co p.1,.str (Ug p.2)])).h⟩
instance {p:Ps}:Dp (Mz p) 2:=⟨(inferInstance:Dp (.tuple [Co p.1,.str (Ug p.2)]) _).h⟩
theorem L9(b c:Bool):(Ug b == Ug c)=decide (b=c):=by cases b <;> cases c <;> decide
theorem yK(p q:Ps):Ds (Mz p) (Mz q)=decide (p=q):=by
 unfold Mz
 rw[rW,eI,eI,zA,Rv,eqD_str,L9,Bool.and_true]
 obtain ⟨a,b⟩:=p
 obtain ⟨c,d⟩:=q
 by_cases h1:a=c <;> by_cases h2:b=d <;> simp [h1,h2]
instance {α:Type} {f:α->Ad} {l:List α} {lo hi:Option Int} [h:∀a,Im (f a)]:ImA (Ls (l.map f) lo hi):=⟨by rw[lH]; exact IS⟩
end DRow
namespace K82
open PySem L2 Nd DL
local macro_rules | `(tactic| array_get_dec) => do
  let ids:=(("e_lenS e_ixS e_tx e_txB e_inS e_notInS e_intS e_join e_joinB e_joinC e_split e_splitB e_splitC e_prt e_prtB e_prtC e_slS e_slC e_mulS e_find e_findB e_findC e_lenSet e_lsB e_seq e_skip e_ret e_expr e_if e_asg e_name e_name2 e_name3 e_name4 e_own e_nT e_gtup e_gsn e_gsc e_op e_var e_c e_imm e_immB e_take e_I e_I0 e_eqF e_eqT e_inFl e_inTl e_inTt e_isNF e_isNT e_ixl e_cat e_catT_w1 e_catS e_ntT e_pkOfsh e_pkOfow e_mdInpk e_mdInsh e_mdInow e_mdItsh e_mdIttp e_mdItow e_nil e_cons e_tup e_lst e_noPart e_part e_partB e_sl e_slBt_w1 e_cb e_lenl e_tuplel e_intb e_all e_isi e_str e_v e_b e_bB e_notT e_andT e_andTt e_andTf e_orT e_orTt e_orTf e_not e_notB e_and e_andt e_ifE e_ifEt e_ifEf e_neg e_negB e_dL e_dTp e_lB e_tpB_w1 e_range1 e_rng1B e_for e_comp e_comp2 e_compD e_noTest e_step e_stepT e_stepF e_yesB e_stepD e_stepDT e_yesBD e_call e_callW e_draws e_drawsB e_append e_setI e_scrSl e_callX e_raise e_callA e_ssT e_ssTt callXB callAB retA retA_sh callB callBW tupB lstB datas pkMd allOw noPk appB setB own1 npk retE retW retL args0 frD frD1 alD List.map_cons List.map_nil List.replicate List.getElem?_cons_zero List.getElem?_cons_succ List.set_cons_zero List.set_cons_succ List.cons_append List.nil_append Option.map_some List.length_cons List.length_nil List.append_nil rdAdd rdSub rdMul rdDiv rdMod rdLt rdLe rdGt rdGe if_true if_false Bool.false_eq_true Nat.reduceAdd Nat.reduceSub Nat.reduceLeDiff true_and im_e ima_e dp_e dpa_e any_word eqD_intd eqD_bl eqD_str eqD_l0 ow_e tt_e cdiv_e cmul_l Int.reduceLT Int.reduceLE Nat.reduceLT Int.reduceNeg and_self and_true Int.reduceToNat fold_w isi_ib isi_ii isi_wt Bool.not_true Bool.not_false String.reduceEq or_true true_or List.isEmpty_nil ifB_lt ifB_lf isi_ss str_self decide_false Int.reduceEq dec_self isE_cons catL_owtp catL_show" : String).splitOn " ").toArray.map λ(x:String)=>Lean.mkIdent x.toName
  `(tactic| try simp only [$[↓$ids:ident],*])
open DRow
def Om(i:Int):Str:=Ro (.int i)
def CO(n:Nat):Bool:=let z:=Om (n:Int); let l:=z.cps.toList
 decide (l.length<=2) && decide (1<=l.length) && l.all (λc=>decide (48<=c) && decide (c<=57)) && (decide (l[0]?≠some 48) || decide (l=[48])) && decide (Ui z=some (n:Int))
theorem E4:∀n:Fin 60,CO n.1=true:=by decide +kernel
def GS(c:Nat):Prop:=48<=c/\c<=57
structure NumOk(i:Int):Prop where
 len:(Om i).length<=2
 pos:1<=(Om i).length
 dg:∀c∈(Om i).cps.toList,GS c
 nz:(Om i).cps.toList[0]? = some 48->Om i = "0"
 val:Ui (Om i)=some i
theorem vJ{i:Int}(h0:0<=i)(h1:i<60):NumOk i:=by
 obtain ⟨n,rfl⟩:=Int.eq_ofNat_of_zero_le h0
 have h:=E4 ⟨n,by omega⟩
 unfold CO at h
 simp only[Di,decide_eq_true_eq,Bool.or_eq_true,List.all_eq_true,Ag] at h
 obtain ⟨⟨⟨⟨a,b⟩,c⟩,d⟩,e⟩:=h
 refine ⟨a,b,λx hx=>c x hx,λz=>?_,e⟩
 rcases d with d | d
 ·exact absurd z d
 ·exact Jt (d.trans (by decide +kernel))
def wt(w:List Int):Str:=if w=[] then "-" else Bn "," (w.map Om)
def Ng(l:List Str):Str:=if l=[] then "none" else Bn " " l
def Lr(b:Bool):Str:=if b=true then ":b" else ":f"
def pt(p:DRow.Ps):Str:=wt p.1++Lr p.2
def BE(c:Nat):Prop:=c=44\/c=45\/GS c
theorem Hf(a b:Str):(a++b).cps.toList=a.cps.toList++b.cps.toList:=by
 show (a.cps++b.cps).toList=_
 exact Array.toList_append
theorem Ve(a b:Str):(a++b).length=a.length+b.length:=by
 show (a.cps++b.cps).size=_
 exact Array.size_append
theorem Xq{sep:Str}{c:Nat}:∀{ps:List Str},c∈(Bn sep ps).cps.toList->c∈sep.cps.toList\/∃p∈ps,c∈p.cps.toList
 | [],h=>by
  rw[Builtin.Str.glued.eq_1] at h
  exact nomatch h
 | p::R,h=>by
  rw[Pz] at h
  rcases Aw.mp h with h | h
  ·exact .inr ⟨p,Aa,h⟩
  ·obtain ⟨q,hq,h⟩:=Jo.mp h
   rcases Aw.mp h with h | h
   ·exact .inl h
   ·exact .inr ⟨q,Ae _ hq,h⟩
theorem Pe{sep:Str}{k:Nat}{ps:List Str}(h:∀p∈ps,p.length+sep.length<=k):(ps.map λx=>x.length+sep.length).sum<=k * ps.length:=by
 induction ps with
 | nil=>simp
 | cons p ps ih =>
  rw[Ar,Wq,Bq,Nat.mul_succ]
  have:=h p Aa
  have:=ih λq hq=>h q (Ae _ hq)
  omega
theorem pI{sep p:Str}{R:List Str}(h:1<=p.length):(Bn sep (p::R)).cps.toList[0]? = p.cps.toList[0]?:=by
 rw[Pz,Jx (by rw[Ag]; exact h)]
structure WtOk(w:List Int):Prop where
 len:(wt w).length<=180
 pos:1<=(wt w).length
 ch:∀c∈(wt w).cps.toList,BE c
 hd:∃c,(wt w).cps.toList[0]? = some c/\BE c
 ne:w≠[]->wt w ≠ "-"
theorem Wa{w:List Int}(r:Dt 60 w):WtOk w:=by
 have l60:=Qj r
 by_cases e:w=[]
 ·subst e
  have e:wt [] = "-" := rfl
  rw[show WtOk []=WtOk [] from rfl]
  refine ⟨by rw[e]; decide +kernel,by rw[e]; decide +kernel,λc hc=>?_,⟨45,by rw[e]; decide +kernel,.inr (.inl rfl)⟩,λz=>absurd rfl z⟩
  rw[e,show (Lm "-").toList=[45] by decide +kernel] at hc
  exact .inr (.inl (Af.mp hc))
 ·obtain ⟨i,v,rfl⟩:=Jm e
  have hw:wt (i::v)=Bn "," (Om i::v.map Om):=by
   unfold wt
   rw[if_neg e]
   rfl
  have nk:∀j∈i::v,NumOk j:=λj hj=>vJ (r.2 j hj).1 (r.2 j hj).2
  have ni:=nk i Aa
  have sl:=Vu "," (Om i::v.map Om)
  have s2:=Pe (sep := ",") (k:=3) (ps:=Om i::v.map Om) λp hp=>by
   have lc:Ho "," = 1:=by decide +kernel
   rw[<- Ar] at hp
   obtain ⟨j,hj,rfl⟩:=Ci.mp hp
   have:=(nk j hj).len
   omega
  rw[<- Ar,Ab] at s2
  have ch:∀c∈(wt (i::v)).cps.toList,BE c:=λc hc=>by
   rw[hw] at hc
   rcases Xq hc with hc | ⟨p,hp,hc⟩
   ·rw[show (Lm ",").toList=[44] by decide +kernel] at hc
    exact .inl (Af.mp hc)
   ·rw[<- Ar] at hp
    obtain ⟨j,hj,rfl⟩:=Ci.mp hp
    exact .inr (.inr ((nk j hj).dg c hc))
  have hd:(wt (i::v)).cps.toList[0]? = (Om i).cps.toList[0]?:=by rw[hw,pI ni.pos]
  obtain ⟨c,hc⟩ : ∃c,(Om i).cps.toList[0]? = some c:=⟨_,Dg (by rw[Ag]; exact ni.pos)⟩
  have dc:=ni.dg c (Ay hc)
  refine ⟨by rw[hw]; rw[Ar] at s2; omega,?_,ch,⟨c,by rw[hd,hc],.inr (.inr dc)⟩,λ_ z=>?_⟩
  ·have : 0<(wt (i::v)).cps.toList.length:=by
    rw[hc] at hd
    exact (Av.mp hd).1
   rw[Ag] at this
   exact this
  ·rw[z,hc,show (Lm "-").toList[0]? = some 45 by decide +kernel] at hd
   injection hd with hd
   have:=dc.1
   omega
theorem F8{w:List Int}(r:Dt 60 w){c:Nat}(h:¬ BE c):tI c (wt w):=λz=>h ((Wa r).ch c z)
theorem kS{w:List Int}(r:Dt 60 w):Jz (wt w):=λc hc=>by
 rcases (Wa r).ch c hc with h | h | h
 ·omega
 ·omega
 ·have:=h.2; omega
open DRow
theorem fI{i:Int}:Mi (.int i)=1:=by cases i <;> simp [Mi]
def Zl:PF:=λds R=>∃w:List Int,ds=[Co w]/\Dt 60 w/\R (.str (wt w))
def gQ(z:Str):Prop:=Jz z/\tI 32 z/\∃c,z.cps.toList[0]? = some c/\BE c
theorem zQ{i:Int}(h0:0<=i)(h1:i<60):∃b,b<=400/\Po b (.int i)/\(b+12) * Mi (.int i)<=Ax:=⟨12,by decide,by rw[Po]; omega,by rw[fI]; exact sz (by decide)⟩
theorem dP:(Lm ",").toList=[44]:=by decide +kernel
theorem fA:(Lm " ").toList=[32]:=by decide +kernel
theorem sR:(Lm ":").toList=[58]:=by decide +kernel
theorem Pd:Ho "," = 1:=by decide +kernel
theorem Ie:Ho " " = 1:=by decide +kernel
theorem Tj:Ho ":" = 1:=by decide +kernel
theorem eE:Jz "," := λc hc=>by
 rw[dP] at hc
 rw[Af.mp hc]
 decide
theorem Xl:Jz " " := λc hc=>by
 rw[fA] at hc
 rw[Af.mp hc]
 decide
theorem J0{w:List Int}(r:Dt 60 w):((w.map Om).map λx=>x.length+Ho ",").sum<=1000000:=by
 have l60:=Qj r
 have:=Pe (sep := ",") (k:=3) (ps:=w.map Om) λp hp=>by
  obtain ⟨j,hj,rfl⟩:=Ci.mp hp
  have:=(vJ (r.2 j hj).1 (r.2 j hj).2).len
  rw[Pd]
  omega
 rw[Ab] at this
 omega
theorem F9{w:List Int}(e:w≠[]):wt w=Bn "," (w.map Om):=if_neg e
theorem yN{d:Ad}:(∃s,d=.str s)\/(Ua d "str" = false/\∀s,d≠.str s):=by
 cases d with
 | str ds=>exact .inl ⟨ds,rfl⟩
 | _=>exact .inr ⟨by simp [Ua,w4],by simp⟩
theorem Od{a b:Str}:(a == b)=decide (a=b):=by
 by_cases h:a=b
 ·rw[decide_eq_true h,h]; simp
 ·rw[decide_eq_false h]; exact beq_false_of_ne h
def Tw(z c:Str):List Str:=Do z (Bg z c 0 z.length (z.length+1)) c.length
def Rk(c:Nat):Bool:=decide (48<=c) && decide (c<=57)
def Jb(z:Str):Bool:=decide (1<=z.length) && decide (z.length<=20) && z.cps.toList.all Rk && (decide (z.cps.toList[0]?≠some 48) || decide (z = "0"))
def tU(z:Str):Option Int:=if Jb z=true then some (Fe z.cps.toList:Nat) else none
inductive A2 {α β:Type} (r:α->β->Prop):List α->List β->Prop
 | nil:A2 r [] []
 | cons {a:α} {b:β} {as:List α} {bs:List β}:r a b->A2 r as bs->A2 r (a::as) (b::bs)
theorem A2.len{α β:Type}{r:α->β->Prop}{as:List α}{bs:List β}(h:A2 r as bs):as.length=bs.length:=by
 induction h with
 | nil=>rfl
 | cons _ _ ih=>rw[Bq,Bq,ih]
theorem A2.snoc{α β:Type}{r:α->β->Prop}{as:List α}{bs:List β}{a:α}{b:β}(h:A2 r as bs)(k:r a b):A2 r (as++[a]) (bs++[b]):=by
 induction h with
 | nil=>exact .cons k .nil
 | cons x _ ih=>exact .cons x ih
theorem A2.one{α β:Type}{r:α->β->Prop}(f:∀a b b',r a b->r a b'->b=b'){as:List α}{bs bs':List β}(h:A2 r as bs)(k:A2 r as bs'):bs=bs':=by
 induction h generalizing bs' with
 | nil=>cases k; rfl
 | cons x _ ih =>
  cases k with
  | cons y t=>rw[f _ _ _ x y,ih t]
theorem A2.mem{α β:Type}{r:α->β->Prop}{as:List α}{bs:List β}(h:A2 r as bs):∀a∈as,∃b∈bs,r a b:=by
 induction h with
 | nil=>exact λa z=>nomatch z
 | cons x _ ih =>
  intro a ha
  rcases Ap.mp ha with rfl | ha
  ·exact ⟨_,Aa,x⟩
  ·obtain ⟨b,hb,k⟩:=ih a ha
   exact ⟨b,Ae _ hb,k⟩
def Xu(z:Str)(i:Int):Prop:=tU z=some i
def RW(h:Int)(z:Str)(w:List Int):Prop:=(z = "-" /\ w=[])\/(z ≠ "-" /\ A2 Xu (Tw z ",") w/\Dt h w)
theorem RW.one{h:Int}{z:Str}{w w':List Int}(a:RW h z w)(b:RW h z w'):w=w':=by
 rcases a with ⟨e,rfl⟩ | ⟨e,a,_⟩ <;> rcases b with ⟨e',rfl⟩ | ⟨e',b,_⟩
 ·rfl
 ·exact absurd e e'
 ·exact absurd e' e
 ·exact a.one (λ_ _ _ x y=>Br (x.symm.trans y)) b
def Xj(z:Str):Prop:=Jz z/\z.length<=20000
def rG:PF:=λds R=>∃i:Int,ds=[.int i]/\R (.bool true)
def jW:PF:=λds R=>∃(h:Int) (w:List Int),ds=[.int h,Co w]/\(Dt h w->R (.bool true))/\(¬ Dt h w->R (.bool false))
section
variable{P:Bh}{w:World}{K:PySem.W.Frag}{mg:Str->Option Value}{base:Heap}
theorem lA:FnScope ["thing"] ["thing"] (Bj Us):=⟨rfl,rfl,rfl,by decide +kernel,rfl,by decide +kernel,by decide +kernel⟩
theorem mB{f   : Addr}{fd  : Bz}(F:Fun K "is_whole" "is_whole" Us f fd)(mz_bool:mg "bool" = none)(mz_isinstance:mg "isinstance" = none)(mz_int:mg "int" = none):FnOk P w K mg base Ik 1 f fd ["thing"] (Zt K (rG)):=by
 refine' Oc (k:=0) F lA (λcdv A outer s H E hr=>?hb) ?h
 case hb =>
  have hu64:=hr.units
  exact Cu (Ek (AY (Gg Xr Xw rfl mz_isinstance (by decide +kernel) (Ak (Am (pv 0)) (Ak (eU (n := "int") rfl mz_int (by decide +kernel)) Au))) (U2 (T9 (Gg Xr Xw rfl mz_isinstance (by decide +kernel) (Ak (Am (pv 0)) (Ak (eU (n := "bool") rfl mz_bool (by decide +kernel)) Au)))))))
 case h =>
  (intro ds R q_; obtain ⟨i,rfl,hR⟩ := q_)
  refine ⟨rfl,?_⟩
  array_get_dec
  exact hR
theorem oO:FnScope ["holes", "thing", "least", "place"] ["holes", "thing"] (Bj Wx):=⟨rfl,rfl,rfl,by decide +kernel,rfl,by decide +kernel,by decide +kernel⟩
theorem nW{f f_is_whole  : Addr}{fd d_is_whole:Bz}(F:Fun K "is_word" "is_word" Wx f fd)(G_is_whole:FnOk P w K mg base Ik 1 f_is_whole d_is_whole ["thing"] (Zt K (rG)))(b_is_whole:Binds K d_is_whole ["thing"] [])(k_is_whole:PySem.W.keepIn K (.ref f_is_whole)=true)(m_is_whole:mg "is_whole" = some (.ref f_is_whole))(mz_tuple:mg "tuple" = none)(mz_isinstance:mg "isinstance" = none):FnOk P w K mg base Ik 2 f fd ["holes", "thing"] (Zt K (jW)):=by
 refine' Oc (k:=1) F oO (λcdv A outer s H E hr=>?hb) ?h
 case hb =>
  have hr1:Room 1 _:=hr.mono (by decide)
  have hu64:=hr.units
  exact Bt (Hs (Wz (Xk (Gg Xr Xw rfl mz_isinstance (by decide +kernel) (Ak (Am (pv 1)) (Ak (eU (n := "tuple") rfl mz_tuple (by decide +kernel)) Au)))))
   (Cu (Ek Yc)) Eu)
   (Bt (Dz (i:=2) oO.nd rfl (Ce rfl) Bu)
   (Bt (Ma Ew rfl (HZ (Am (pv 1))) (Hz (i:=3) oO.nd rfl (Ce rfl))
   (Bt (Hs (Yy (Wg (Wz (Xk (Hm G_is_whole hr1 rfl m_is_whole k_is_whole b_is_whole Fh (Ak (Am (pv 3)) Au)))) (Wg (i6 (Am (pv 3)) (Am (pv 2))) (bI (S9 (Am (pv 3)) (Am (pv 0)))))))
    (Cu (Ek Yc)) Eu)
    (Cu (Dz (i:=2) oO.nd rfl (Ce rfl) (Qo (Am (pv 3)) Bu)))))
   (Cu (Ek Yc))))
 case h =>
  (intro ds R q_; obtain ⟨h,w,rfl,hT,hF⟩ := q_)
  refine ⟨rfl,?_⟩
  array_get_dec
  refine Uq (l:=w) (g:=Bs) rfl (λi δ=>(∃(least:Int) (v3:DV),δ=⟨[.dat .sh (.int h),.dat .sh (Co w),.dat .sh (.int least),v3],0⟩/\NP v3/\(least=0\/∃j:Nat,j<i/\w[j]? = some (least - 1))/\(∀(j:Nat) (x:Int),j<i->w[j]? = some x->x<least)/\0<=least)/\Dt h (w.take i)) ?_ ?_ ?_
  ·exact ⟨⟨_,_,rfl,Gy,.inl rfl,(λj x z=>absurd z (Fc _)),Int.le_refl _⟩,Dt.nil _⟩
  ·(intro i p _ hp q_; obtain ⟨⟨least,v3,rfl,hv3,hl,hx,hl0⟩,r⟩ := q_)
   obtain ⟨i1,i2⟩:=Av.mp hp
   array_get_dec
   refine ⟨p,rfl,?_⟩
   array_get_dec
   refine eR (λq=>?_) (λq=>?_)
   ·have q:p<least:=of_decide_eq_true q
    array_get_dec
    refine hF λz=>?_
    rcases hl with rfl | ⟨j,hj,ej⟩
    ·have:=z.2 p (Ay hp); omega
    ·obtain ⟨j1,j2⟩:=Av.mp ej
     have:=Jw.mp z.1 j i j1 i1 hj
     rw[i2,j2] at this
     omega
   have q:¬ p<least:=of_decide_eq_false q
   array_get_dec
   refine Rp (λq2=>?_) (λq2=>?_)
   ·have q2:=of_decide_eq_true q2
    array_get_dec
    exact hF λz=>by have:=z.2 p (Ay hp); omega
   have q2:=of_decide_eq_false q2
   array_get_dec
   refine ⟨⟨_,_,rfl,Ej,.inr ⟨i,by omega,by rw[hp,Int.add_sub_cancel]⟩,λj x hj ex=>?_,by omega⟩,?_⟩
   ·by_cases z:j=i
    ·subst z
     rw[hp] at ex
     cases ex
     omega
    ·have:=hx j x (by omega) ex; omega
   ·rw[Ky i1,i2]
    refine ⟨Dw.mpr ⟨r.1,Gk _ _,λa ha b hb=>?_⟩,λx hx'=>?_⟩
    ·obtain ⟨j,hj,ej⟩:=Pr.mp ha
     have:=hx j a (by omega) (by rw[Dg (by omega),ej])
     rw[Af.mp hb]
     omega
    ·rcases Aw.mp hx' with z | z
     ·exact r.2 x z
     ·rw[Af.mp z]; omega
  ·(intro _ q_; obtain ⟨⟨least,v3,rfl,hv3,hl,hx,hl0⟩,r⟩ := q_)
   rw[Dr] at r
   array_get_dec
   exact hT r
end
open DRow
def iZ(CN:Addr):PX:=λds R Ex=>∃d,ds=[d]/\((∃z,d=.str z)->R .none)/\((∀z,d≠.str z)->Ex CN)
def j9(CN:Addr):PX:=λds R Ex=>∃z,ds=[.str z]/\Xj z/\(∀i,Xu z i->R (.int i))/\((∀i,¬ Xu z i)->Ex CN)
def Zh(CN:Addr):PX:=λds R Ex=>∃(h:Int) (d:Ad),ds=[.int h,d]/\h<=60/\(∀z,d=.str z->Xj z)/\(∀z w,d=.str z->RW h z w->R (Co w))/\((∀z w,d=.str z->¬ RW h z w)->Ex CN)
section
variable{P:Bh}{w:World}{K:PySem.W.Frag}{mg:Str->Option Value}{base:Heap}
theorem dI:FnScope ["thing"] ["thing"] (Bj Qg):=⟨rfl,rfl,rfl,by decide +kernel,rfl,by decide +kernel,by decide +kernel⟩
theorem cZ{f  CN:Addr}{fd  : Bz}(F:Fun K "check_text" "check_text" Qg f fd)(mz_str:mg "str" = none)(mz_isinstance:mg "isinstance" = none)(m_NoText:mg "NoText" = some (.ref CN))(e_NoText:PySem.W.excIn K CN pE "ValueError.__new__" = true):FnOk P w K mg base (Mh P w) 1 f fd ["thing"] (Yd K (iZ CN)):=by
 refine' Kg (k:=0) F dI (λcdv A outer s H E Ex hr hE=>?hb) ?h
 case hb =>
  have hu64:=hr.units
  exact Gm (Ol (Wz (Xk (Gg Xr Xw rfl mz_isinstance (by decide +kernel) (Ak (Am (pv 0)) (Ak (eU (n := "str") rfl mz_str (by decide +kernel)) Au))))) (Gm (Ph hE rfl m_NoText e_NoText)) (dF Eu))
 case h =>
  (intro ds R Ex q_; obtain ⟨d,rfl,hR,hX⟩ := q_)
  refine ⟨rfl,?_⟩
  array_get_dec
  rcases yN (d:=d) with ⟨z,rfl⟩ | ⟨e,ne⟩
  ·array_get_dec
   exact hR ⟨z,rfl⟩
  ·rw[e]
   array_get_dec
   exact hX ne
end
theorem rE:∀n:Fin 128,(!(Bg "0123456789" ⟨#[n.1]⟩ 0 (Ho "0123456789") 1).isEmpty)=Rk n.1:=by decide +kernel
theorem BL{z:Str}{i:Int}:Xu z i↔Jb z=true/\i=(Fe z.cps.toList:Nat):=by
 unfold Xu tU
 by_cases h:Jb z=true
 ·rw[if_pos h]
  exact ⟨λe=>⟨h,(Br e).symm⟩,λe=>by rw[e.2]⟩
 ·rw[if_neg h]
  exact ⟨(λe=>nomatch e),λe=>absurd e.1 h⟩
theorem AA{z:Str}(h:Jb z=false):∀i,¬ Xu z i:=λi k=>by
 have:=(BL.mp k).1
 rw[h] at this; cases this
theorem L3{z:Str}(a1:1<=z.length)(a2:z.length<=20)(h:z.cps.toList.all Rk=true):Ui z=some (Fe z.cps.toList:Nat):=by
 refine intText_digits (λc hc=>?_) (λe=>?_) (by omega)
 ·have:=Jp.mp h c hc
  unfold Rk at this
  simp only[Di,decide_eq_true_eq] at this
  exact this
 ·have : z.cps.toList.length=z.length:=Ag
  rw[e] at this
  simp at this
  omega
theorem Q2{z:Str}{c:Nat}(h:z.cps.toList[0]? = some c):((⟨#[c]⟩ : Str) == ("0" : Str))=decide (z.cps.toList[0]? = some 48):=by
 rw[h,Od]
 refine decide_eq_decide.mpr ⟨λe=>?_,λe=>?_⟩
 ·have:=congrArg (λs:Str=>s.cps.toList) e
  rw[show (Lm "0").toList=[48] by decide +kernel] at this
  injection this with a
  rw[a]
 ·rw[Br e]
  decide +kernel
section
variable{P:Bh}{w:World}{K:PySem.W.Frag}{mg:Str->Option Value}{base:Heap}
theorem bX:FnScope ["text"] ["text"] (Bj Lg):=⟨rfl,rfl,rfl,by decide +kernel,rfl,by decide +kernel,by decide +kernel⟩
theorem aE{f f_check_text CN:Addr}{fd d_check_text:Bz}(F:Fun K "read_number" "read_number" Lg f fd)(G_check_text:FnOk P w K mg base (Mh P w) 1 f_check_text d_check_text ["thing"] (Yd K (iZ CN)))(b_check_text:Binds K d_check_text ["thing"] [])(k_check_text:PySem.W.keepIn K (.ref f_check_text)=true)(m_check_text:mg "check_text" = some (.ref f_check_text))(mz_all:mg "all" = none)(mz_len:mg "len" = none)(mz_int:mg "int" = none)(m_NoText:mg "NoText" = some (.ref CN))(e_NoText:PySem.W.excIn K CN pE "ValueError.__new__" = true){tkF tkM:Tok}(m_FIGURES:mg "FIGURES" = some (.str "0123456789" tkF))(m_MOST_FIGURES:mg "MOST_FIGURES" = some (.int 20 tkM)):FnOk P w K mg base (Mh P w) 2 f fd ["text"] (Yd K (j9 CN)):=by
 refine' Kg (k:=1) F bX (λcdv A outer s H E Ex hr hE=>?hb) ?h
 case hb =>
  have hr1:Room 1 _:=hr.mono (by decide)
  have hu64:=hr.units
  have CS1:∀{scope:Scope} (h:scope={ kind:=.function,names:=[(".0",.local),("sign",.local),("FIGURES",.globalImplicit)],isGenerator:=false,isCoroutine:=false }),
    CompScope (Hq (Mh P w) P w K mg base ["text"] "read_number" (Bj Lg) f cdv A outer s H E) scope [] "sign" [] []:=by
   rintro scope rfl
   exact Nd.compScope0 (by rfl) (by decide +kernel) (by rfl) (by decide +kernel) (by rfl) (by rfl)
  exact Gf (bU (Ga hE G_check_text hr1 rfl m_check_text k_check_text b_check_text Sd (Uz (Ak (Am (pv 0)) Au))))
   (Gf (Ol (Yy (Wg (i6 (Gg Kk Ql rfl mz_len (by decide +kernel) (Ak (Am (pv 0)) Au)) Bu) (Wg (xH (Gg Kk Ql rfl mz_len (by decide +kernel) (Ak (Am (pv 0)) Au)) (zT (z:=20) rfl m_MOST_FIGURES ⟨_,rfl⟩)) (bI (Wz (Xk (Gg (wO rfl) AN rfl mz_all (by decide +kernel) (Ak (Zu (CS1 rfl) rfl (nX (Am (pv 0))) (λ_ _ _=>Lq) (λ_ _ _=>Z1 (Am (pv 0)) (yU (z := "0123456789") rfl m_FIGURES ⟨_,rfl⟩))) Au)))))))) (Gm (oM hE rfl m_NoText e_NoText (Js rfl m_MOST_FIGURES ⟨_,rfl⟩) (by decide) (by decide +kernel) (by decide +kernel) (by decide +kernel))) (dF Eu))
   (Gf (Ol (Yy (Uv (Ji hu64 (Kh (Am (pv 0)) Bu) Dy) (Qe (Ub hu64 (Am (pv 0)) Dy)))) (Gm (Ph hE rfl m_NoText e_NoText)) (dF Eu))
   (Gm (W5 (Ek (Gs sF K3 rfl mz_int (by decide +kernel) (Ak (Am (pv 0)) Au)))))))
 case h =>
  (intro ds R Ex q_; obtain ⟨z,rfl,⟨hz,lz⟩,hR,hX⟩ := q_)
  refine ⟨rfl,?_⟩
  array_get_dec
  refine ⟨_,rfl,λ_=>?_,λne=>absurd rfl (ne z)⟩
  array_get_dec
  refine ⟨by omega,?_⟩
  have bad:Jb z=false->Ex CN:=λh=>hX (AA h)
  refine eR (λh1=>?_) (λh1=>?_)
  ·have h1:=of_decide_eq_true h1
   array_get_dec
   exact bad (by unfold Jb; rw[decide_eq_false (show ¬ 1<=z.length by omega)]; rfl)
  have h1:=of_decide_eq_false h1
  array_get_dec
  refine ⟨by omega,?_⟩
  refine eR (λh2=>?_) (λh2=>?_)
  ·have h2:=of_decide_eq_true h2
   array_get_dec
   exact bad (by unfold Jb; rw[decide_eq_false (show ¬ z.length<=20 by omega),Fp]; rfl)
  have h2:=of_decide_eq_false h2
  array_get_dec
  refine ⟨hz,by omega,?_⟩
  unfold signs
  refine t8 (l:=z.cps.toList) (g:=λc=>.str ⟨#[c]⟩) rfl (λc=>.bool (Rk c)) (λc hc yes no hy=>?_) ?_
  ·array_get_dec
   rw[rE ⟨c,hz c hc⟩]
   exact hy
  array_get_dec
  refine ⟨z.cps.toList.map Rk,by rw[Hl]; rfl,?_⟩
  rw[show ((z.cps.toList.map Rk).all id)=z.cps.toList.all Rk by rw[List.all_map]; rfl]
  cases h3:z.cps.toList.all Rk with
  | false =>
   array_get_dec
   exact bad (by unfold Jb; rw[h3,Fp]; rfl)
  | true =>
  array_get_dec
  obtain ⟨c,hc⟩ : ∃c,z.cps.toList[0]? = some c:=⟨_,Dg (by rw[Ag]; show 0<z.length; omega)⟩
  refine ⟨Ba lz (dA (by decide)),c,Zf (j:=0) hc,?_⟩
  array_get_dec
  rw[Q2 hc]
  have fin:Jb z=true->z.length<=640/\∃n,Ui z=some n/\R (.int n):=λok=>⟨by omega,_,L3 (by omega) (by omega) h3,hR _ (BL.mpr ⟨ok,rfl⟩)⟩
  have okd:(decide (z.cps.toList[0]?≠some 48) || decide (z = "0"))=true->Jb z=true:=λh=>by
   unfold Jb
   rw[h3,h,decide_eq_true (show 1<=z.length by omega),decide_eq_true (show z.length<=20 by omega)]
   rfl
  refine nM (λh4=>?_) (λh4=>?_)
  ·have h4:=of_decide_eq_true h4
   array_get_dec
   rw[Od]
   by_cases h5:z = "0"
   ·rw[decide_eq_true h5]
    array_get_dec
    exact fin (okd (by rw[decide_eq_true h5,Sq]))
   ·rw[decide_eq_false h5]
    array_get_dec
    exact bad (by
     unfold Jb
     rw[decide_eq_false h5,decide_eq_false (show ¬ (z.cps.toList[0]?≠some 48) from λk=>k h4),Qt,Fp])
  ·have h4:=of_decide_eq_false h4
   array_get_dec
   exact fin (okd (by rw[decide_eq_true (show z.cps.toList[0]?≠some 48 from h4)]; rfl))
end
theorem AV{z c p:Str}(hc:c.length=1)(h:p∈Tw z c):∃i j,p=Cq z i j:=by
 unfold Tw at h
 rw[Builtin.Str.partsBetween.eq_1,hc] at h
 obtain ⟨q,_,e⟩:=Ci.mp h
 exact ⟨_,_,e.symm⟩
theorem uZ{z:Str}{i j:Nat}(h:Xj z):Xj (Cq z i j):=by
 have e:=Rn z i j
 refine ⟨λc hc=>?_,?_⟩
 ·rw[e] at hc
  exact h.1 c (Mr (Va hc))
 ·have : (Cq z i j).cps.toList.length<=z.cps.toList.length:=by
   rw[e,Rc,Da]
   omega
  rw[Ag,Ag] at this
  exact Ba this h.2
theorem aN{z c:Str}(hc:c.length=1)(h:Xj z):∀p∈Tw z c,Xj p:=λp hp=>by
 obtain ⟨i,j,rfl⟩:=AV hc hp
 exact uZ h
theorem h9(z c:Str):(Tw z c).length<=z.length+2:=by
 have lo:=Rf z c 0 z.length (z.length+1)
 unfold Tw
 rw[Zx]
 omega
section
variable{P:Bh}{w:World}{K:PySem.W.Frag}{mg:Str->Option Value}{base:Heap}
theorem gN:FnScope ["holes", "text", "word"] ["holes", "text"] (Bj Oa):=⟨rfl,rfl,rfl,by decide +kernel,rfl,by decide +kernel,by decide +kernel⟩
theorem gY{f f_is_word f_check_text f_read_number CN:Addr}{fd d_is_word d_check_text d_read_number:Bz}(F:Fun K "read_word" "read_word" Oa f fd)(G_is_word:FnOk P w K mg base Ik 2 f_is_word d_is_word ["holes", "thing"] (Zt K (jW)))(b_is_word:Binds K d_is_word ["holes", "thing"] [])(k_is_word:PySem.W.keepIn K (.ref f_is_word)=true)(m_is_word:mg "is_word" = some (.ref f_is_word))(G_check_text:FnOk P w K mg base (Mh P w) 1 f_check_text d_check_text ["thing"] (Yd K (iZ CN)))(b_check_text:Binds K d_check_text ["thing"] [])(k_check_text:PySem.W.keepIn K (.ref f_check_text)=true)(m_check_text:mg "check_text" = some (.ref f_check_text))(G_read_number:FnOk P w K mg base (Mh P w) 2 f_read_number d_read_number ["text"] (Yd K (j9 CN)))(b_read_number:Binds K d_read_number ["text"] [])(k_read_number:PySem.W.keepIn K (.ref f_read_number)=true)(m_read_number:mg "read_number" = some (.ref f_read_number))(mz_tuple:mg "tuple" = none)(m_NoText:mg "NoText" = some (.ref CN))(e_NoText:PySem.W.excIn K CN pE "ValueError.__new__" = true):FnOk P w K mg base (Mh P w) 3 f fd ["holes", "text"] (Yd K (Zh CN)):=by
 refine' Kg (k:=2) F gN (λcdv A outer s H E Ex hr hE=>?hb) ?h
 case hb =>
  have hr1:Room 1 _:=hr.mono (by decide)
  have hr2:Room 2 _:=hr.mono (by decide)
  have hu64:=hr.units
  have CS1:∀{scope:Scope} (h:scope={ kind:=.function,names:=[(".0",.local),("part",.local),("read_number",.globalImplicit)],isGenerator:=false,isCoroutine:=false }),
    CompScope (Hq (Mh P w) P w K mg base ["holes", "text", "word"] "read_word" (Bj Oa) f cdv A outer s H E) scope [] "part" [] []:=by
   rintro scope rfl
   exact Nd.compScope0 (by rfl) (by decide +kernel) (by rfl) (by decide +kernel) (by rfl) (by rfl)
  exact Gf (bU (Ga hE G_check_text hr1 rfl m_check_text k_check_text b_check_text Sd (Uz (Ak (Am (pv 1)) Au))))
   (Gf (Ol (Ji hu64 (Am (pv 1)) Dy) (Gm (W5 (Ek (Sg Au)))) (dF Eu))
   (Gf (pN (i:=2) gN.nd rfl (Ce rfl) (pA Vz (Vw (i:=true)) rfl mz_tuple (by decide +kernel) (sO (aZ rfl (CS1 rfl) rfl (IU (N7 (Vj (Am (pv 1)) Dy))) (λ_ _ _=>Lq) (λ_ _ _ b0=>Ga hE G_read_number hr2 rfl m_read_number k_read_number b_read_number (Ur rfl rfl b0) (Uz (Ak (Am (pv 0)) Au)))) (Uz Au))))
   (Gf (Ol (Wz (Xk (Hm G_is_word hr2 rfl m_is_word k_is_word b_is_word Fh (Ak (Am (pv 0)) (Ak (Am (pv 2)) Au))))) (Gm (Ph hE rfl m_NoText e_NoText)) (dF Eu))
   (Gm (W5 (Ek (Kj (Am (pv 2)))))))))
 case h =>
  (intro ds R Ex q_; obtain ⟨h,d,rfl,h60,hT,hR,hX⟩ := q_)
  refine ⟨rfl,?_⟩
  array_get_dec
  refine ⟨_,rfl,λ⟨z,e⟩=>?_,λne=>hX λz w e=>absurd e (ne z)⟩
  subst e
  have hz:=hT z rfl
  array_get_dec
  rw[Od]
  by_cases e:z = "-"
  ·rw[decide_eq_true e]
   array_get_dec
   exact hR z [] rfl (.inl ⟨e,rfl⟩)
  rw[decide_eq_false e]
  array_get_dec
  refine ⟨by have:=hz.2; omega,hz.1,Pd,eE,?_⟩
  refine aM (l:=Tw z ",") (g:=Cp) rfl (λi acc n=>∃w:List Int,acc=w.map Bs/\A2 Xu ((Tw z ",").take i) w/\n=0) ⟨[],rfl,.nil,rfl⟩ ?_ ?_
  ·(intro i p acc n hp q_; obtain ⟨w,rfl,hw,rfl⟩ := q_)
   have mp:=Ay hp
   array_get_dec
   refine ⟨p,rfl,aN Pd hz p mp,λj hj=>?_,λno=>hX λz' w' e' k=>?_⟩
   ·array_get_dec
    exact ⟨w++[j],by rw[Bd]; rfl,by rw[Gb hp]; exact hw.snoc hj⟩
   ·cases e'
    rcases k with ⟨e1,_⟩ | ⟨_,k,_⟩
    ·exact e e1
    ·obtain ⟨j,_,hj⟩:=k.mem p mp
     exact no j hj
  ·(intro acc n q_; obtain ⟨w,rfl,hw,rfl⟩ := q_)
   rw[Dr] at hw
   array_get_dec
   refine ⟨h,w,rfl,λr=>?_,λr=>?_⟩
   ·array_get_dec
    exact hR z w rfl (.inr ⟨e,hw,r⟩)
   ·array_get_dec
    refine hX λz' w' e' k=>?_
    cases e'
    rcases k with ⟨e1,_⟩ | ⟨_,k,r'⟩
    ·exact e e1
    ·rw[k.one (λ_ _ _ x y=>Br (x.symm.trans y)) hw] at r'
     exact r r'
end
open DRow
def Uy(z:Str):Prop:=Xj z/\(Tw z " ").length<=1000
def RL{α:Type}(r:Str->α->Prop)(z:Str)(l:List α):Prop:=(z = "none" /\ l=[])\/(z ≠ "none" /\ A2 r (Tw z " ") l)
theorem RL.one{α:Type}{r:Str->α->Prop}(f:∀a b b',r a b->r a b'->b=b'){z:Str}{l l':List α}(a:RL r z l)(b:RL r z l'):l=l':=by
 rcases a with ⟨e,rfl⟩ | ⟨e,a⟩ <;> rcases b with ⟨e',rfl⟩ | ⟨e',b⟩
 ·rfl
 ·exact absurd e e'
 ·exact absurd e' e
 ·exact a.one f b
def aW(CN:Addr):PX:=λds R Ex=>∃d,ds=[d]/\(∀z,d=.str z->Uy z)/\(d=.str "none" -> R (.list []))/\(∀z,d=.str z->z ≠ "none" -> R (.list ((Tw z " ").map Cp)))/\((∀z,d≠.str z)->Ex CN)
def gH(CN:Addr):PX:=λds R Ex=>∃(h:Int) (d:Ad),ds=[.int h,d]/\h<=60/\(∀z,d=.str z->Uy z)/\(∀z D,d=.str z->RL (RW h) z D->R (.list (D.map Co)))/\((∀z D,d=.str z->¬ RL (RW h) z D)->Ex CN)
def pP(CN:Addr):PX:=λds R Ex=>∃(h:Int) (d:Ad),ds=[.int h,d]/\h<=60/\(∀z,d=.str z->Uy z)/\(∀z D,d=.str z->RL (RW h) z D->D.Nodup->R (.list (D.map Co)))/\((∀z D,d=.str z->¬ (RL (RW h) z D/\D.Nodup))->Ex CN)
section
variable{P:Bh}{w:World}{K:PySem.W.Frag}{mg:Str->Option Value}{base:Heap}
theorem mG:FnScope ["text"] ["text"] (Bj Uo):=⟨rfl,rfl,rfl,by decide +kernel,rfl,by decide +kernel,by decide +kernel⟩
theorem kD{f f_check_text CN:Addr}{fd d_check_text:Bz}(F:Fun K "parts_of" "parts_of" Uo f fd)(G_check_text:FnOk P w K mg base (Mh P w) 1 f_check_text d_check_text ["thing"] (Yd K (iZ CN)))(b_check_text:Binds K d_check_text ["thing"] [])(k_check_text:PySem.W.keepIn K (.ref f_check_text)=true)(m_check_text:mg "check_text" = some (.ref f_check_text)):FnOk P w K mg base (Mh P w) 2 f fd ["text"] (Yd K (aW CN)):=by
 refine' Kg (k:=1) F mG (λcdv A outer s H E Ex hr hE=>?hb) ?h
 case hb =>
  have hr1:Room 1 _:=hr.mono (by decide)
  have hu64:=hr.units
  exact Gf (bU (Ga hE G_check_text hr1 rfl m_check_text k_check_text b_check_text Sd (Uz (Ak (Am (pv 0)) Au))))
   (Gm (W5 (Ek (t7 (Ji hu64 (Am (pv 0)) Dy) (Fn Au) (Vj (Am (pv 0)) Dy)))))
 case h =>
  (intro ds R Ex q_; obtain ⟨d,rfl,hT,hN,hR,hX⟩ := q_)
  refine ⟨rfl,?_⟩
  array_get_dec
  refine ⟨_,rfl,λ⟨z,e⟩=>?_,λne=>hX ne⟩
  subst e
  obtain ⟨hz,_⟩:=hT z rfl
  array_get_dec
  rw[Od]
  by_cases e:z = "none"
  ·subst e
   rw[decide_eq_true rfl]
   array_get_dec
   exact hN rfl
  ·rw[decide_eq_false e]
   array_get_dec
   exact ⟨by have:=hz.2; omega,hz.1,Ie,Xl,hR z rfl e⟩
theorem gS:FnScope ["holes", "text"] ["holes", "text"] (Bj Nz):=⟨rfl,rfl,rfl,by decide +kernel,rfl,by decide +kernel,by decide +kernel⟩
theorem iO{f f_read_word f_parts_of CN:Addr}{fd d_read_word d_parts_of:Bz}(F:Fun K "read_deck" "read_deck" Nz f fd)(G_read_word:FnOk P w K mg base (Mh P w) 3 f_read_word d_read_word ["holes", "text"] (Yd K (Zh CN)))(b_read_word:Binds K d_read_word ["holes", "text"] [])(k_read_word:PySem.W.keepIn K (.ref f_read_word)=true)(m_read_word:mg "read_word" = some (.ref f_read_word))(G_parts_of:FnOk P w K mg base (Mh P w) 2 f_parts_of d_parts_of ["text"] (Yd K (aW CN)))(b_parts_of:Binds K d_parts_of ["text"] [])(k_parts_of:PySem.W.keepIn K (.ref f_parts_of)=true)(m_parts_of:mg "parts_of" = some (.ref f_parts_of)):FnOk P w K mg base (Mh P w) 4 f fd ["holes", "text"] (Yd K (gH CN)):=by
 refine' Kg (k:=3) F gS (λcdv A outer s H E Ex hr hE=>?hb) ?h
 case hb =>
  have hr1:Room 1 _:=hr.mono (by decide)
  have hr2:Room 2 _:=hr.mono (by decide)
  have hr3:Room 3 _:=hr.mono (by decide)
  have hu64:=hr.units
  have CS1:∀{scope:Scope} (h:scope={ kind:=.function,names:=[(".0",.local),("part",.local),("read_word",.globalImplicit),("holes",.free)],isGenerator:=false,isCoroutine:=false }),
    CompScope (Hq (Mh P w) P w K mg base ["holes", "text"] "read_deck" (Bj Nz) f cdv A outer s H E) scope [("holes",s.heap.objs.size+1)] "part" ["holes"] [0]:=by
   rintro scope rfl
   refine ⟨by rfl,.inl (by decide +kernel),by rfl,by decide +kernel,.inl rfl,λy c h=>?_,by rfl,by decide +kernel,rfl,λk y j e1 e2=>?_⟩
   ·have z:=Ka h
    simp only[Ap,Cj,or_false,Prod.mk.injEq] at z
    obtain ⟨rfl,rfl⟩:=z; rfl
   ·match k,e1,e2 with
    | 0,e1,e2=>cases e1; cases e2; exact ⟨rfl,rfl,by first | exact .inl rfl | exact .inr rfl⟩
    | k+1,e1,e2=>cases e1
  exact Gm (Sw (aZ rfl (CS1 rfl) rfl (CB (Ga hE G_parts_of hr2 rfl m_parts_of k_parts_of b_parts_of Sd (Uz (Ak (Am (pv 1)) Au)))) (λ_ _ _=>Lq) (λ_ _ _ b0=>Ga hE G_read_word hr3 rfl m_read_word k_read_word b_read_word (Ur rfl rfl b0) (Uz (Ak (Am (pv 1)) (Ak (Am (pv 0)) Au))))))
 case h =>
  (intro ds R Ex q_; obtain ⟨h,d,rfl,h60,hT,hR,hX⟩ := q_)
  refine ⟨rfl,?_⟩
  array_get_dec
  refine ⟨_,rfl,hT,λe=>?_,λz e ne=>?_,λne=>hX λz D e=>absurd e (ne z)⟩
  ·subst e
   array_get_dec
   refine aM (l:=([]:List Str)) (g:=Cp) rfl (λ_ acc _=>acc=[]) rfl (λi a acc n ha=>by simp at ha) (λacc n e=>?_)
   subst e
   array_get_dec
   exact hR _ [] rfl (.inl ⟨rfl,rfl⟩)
  ·subst e
   array_get_dec
   obtain ⟨hz,_⟩:=hT z rfl
   refine aM (l:=Tw z " ") (g:=Cp) rfl (λi acc n=>∃D:List (List Int),acc=D.map Co/\A2 (RW h) ((Tw z " ").take i) D/\n=0) ⟨[],rfl,.nil,rfl⟩ ?_ ?_
   ·(intro i p acc n hp q_; obtain ⟨D,rfl,hD,rfl⟩ := q_)
    have mp:=Ay hp
    array_get_dec
    refine ⟨h,.str p,rfl,h60,λq e=>by cases e; exact aN Ie hz p mp,λq w e hw=>?_,λno=>hX λz' D' e' k=>?_⟩
    ·cases e
     array_get_dec
     exact ⟨D++[w],by rw[Bd]; rfl,by rw[Gb hp]; exact hD.snoc hw⟩
    ·cases e'
     rcases k with ⟨e1,_⟩ | ⟨_,k⟩
     ·exact ne e1
     ·obtain ⟨w,_,hw⟩:=k.mem p mp
      exact no p w rfl hw
   ·(intro acc n q_; obtain ⟨D,rfl,hD,rfl⟩ := q_)
    rw[Dr] at hD
    array_get_dec
    exact hR z D rfl (.inr ⟨ne,hD⟩)
end
open DRow
def aR(b:Bool):Str:=if b=true then ("b" : Str) else ("f" : Str)
def RP(h:Int)(z:Str)(p:Ps):Prop:=∃x:Str,z=x++Lr p.2/\RW h x p.1
theorem Pj(b:Bool):(Lr b).cps.toList=58::(aR b).cps.toList:=by
 cases b
 ·exact (by decide +kernel:(Lr false).cps.toList=58::(aR false).cps.toList)
 ·exact (by decide +kernel:(Lr true).cps.toList=58::(aR true).cps.toList)
theorem eX{c:Nat}{a b s t:List Nat}(ha:c∉a)(hb:c∉b)(e:a++c::s=b++c::t):a=b/\s=t:=by
 have tw:∀(p r:List Nat),c∉p->(p++c::r).takeWhile (λx=>decide (x≠c))=p:=λp r hp=>by
  have h1:∀x∈p,decide (x≠c)=true:=λx hx=>decide_eq_true λe=>hp (by rw[<- e]; exact hx)
  rw[dJ h1]
  simp
 have q:a=b:=by rw[<- tw a s ha,e,tw b t hb]
 subst q
 have:=Kn e
 injection this with _ k
 exact ⟨rfl,k⟩
theorem M3{z c:Str}:Bn c (Tw z c)=z:=cO z c (z.length+1)
theorem iJ{h:Int}{x:Str}{w:List Int}(k:RW h x w):tI 58 x:=by
 rcases k with ⟨rfl,_⟩ | ⟨_,k,_⟩
 ·unfold tI
  rw[show (Lm "-").toList=[45] by decide +kernel]
  decide
 ·intro hc
  rw[<- M3 (z:=x) (c := ",")] at hc
  rcases Xq hc with hc | ⟨p,hp,hc⟩
  ·rw[dP] at hc
   exact absurd (Af.mp hc) (by decide)
  ·obtain ⟨i,_,hi⟩:=k.mem p hp
   have ok:=(BL.mp hi).1
   unfold Jb at ok
   simp only[Di] at ok
   have:=Jp.mp ok.1.2 58 hc
   exact absurd this (by decide)
theorem vI:∀{b c:Bool},aR b=aR c->b=c:=λ{b c} h=>by
 cases b <;> cases c <;> first | rfl | exact absurd h (by decide +kernel)
theorem RP.one{h:Int}{z:Str}{p p':Ps}(a:RP h z p)(b:RP h z p'):p=p':=by
 obtain ⟨x,e,ka⟩:=a
 obtain ⟨y,e',kb⟩:=b
 have q:=congrArg (λs:Str=>s.cps.toList) (e.symm.trans e')
 rw[Hf,Hf,Pj,Pj] at q
 obtain ⟨q1,q2⟩:=eX (iJ ka) (iJ kb) q
 obtain rfl:=Jt q1
 obtain ⟨w,b1⟩:=p
 obtain ⟨w',b2⟩:=p'
 obtain rfl:b1=b2:=vI (Jt q2)
 rw[show w=w' from ka.one kb]
theorem C5(z:Str):(Ud z ":" = [z,Jv,Jv]/\tI 58 z)\/∃n s:Str,Ud z ":" = [n, ":",s]/\z.cps.toList=n.cps.toList++58::s.cps.toList/\tI 58 n/\n.length<=z.length/\∃i j,n=Cq z i j:=by
 have hy:(Lm ":").toList=[58]:=sR
 unfold Ud
 rcases StrLaws.occ_head z ":" 1 (Al _) with ⟨e,h⟩ | ⟨i,q,e,h1,h2⟩
 ·rw[e]
  refine .inl ⟨rfl,λhc=>?_⟩
  obtain ⟨k,hk⟩:=sC.mp hc
  exact h k ((bK hy k).mpr hk)
 ·rw[e]
  have hi:=(bK hy i).mp h1
  obtain ⟨hi1,hi2⟩:=Av.mp hi
  have lz:z.cps.toList.length=z.length:=Ag
  refine .inr ⟨_,_,rfl,?_,?_,?_,_,_,rfl⟩
  ·rw[Rn,Rn,Tj,Os,<- lz,Dr]
   have : z.cps.toList.drop i=58::z.cps.toList.drop (i+1):=by rw[Pu hi1,hi2]
   rw[<- this,Lz]
  ·exact bW λk _ hk e'=>h2 k hk ((bK hy k).mpr e')
  ·have : (Cq z 0 i).cps.toList.length<=z.length:=by
    rw[Rn,Os,Da]
    omega
   rwa [Ag] at this
theorem P0{s:Str}:([Cp "f",.str "b"].any λe=>Ds e (.str s))=(decide (s = "f") || decide (s = "b")):=by
 simp only[Mm,List.any_nil,eqD_str,Od,Qt]
 rw[show decide (("f" : Str)=s)=decide (s = "f") from decide_eq_decide.mpr ⟨Wr,Wr⟩,show decide (("b" : Str)=s)=decide (s = "b") from decide_eq_decide.mpr ⟨Wr,Wr⟩]
def pX(CN:Addr):PX:=λds R Ex=>∃(h:Int) (z:Str),ds=[.int h,.str z]/\h<=60/\Xj z/\(∀p,RP h z p->R (Mz p))/\((∀p,¬ RP h z p)->Ex CN)
def zD(CN:Addr):PX:=λds R Ex=>∃(h:Int) (d:Ad),ds=[.int h,d]/\h<=60/\(∀z,d=.str z->Uy z)/\(∀z D,d=.str z->RL (RP h) z D->R (.list (D.map Mz)))/\((∀z D,d=.str z->¬ RL (RP h) z D)->Ex CN)
section
variable{P:Bh}{w:World}{K:PySem.W.Frag}{mg:Str->Option Value}{base:Heap}
theorem gZ:FnScope ["holes", "text", "needles", "colon", "side", "word"] ["holes", "text"] (Bj Rx):=⟨rfl,rfl,rfl,by decide +kernel,rfl,by decide +kernel,by decide +kernel⟩
theorem gT{f f_read_word CN:Addr}{fd d_read_word:Bz}(F:Fun K "read_pass" "read_pass" Rx f fd)(G_read_word:FnOk P w K mg base (Mh P w) 3 f_read_word d_read_word ["holes", "text"] (Yd K (Zh CN)))(b_read_word:Binds K d_read_word ["holes", "text"] [])(k_read_word:PySem.W.keepIn K (.ref f_read_word)=true)(m_read_word:mg "read_word" = some (.ref f_read_word))(m_NoText:mg "NoText" = some (.ref CN))(e_NoText:PySem.W.excIn K CN pE "ValueError.__new__" = true):FnOk P w K mg base (Mh P w) 4 f fd ["holes", "text"] (Yd K (pX CN)):=by
 refine' Kg (k:=3) F gZ (λcdv A outer s H E Ex hr hE=>?hb) ?h
 case hb =>
  have hr1:Room 1 _:=hr.mono (by decide)
  have hr2:Room 2 _:=hr.mono (by decide)
  have hr3:Room 3 _:=hr.mono (by decide)
  have hu64:=hr.units
  exact Gf (W5 (X3 (N4 (Am (pv 1)) Dy) (AX (n:=3) rfl (bD (Hz (i:=2) gZ.nd rfl (Ce rfl)) (bD (Hz (i:=3) gZ.nd rfl (Ce rfl)) (bD (Hz (i:=4) gZ.nd rfl (Ce rfl)) J6))))))
   (Gf (pN (i:=5) gZ.nd rfl (Ce rfl) (Ga hE G_read_word hr3 rfl m_read_word k_read_word b_read_word Sd (Uz (Ak (Am (pv 0)) (Ak (Am (pv 2)) Au)))))
   (Gf (Ol (kC hu64 (Am (pv 4)) (Sg (Ak Dy (Ak Dy Au)))) (Gm (Ph hE rfl m_NoText e_NoText)) (dF Eu))
   (Gm (W5 (Ek (Sg (Ak (Kj (Am (pv 5))) (Ak (t7 (Ji hu64 (Am (pv 4)) Dy) Dy Dy) Au))))))))
 case h =>
  (intro ds R Ex q_; obtain ⟨h,z,rfl,h60,hz,hR,hX⟩ := q_)
  refine ⟨rfl,?_⟩
  array_get_dec
  refine ⟨by have:=hz.2; omega,Tj,?_⟩
  rcases C5 z with ⟨e,nz⟩ | ⟨n,s,e,ez,nn,ln,i,j,en⟩
  ·rw[e]
   have no:∀p,¬ RP h z p:=λp ⟨x,ex,_⟩=>nz (by
    rw[ex,Hf,Pj]
    exact Ai _ Aa)
   array_get_dec
   refine ⟨h,_,rfl,h60,λq e'=>by cases e'; exact hz,λq w e' hw=>?_,λ_=>hX no⟩
   array_get_dec
   rw[P0]
   rw[show (decide (Jv = "f") || decide (Jv = "b"))=false by decide +kernel]
   array_get_dec
   exact hX no
  ·rw[e]
   array_get_dec
   have nok:Xj n:=by rw[en]; exact uZ hz
   have same:∀p,RP h z p->RW h n p.1/\s=aR p.2:=λp ⟨x,ex,kx⟩=>by
    have q:=ez.symm.trans (congrArg (λs:Str=>s.cps.toList) ex)
    rw[Hf,Pj] at q
    obtain ⟨q1,q2⟩:=eX nn (iJ kx) q
    rw[Jt q1]
    exact ⟨kx,Jt q2⟩
   refine ⟨h,_,rfl,h60,λq e'=>by cases e'; exact nok,λq w e' hw=>?_,λno=>hX λp k=>no n p.1 rfl (same p k).1⟩
   cases e'
   array_get_dec
   rw[P0]
   have mk:∀b,s=aR b->z=n++Lr b:=λb eb=>Jt (by rw[ez,Hf,Pj,eb])
   by_cases h1:s = "f"
   ·subst h1
    rw[decide_eq_true rfl,Ze]
    array_get_dec
    exact hR (w,false) ⟨n,mk false rfl,hw⟩
   rw[decide_eq_false h1]
   by_cases h2:s = "b"
   ·subst h2
    rw[decide_eq_true rfl,Sq]
    array_get_dec
    rw[show (("b" : Str) == "f")=false by decide +kernel]
    array_get_dec
    exact hR (w,true) ⟨n,mk true rfl,hw⟩
   rw[decide_eq_false h2]
   array_get_dec
   refine hX λp k=>?_
   obtain ⟨_,e3⟩:=same p k
   cases hb:p.2 with
   | false=>rw[hb] at e3; exact h1 e3
   | true=>rw[hb] at e3; exact h2 e3
theorem lR:FnScope ["holes", "text"] ["holes", "text"] (Bj Qd):=⟨rfl,rfl,rfl,by decide +kernel,rfl,by decide +kernel,by decide +kernel⟩
theorem kB{f f_parts_of f_read_pass CN:Addr}{fd d_parts_of d_read_pass:Bz}(F:Fun K "read_row" "read_row" Qd f fd)(G_parts_of:FnOk P w K mg base (Mh P w) 2 f_parts_of d_parts_of ["text"] (Yd K (aW CN)))(b_parts_of:Binds K d_parts_of ["text"] [])(k_parts_of:PySem.W.keepIn K (.ref f_parts_of)=true)(m_parts_of:mg "parts_of" = some (.ref f_parts_of))(G_read_pass:FnOk P w K mg base (Mh P w) 4 f_read_pass d_read_pass ["holes", "text"] (Yd K (pX CN)))(b_read_pass:Binds K d_read_pass ["holes", "text"] [])(k_read_pass:PySem.W.keepIn K (.ref f_read_pass)=true)(m_read_pass:mg "read_pass" = some (.ref f_read_pass)):FnOk P w K mg base (Mh P w) 5 f fd ["holes", "text"] (Yd K (zD CN)):=by
 refine' Kg (k:=4) F lR (λcdv A outer s H E Ex hr hE=>?hb) ?h
 case hb =>
  have hr1:Room 1 _:=hr.mono (by decide)
  have hr2:Room 2 _:=hr.mono (by decide)
  have hr3:Room 3 _:=hr.mono (by decide)
  have hr4:Room 4 _:=hr.mono (by decide)
  have hu64:=hr.units
  have CS1:∀{scope:Scope} (h:scope={ kind:=.function,names:=[(".0",.local),("part",.local),("read_pass",.globalImplicit),("holes",.free)],isGenerator:=false,isCoroutine:=false }),
    CompScope (Hq (Mh P w) P w K mg base ["holes", "text"] "read_row" (Bj Qd) f cdv A outer s H E) scope [("holes",s.heap.objs.size+1)] "part" ["holes"] [0]:=by
   rintro scope rfl
   refine ⟨by rfl,.inl (by decide +kernel),by rfl,by decide +kernel,.inl rfl,λy c h=>?_,by rfl,by decide +kernel,rfl,λk y j e1 e2=>?_⟩
   ·have z:=Ka h
    simp only[Ap,Cj,or_false,Prod.mk.injEq] at z
    obtain ⟨rfl,rfl⟩:=z; rfl
   ·match k,e1,e2 with
    | 0,e1,e2=>cases e1; cases e2; exact ⟨rfl,rfl,by first | exact .inl rfl | exact .inr rfl⟩
    | k+1,e1,e2=>cases e1
  exact Gm (Sw (aZ rfl (CS1 rfl) rfl (CB (Ga hE G_parts_of hr2 rfl m_parts_of k_parts_of b_parts_of Sd (Uz (Ak (Am (pv 1)) Au)))) (λ_ _ _=>Lq) (λ_ _ _ b0=>Ga hE G_read_pass hr4 rfl m_read_pass k_read_pass b_read_pass (Ur rfl rfl b0) (Uz (Ak (Am (pv 1)) (Ak (Am (pv 0)) Au))))))
 case h =>
  (intro ds R Ex q_; obtain ⟨h,d,rfl,h60,hT,hR,hX⟩ := q_)
  refine ⟨rfl,?_⟩
  array_get_dec
  refine ⟨_,rfl,hT,λe=>?_,λz e ne=>?_,λne=>hX λz D e=>absurd e (ne z)⟩
  ·subst e
   array_get_dec
   refine aM (l:=([]:List Str)) (g:=Cp) rfl (λ_ acc _=>acc=[]) rfl (λi a acc n ha=>by simp at ha) (λacc n e=>?_)
   subst e
   array_get_dec
   exact hR _ [] rfl (.inl ⟨rfl,rfl⟩)
  ·subst e
   array_get_dec
   obtain ⟨hz,_⟩:=hT z rfl
   refine aM (l:=Tw z " ") (g:=Cp) rfl (λi acc n=>∃D:List Ps,acc=D.map Mz/\A2 (RP h) ((Tw z " ").take i) D/\n=0) ⟨[],rfl,.nil,rfl⟩ ?_ ?_
   ·(intro i p acc n hp q_; obtain ⟨D,rfl,hD,rfl⟩ := q_)
    have mp:=Ay hp
    array_get_dec
    refine ⟨h,p,rfl,h60,aN Ie hz p mp,λw hw=>?_,λno=>hX λz' D' e' k=>?_⟩
    ·array_get_dec
     exact ⟨D++[w],by rw[Bd]; rfl,by rw[Gb hp]; exact hD.snoc hw⟩
    ·cases e'
     rcases k with ⟨e1,_⟩ | ⟨_,k⟩
     ·exact ne e1
     ·obtain ⟨w,_,hw⟩:=k.mem p mp
      exact no w hw
   ·(intro acc n q_; obtain ⟨D,rfl,hD,rfl⟩ := q_)
    rw[Dr] at hD
    array_get_dec
    exact hR z D rfl (.inr ⟨ne,hD⟩)
end
open DRow
theorem AJ{α:Type}{r:Str->α->Prop}{z:Str}{l:List α}(h:RL r z l)(hz:Uy z):l.length<=1000:=by
 rcases h with ⟨_,rfl⟩ | ⟨_,k⟩
 ·exact Dm _
 ·rw[<- k.len]; exact hz.2
section
variable{P:Bh}{w:World}{K:PySem.W.Frag}{mg:Str->Option Value}{base:Heap}
theorem fP:FnScope ["holes", "text", "code"] ["holes", "text"] (Bj Rz):=⟨rfl,rfl,rfl,by decide +kernel,rfl,by decide +kernel,by decide +kernel⟩
theorem iE{f f_read_deck CN:Addr}{fd d_read_deck:Bz}(F:Fun K "read_code" "read_code" Rz f fd)(G_read_deck:FnOk P w K mg base (Mh P w) 4 f_read_deck d_read_deck ["holes", "text"] (Yd K (gH CN)))(b_read_deck:Binds K d_read_deck ["holes", "text"] [])(k_read_deck:PySem.W.keepIn K (.ref f_read_deck)=true)(m_read_deck:mg "read_deck" = some (.ref f_read_deck))(mz_len:mg "len" = none)(mz_set:mg "set" = none)(m_NoText:mg "NoText" = some (.ref CN))(e_NoText:PySem.W.excIn K CN pE "ValueError.__new__" = true):FnOk P w K mg base (Mh P w) 5 f fd ["holes", "text"] (Yd K (pP CN)):=by
 refine' Kg (k:=4) F fP (λcdv A outer s H E Ex hr hE=>?hb) ?h
 case hb =>
  have hr1:Room 1 _:=hr.mono (by decide)
  have hr2:Room 2 _:=hr.mono (by decide)
  have hr3:Room 3 _:=hr.mono (by decide)
  have hr4:Room 4 _:=hr.mono (by decide)
  have hu64:=hr.units
  exact Gf (yJ (i:=2) fP.nd rfl (Ce rfl) (Ga hE G_read_deck hr4 rfl m_read_deck k_read_deck b_read_deck Sd (Uz (Ak (Am (pv 0)) (Ak (Am (pv 1)) Au)))))
   (Gf (Ol (Ub hu64 (sG hu64 rfl rfl mz_len rfl mz_set (Ak (Am (pv 2)) Au)) (Gg Kk Ql rfl mz_len (by decide +kernel) (Ak (Am (pv 2)) Au))) (Gm (Ph hE rfl m_NoText e_NoText)) (dF Eu))
   (Gm (W5 (Ek (Qa (pv 2))))))
 case h =>
  (intro ds R Ex q_; obtain ⟨h,d,rfl,h60,hT,hR,hX⟩ := q_)
  refine ⟨rfl,?_⟩
  array_get_dec
  refine ⟨h,d,rfl,h60,hT,λz D e k=>?_,λno=>hX λz D e k=>no z D e k.1⟩
  have lD:=AJ k (hT z e)
  array_get_dec
  refine ⟨D,rfl,by omega,λn n1 n2 n3=>?_⟩
  rw[Ab]
  by_cases q:n=D.length
  ·rw[decide_eq_true (show (n:Int)=(D.length:Int) by omega)]
   array_get_dec
   exact hR z D e k (n3 q)
  ·rw[decide_eq_false (show ¬ (n:Int)=(D.length:Int) by omega)]
   array_get_dec
   refine hX λz' D' e' kk=>q ?_
   rw[e] at e'
   cases e'
   rw[kk.1.one (λ_ _ _ x y=>x.one y) k] at kk
   exact n2 kk.2
end
open DRow
def O0:DF:=λds n R=>∃h m:Int,ds=[.int h,.int m]/\1<=h/\h<=60/\0<=m/\m<=60/\n<=50000/\∀(ps:List DRow.Ps) n',(ps.length:Int)<=m->(∀p∈ps,Dt h p.1)->n<=n'->n'<=n+1+1200->R (.list (ps.map Mz)) n'
def vK:DF:=λds n R=>∃h m:Int,ds=[.int h,.int m]/\1<=h/\h<=60/\0<=m/\m<=60/\n<=50000/\∀(ws:List (List Int)) n',(ws.length:Int)<=m->(∀w∈ws,Dt h w)->n<=n'->n'<=n+1+1200->R (.list (ws.map Co)) n'
def vH:DF:=λds n R=>∃h m:Int,ds=[.int h,.int m]/\1<=h/\h<=60/\0<=m/\m<=60/\n<=50000/\∀(ws:List (List Int)) n',(ws.length:Int)<=m->(∀w∈ws,Dt h w)->ws.Nodup->n<=n'->n'<=n+1+1200->R (.list (ws.map Co)) n'
theorem Xa(w:List Int)(lo hi:Option Int):Ls (w.map Bs) lo hi=(Ls w lo hi).map Bs:=by
 unfold Ls
 rw[Ab,<- List.map_drop,<- List.map_take]
section
variable{P:Bh}{w:World}{K:PySem.W.Frag}{mg:Str->Option Value}{base:Heap}
theorem jB:FnScope ["_law_draws_here", "_law_holes", "_law_pick", "_law_bits", "_law_told", "_law_place"] ["_law_draws_here", "_law_holes"] (Bj Sf):=⟨rfl,rfl,rfl,by decide +kernel,rfl,by decide +kernel,by decide +kernel⟩
theorem fU{f f_L_next  : Addr}{fd d_L_next:Bz}(F:Fun K "_law_word" "_law_word" Sf f fd)(G_L_next:FnOk P w K mg base Ik 1 f_L_next d_L_next ["_law_draws_here"] (Zp K Rr))(b_L_next:Binds K d_L_next ["_law_draws_here"] [])(k_L_next:PySem.W.keepIn K (.ref f_L_next)=true)(m_L_next:mg "_law_next" = some (.ref f_L_next))(mz_range:mg "range" = none)(mz_tuple:mg "tuple" = none):FnOk P w K mg base Ik 2 f fd ["_law_draws_here", "_law_holes"] (Zp K (cD)):=by
 refine' Vr (k:=1) F jB (λcdv A outer s H E hr=>?hb) ?h
 case hb =>
  have hr1:Room 1 _:=hr.mono (by decide)
  have hu64:=hr.units
  exact Bt (Dz (i:=2) jB.nd rfl (Ce rfl) (Es G_L_next hr1 rfl m_L_next k_L_next b_L_next Fh (pv 0) Au))
   (Bt (Dz (i:=3) jB.nd rfl (Ce rfl) (Mb (Am (pv 2)) Bu))
   (Bt (Tf (i:=4) jB.nd rfl (Ce rfl) (Fn Au))
   (Bt (Ma Ew rfl (Mu rfl mz_range (Ak (Am (pv 1)) Au)) (Hz (i:=5) jB.nd rfl (Ce rfl))
   (Bt (Hs (Ji hu64 (Fx (Am (pv 5)) Bu) Bu)
    (Cu (Dz (i:=3) jB.nd rfl (Ce rfl) (Es G_L_next hr1 rfl m_L_next k_L_next b_L_next Fh (pv 0) Au))) Eu)
    (Bt (Hs (Ji hu64 (Fx (Am (pv 3)) (Kh (Fn (Ak Bu (Ak Bu (Ak Bu (Ak Bu Au))))) (Fx (Am (pv 2)) Bu))) Bu)
    (Cu (Kt (pv 4) (Am (pv 5)))) Eu)
    (Cu (Dz (i:=3) jB.nd rfl (Ce rfl) (Mb (Am (pv 3)) Bu))))))
   (Cu (Ek (Gs Vz (Vw (i:=true)) rfl mz_tuple (by decide +kernel) (Ak (Am (pv 4)) Au)))))))
 case h =>
  (intro ds n R q_; obtain ⟨h,rfl,h1,h60,hn,hR⟩ := q_)
  refine ⟨rfl,?_⟩
  array_get_dec
  refine ⟨rfl,by omega,λr1=>?_⟩
  array_get_dec
  refine ⟨by omega,by omega,?_⟩
  refine Uq (l:=Cc h.toNat) (g:=λi:Nat=>.int i) rfl (λi δ=>∃(p:Int) (ns:List Int) (v:DV) (n1:Nat),δ=⟨[.drw,.dat .sh (.int h),.dat .sh (.int r1),.dat .sh (.int p),.dat .ow (.list (ns.map Bs)),v],n1⟩/\Dt i ns/\NP v/\n<=n1/\n1<=n+1+i / 16) ?_ ?_ ?_
  ·exact ⟨_,[],_,_,rfl,Dt.nil _,Gy,by omega,by omega⟩
  ·(intro i a _ ha q_; obtain ⟨p,ns,v,n1,rfl,hr,hv,k1,k2⟩ := q_)
   obtain ⟨rfl,hi⟩:=Rl ha
   have l60:=uK (V8 hr) (λx hx=>by have:=hr.2 x hx; omega)
   array_get_dec
   refine qQ (λδ=>∃(p:Int) (n2:Nat),δ=⟨[.drw,.dat .sh (.int h),.dat .sh (.int r1),.dat .sh (.int p),.dat .ow (.list (ns.map Bs)),.dat .sh (.int a)],n2⟩/\n<=n2/\n2<=n+1+(a+1) / 16) (λN hN=>?_) ?_
   ·refine Rp (λhb=>?_) (λhb=>?_)
    ·have hb:=of_decide_eq_true hb
     array_get_dec
     refine ⟨rfl,by omega,λr2=>?_⟩
     array_get_dec
     exact hN _ ⟨r2,_,rfl,by omega,by omega⟩
    ·array_get_dec
     exact hN _ ⟨p,_,rfl,by omega,by omega⟩
   ·(intro _ q_; obtain ⟨p,n2,rfl,k3,k4⟩ := q_)
    array_get_dec
    obtain ⟨q,e1,e2⟩ : ∃q:Int,Re [Bs 2,.int 2,.int 4,.int 1] (r1 % 4)=some (.int q)/\0<q/\q<1073741824:=by
     have:=Jy r1 (b:=4) (by decide)
     rcases (by omega:r1 % 4=0\/r1 % 4=1\/r1 % 4=2\/r1 % 4=3) with e | e | e | e <;> rw[e]
     ·exact ⟨2,rT _ _,by decide⟩
     ·exact ⟨2,rM _ _ _,by decide⟩
     ·exact ⟨4,S8 _ _ _ _,by decide⟩
     ·exact ⟨1,P3 _ _ _ _ _,by decide⟩
    refine ⟨_,e1,?_⟩
    array_get_dec
    refine ⟨e2.1,?_⟩
    refine Rp (λhb=>?_) (λhb=>?_)
    ·array_get_dec
     refine ⟨by rw[Ab]; omega,?_⟩
     refine ⟨_,ns++[(a:Int)],_,_,Qw (by rw[Bd]; rfl) rfl,hr.more (by omega),Ej,by omega,by omega⟩
    ·array_get_dec
     exact ⟨_,ns,_,_,rfl,hr.up (by omega),Ej,by omega,by omega⟩
  ·(intro _ q_; obtain ⟨p,ns,v,n1,rfl,hr,hv,k1,k2⟩ := q_)
   rw[Dx] at hr k2
   array_get_dec
   exact ⟨by omega,hR ns _ (by omega) (by omega) (by rwa [show ((h.toNat:Nat):Int)=h by omega] at hr)⟩
theorem jT:FnScope ["_law_draws_here", "_law_holes", "_law_many", "_law_told", "_law_k", "_law_needles"] ["_law_draws_here", "_law_holes", "_law_many"] (Bj Uu):=⟨rfl,rfl,rfl,by decide +kernel,rfl,by decide +kernel,by decide +kernel⟩
theorem jU{f f_L_next f_L_word  : Addr}{fd d_L_next d_L_word:Bz}(F:Fun K "_law_row" "_law_row" Uu f fd)(G_L_next:FnOk P w K mg base Ik 1 f_L_next d_L_next ["_law_draws_here"] (Zp K Rr))(b_L_next:Binds K d_L_next ["_law_draws_here"] [])(k_L_next:PySem.W.keepIn K (.ref f_L_next)=true)(m_L_next:mg "_law_next" = some (.ref f_L_next))(G_L_word:FnOk P w K mg base Ik 2 f_L_word d_L_word ["_law_draws_here", "_law_holes"] (Zp K (cD)))(b_L_word:Binds K d_L_word ["_law_draws_here", "_law_holes"] [])(k_L_word:PySem.W.keepIn K (.ref f_L_word)=true)(m_L_word:mg "_law_word" = some (.ref f_L_word))(mz_range:mg "range" = none):FnOk P w K mg base Ik 3 f fd ["_law_draws_here", "_law_holes", "_law_many"] (Zp K (O0)):=by
 refine' Vr (k:=2) F jT (λcdv A outer s H E hr=>?hb) ?h
 case hb =>
  have hr1:Room 1 _:=hr.mono (by decide)
  have hr2:Room 2 _:=hr.mono (by decide)
  have hu64:=hr.units
  exact Bt (Tf (i:=3) jT.nd rfl (Ce rfl) (Fn Au))
   (Bt (Ma Ew rfl (Mu rfl mz_range (Ak (Fx (Es G_L_next hr1 rfl m_L_next k_L_next b_L_next Fh (pv 0) Au) (Qo (Am (pv 2)) Bu)) Au)) (Hz (i:=4) jT.nd rfl (Ce rfl))
   (Bt (Dz (i:=5) jT.nd rfl (Ce rfl) (Es G_L_word hr2 rfl m_L_word k_L_word b_L_word Fh (pv 0) (Ak (Am (pv 1)) Au)))
    (Bt (Hs (xH (Fx (Es G_L_next hr1 rfl m_L_next k_L_next b_L_next Fh (pv 0) Au) Bu) Bu)
    (Cu (Dz (i:=5) jT.nd rfl (Ce rfl) (aT (i:=true) (Am (pv 5)) Lp (Lo (Qo Bu (Fx (Es G_L_next hr1 rfl m_L_next k_L_next b_L_next Fh (pv 0) Au) Bu)))))) Eu)
    (Cu (Kt (pv 3) (Sg (Ak (Kj (Am (pv 5))) (Ak (Kh (Fn (Ak Dy (Ak Dy Au))) (Fx (Es G_L_next hr1 rfl m_L_next k_L_next b_L_next Fh (pv 0) Au) Bu)) Au))))))))
   (Cu (Ek (Qa (pv 3)))))
 case h =>
  (intro ds n R q_; obtain ⟨h,m,rfl,h1,h60,m0,m60,hn,hR⟩ := q_)
  refine ⟨rfl,?_⟩
  array_get_dec
  refine ⟨rfl,by omega,λr1=>?_⟩
  array_get_dec
  have bm:=Jy r1 (b:=m+1) (by omega)
  refine ⟨by omega,by omega,by omega,?_⟩
  refine Uq (l:=Cc (r1 % (m+1)).toNat) (g:=λi:Nat=>.int i) rfl (λi δ=>∃(ps:List DRow.Ps) (v1 v2:DV) (n':Nat),δ=⟨[.drw,.dat .sh (.int h),.dat .sh (.int m),.dat .ow (.list (ps.map Mz)),v1,v2],n'⟩/\n<=n'/\n'<=n+1+20 * i/\ps.length<=i/\(∀p∈ps,Dt h p.1)/\NP v1/\NP v2) ?_ ?_ ?_
  ·exact ⟨[],_,_,_,rfl,by omega,by omega,Al _,λ_ z=>(nomatch z),Gy,Gy⟩
  ·(intro i a _ ha q_; obtain ⟨ps,v1,v2,n1,rfl,k1,k2,lp,hp,hv1,hv2⟩ := q_)
   obtain ⟨rfl,hi⟩:=Rl ha
   array_get_dec
   refine ⟨h,rfl,h1,h60,by omega,λw n2 l1 l2 rw_=>?_⟩
   array_get_dec
   refine ⟨rfl,by omega,λr2=>?_⟩
   array_get_dec
   refine qQ (λδ=>∃(w':List Int) (n3:Nat),δ=⟨[.drw,.dat .sh (.int h),.dat .sh (.int m),.dat .ow (.list (ps.map Mz)),.dat .sh (.int a),.dat .sh (Co w')],n3⟩/\n2<=n3/\n3<=n2+3/\Dt h w') (λN hN=>?_) ?_
   ·refine Rp (λhb=>?_) (λhb=>?_)
    ·array_get_dec
     refine ⟨rfl,by omega,λr3=>?_⟩
     array_get_dec
     rw[Xa]
     array_get_dec
     exact hN _ ⟨_,_,rfl,by omega,by omega,rw_.sub (Nf _ _ _)⟩
    ·array_get_dec
     exact hN _ ⟨w,_,rfl,by omega,by omega,rw_⟩
   ·(intro _ q_; obtain ⟨w',n3,rfl,k3,k4,rw'⟩ := q_)
    array_get_dec
    refine ⟨rfl,by omega,λr4=>?_⟩
    array_get_dec
    obtain ⟨b,eb⟩ : ∃b,Re [Cp "front",.str "back"] (r4 % 2)=some (.str (Ug b)):=by
     have:=Jy r4 (b:=2) (by decide)
     rcases (by omega:r4 % 2=0\/r4 % 2=1) with e | e <;> rw[e]
     ·exact ⟨false,rT _ _⟩
     ·exact ⟨true,rM _ _ _⟩
    refine ⟨_,eb,?_⟩
    array_get_dec
    refine ⟨by rw[Ab]; omega,ps++[(w',b)],_,_,_,Qw (by rw[Bd]; rfl) rfl,by omega,by omega,by rw[Be,Dl]; omega,λp hp'=>?_,Ej,Ej⟩
    rcases Aw.mp hp' with z | z
    ·exact hp p z
    ·rw[Af.mp z]; exact rw'
  ·(intro _ q_; obtain ⟨ps,v1,v2,n1,rfl,k1,k2,lp,hp,hv1,hv2⟩ := q_)
   rw[Dx] at lp k2
   array_get_dec
   exact ⟨k1,hR ps _ (by omega) hp k1 (by omega)⟩
theorem gJ:FnScope ["_law_draws_here", "_law_holes", "_law_many", "_law_told", "_law_k"] ["_law_draws_here", "_law_holes", "_law_many"] (Bj Rj):=⟨rfl,rfl,rfl,by decide +kernel,rfl,by decide +kernel,by decide +kernel⟩
theorem gC{f f_L_next f_L_word  : Addr}{fd d_L_next d_L_word:Bz}(F:Fun K "_law_deck" "_law_deck" Rj f fd)(G_L_next:FnOk P w K mg base Ik 1 f_L_next d_L_next ["_law_draws_here"] (Zp K Rr))(b_L_next:Binds K d_L_next ["_law_draws_here"] [])(k_L_next:PySem.W.keepIn K (.ref f_L_next)=true)(m_L_next:mg "_law_next" = some (.ref f_L_next))(G_L_word:FnOk P w K mg base Ik 2 f_L_word d_L_word ["_law_draws_here", "_law_holes"] (Zp K (cD)))(b_L_word:Binds K d_L_word ["_law_draws_here", "_law_holes"] [])(k_L_word:PySem.W.keepIn K (.ref f_L_word)=true)(m_L_word:mg "_law_word" = some (.ref f_L_word))(mz_range:mg "range" = none)(mz_len:mg "len" = none):FnOk P w K mg base Ik 3 f fd ["_law_draws_here", "_law_holes", "_law_many"] (Zp K (vK)):=by
 refine' Vr (k:=2) F gJ (λcdv A outer s H E hr=>?hb) ?h
 case hb =>
  have hr1:Room 1 _:=hr.mono (by decide)
  have hr2:Room 2 _:=hr.mono (by decide)
  have hu64:=hr.units
  exact Bt (Tf (i:=3) gJ.nd rfl (Ce rfl) (Fn Au))
   (Bt (Ma Ew rfl (Mu rfl mz_range (Ak (Fx (Es G_L_next hr1 rfl m_L_next k_L_next b_L_next Fh (pv 0) Au) (Qo (Am (pv 2)) Bu)) Au)) (Hz (i:=4) gJ.nd rfl (Ce rfl))
   (Bt (Kt (pv 3) (Es G_L_word hr2 rfl m_L_word k_L_word b_L_word Fh (pv 0) (Ak (Am (pv 1)) Au)))
    (Cu (Hs (Ji hu64 (Fx (Es G_L_next hr1 rfl m_L_next k_L_next b_L_next Fh (pv 0) Au) Bu) Bu)
    (Cu (B6 (pv 3) (Am (pv 4)) (Kh (Am (pv 3)) (Fx (Es G_L_next hr1 rfl m_L_next k_L_next b_L_next Fh (pv 0) Au) (Gg Kk Ql rfl mz_len (by decide +kernel) (Ak (Am (pv 3)) Au)))))) Eu))))
   (Cu (Ek (Qa (pv 3)))))
 case h =>
  (intro ds n R q_; obtain ⟨h,m,rfl,h1,h60,m0,m60,hn,hR⟩ := q_)
  refine ⟨rfl,?_⟩
  array_get_dec
  refine ⟨rfl,by omega,λr1=>?_⟩
  array_get_dec
  have bm:=Jy r1 (b:=m+1) (by omega)
  refine ⟨by omega,by omega,by omega,?_⟩
  refine Uq (l:=Cc (r1 % (m+1)).toNat) (g:=λi:Nat=>.int i) rfl (λi δ=>∃(ws:List (List Int)) (v:DV) (n':Nat),δ=⟨[.drw,.dat .sh (.int h),.dat .sh (.int m),.dat .ow (.list (ws.map Co)),v],n'⟩/\n<=n'/\n'<=n+1+15 * i/\ws.length=i/\(∀w∈ws,Dt h w)/\NP v) ?_ ?_ ?_
  ·exact ⟨[],_,_,rfl,by omega,by omega,rfl,λ_ z=>(nomatch z),Gy⟩
  ·(intro i a _ ha q_; obtain ⟨ws,v,n1,rfl,k1,k2,lw,hw,hv⟩ := q_)
   obtain ⟨rfl,hi⟩:=Rl ha
   array_get_dec
   refine ⟨h,rfl,h1,h60,by omega,λw n2 l1 l2 rw_=>?_⟩
   array_get_dec
   refine ⟨by rw[Ab]; omega,rfl,by omega,λr2=>?_⟩
   array_get_dec
   have hall:∀x∈ws++[w],Dt h x:=λx hx=>by
    rcases Aw.mp hx with z | z
    ·exact hw x z
    ·rw[Af.mp z]; exact rw_
   refine Rp (λhb=>?_) (λhb=>?_)
   ·array_get_dec
    refine ⟨rfl,by omega,λr3=>?_⟩
    have ew:ws.map Co++[Co w]=(ws++[w]).map Co:=by rw[Bd]; rfl
    have lw1:(ws++[w]).length=a+1:=by rw[Be,Dl]; omega
    rw[ew]
    array_get_dec
    have bl:=Jy r3 (b:=((((ws++[w]).map Co).length:Nat):Int)) (by rw[Ab]; omega)
    obtain ⟨x,hx,e1⟩:=dN (ws:=ws++[w]) (i:=r3 % ((((ws++[w]).map Co).length:Nat):Int)) bl.1 (by have:=bl.2; rw[Ab] at this ⊢; omega)
    refine ⟨by rw[Ab]; omega,_,e1,?_⟩
    array_get_dec
    refine ⟨a,by unfold oH; rw[if_pos (by omega),if_pos (by rw[Ab]; omega),Qs],(ws++[w]).set a x,_,_,Qw (by rw[La]) rfl,by omega,by omega,by rw[List.length_set]; exact lw1,λy hy=>?_,Ej⟩
    rcases List.mem_or_eq_of_mem_set hy with z | z
    ·exact hall y z
    ·rw[z]; exact hall x hx
   ·array_get_dec
    exact ⟨ws++[w],_,_,Qw (by rw[Bd]; rfl) rfl,by omega,by omega,by rw[Be,Dl]; omega,hall,Ej⟩
  ·(intro _ q_; obtain ⟨ws,v,n1,rfl,k1,k2,lw,hw,hv⟩ := q_)
   rw[Dx] at lw k2
   array_get_dec
   exact ⟨k1,hR ws _ (by omega) hw k1 (by omega)⟩
theorem iG:FnScope ["_law_draws_here", "_law_holes", "_law_many", "_law_told", "_law_k", "_law_word_here", "_law_pick", "_law_other"] ["_law_draws_here", "_law_holes", "_law_many"] (Bj Rq):=⟨rfl,rfl,rfl,by decide +kernel,rfl,by decide +kernel,by decide +kernel⟩
theorem iH{f f_L_next f_L_word  : Addr}{fd d_L_next d_L_word:Bz}(F:Fun K "_law_code" "_law_code" Rq f fd)(G_L_next:FnOk P w K mg base Ik 1 f_L_next d_L_next ["_law_draws_here"] (Zp K Rr))(b_L_next:Binds K d_L_next ["_law_draws_here"] [])(k_L_next:PySem.W.keepIn K (.ref f_L_next)=true)(m_L_next:mg "_law_next" = some (.ref f_L_next))(G_L_word:FnOk P w K mg base Ik 2 f_L_word d_L_word ["_law_draws_here", "_law_holes"] (Zp K (cD)))(b_L_word:Binds K d_L_word ["_law_draws_here", "_law_holes"] [])(k_L_word:PySem.W.keepIn K (.ref f_L_word)=true)(m_L_word:mg "_law_word" = some (.ref f_L_word))(mz_range:mg "range" = none)(mz_len:mg "len" = none)(mz_sorted:mg "sorted" = none)(mz_set:mg "set" = none)(mz_tuple:mg "tuple" = none):FnOk P w K mg base Ik 3 f fd ["_law_draws_here", "_law_holes", "_law_many"] (Zp K (vH)):=by
 refine' Vr (k:=2) F iG (λcdv A outer s H E hr=>?hb) ?h
 case hb =>
  have hr1:Room 1 _:=hr.mono (by decide)
  have hr2:Room 2 _:=hr.mono (by decide)
  have hu64:=hr.units
  exact Bt (Tf (i:=3) iG.nd rfl (Ce rfl) (Fn Au))
   (Bt (Ma Ew rfl (Mu rfl mz_range (Ak (Fx (Es G_L_next hr1 rfl m_L_next k_L_next b_L_next Fh (pv 0) Au) (Qo (Am (pv 2)) Bu)) Au)) (Hz (i:=4) iG.nd rfl (Ce rfl))
   (Bt (Dz (i:=5) iG.nd rfl (Ce rfl) (Es G_L_word hr2 rfl m_L_word k_L_word b_L_word Fh (pv 0) (Ak (Am (pv 1)) Au)))
    (Bt (Dz (i:=6) iG.nd rfl (Ce rfl) (Es G_L_next hr1 rfl m_L_next k_L_next b_L_next Fh (pv 0) Au))
    (Bt (Hs (Yy (Uv (Ub hu64 (Am (pv 3)) (Fn Au)) (Qe (Ji hu64 (Fx (Am (pv 6)) Bu) Bu))))
    (Bt (Dz (i:=7) iG.nd rfl (Ce rfl) (Kj (Kh (Am (pv 3)) (Fx (Mb (Am (pv 6)) Bu) (Gg Kk Ql rfl mz_len (by decide +kernel) (Ak (Am (pv 3)) Au))))))
     (Cu (Dz (i:=5) iG.nd rfl (Ce rfl) (Gs Vz (Vw (i:=true)) rfl mz_tuple (by decide +kernel) (Ak (W9 rfl rfl mz_sorted rfl mz_set (Ak (G9 (Am (pv 7)) (aT (i:=true) (Am (pv 5)) Lp (Lo Bu))) Au)) Au))))) Eu)
    (Bt (Hs (Ji hu64 (Fx (Am (pv 6)) Bu) Bu)
    (Cu (Dz (i:=5) iG.nd rfl (Ce rfl) (aT (i:=true) (Am (pv 5)) Lp (Lo Bu)))) Eu)
    (Cu (Hs (kC hu64 (Am (pv 5)) (Am (pv 3)))
    (Cu (Kt (pv 3) (Am (pv 5)))) Eu)))))))
   (Cu (Ek (Qa (pv 3)))))
 case h =>
  (intro ds n R q_; obtain ⟨h,m,rfl,h1,h60,m0,m60,hn,hR⟩ := q_)
  refine ⟨rfl,?_⟩
  array_get_dec
  refine ⟨rfl,by omega,λr1=>?_⟩
  array_get_dec
  have bm:=Jy r1 (b:=m+1) (by omega)
  refine ⟨by omega,by omega,by omega,?_⟩
  refine Uq (l:=Cc (r1 % (m+1)).toNat) (g:=λi:Nat=>.int i) rfl (λi δ=>∃(ws:List (List Int)) (v4 v5 v6 v7:DV) (n':Nat),δ=⟨[.drw,.dat .sh (.int h),.dat .sh (.int m),.dat .ow (.list (ws.map Co)),v4,v5,v6,v7],n'⟩/\n<=n'/\n'<=n+1+15 * i/\ws.length<=i/\(∀w∈ws,Dt h w)/\ws.Nodup/\NP v4/\NP v5/\NP v6/\NP v7) ?_ ?_ ?_
  ·exact ⟨[],_,_,_,_,_,rfl,by omega,by omega,Al _,(λ_ z=>nomatch z),Cy,Gy,Gy,Gy,Gy⟩
  ·(intro i a _ ha q_; obtain ⟨ws,v4,v5,v6,v7,n1,rfl,k1,k2,lw,hw,nd,hv4,hv5,hv6,hv7⟩ := q_)
   obtain ⟨rfl,hi⟩:=Rl ha
   array_get_dec
   refine ⟨h,rfl,h1,h60,by omega,λw n2 l1 l2 rw_=>?_⟩
   array_get_dec
   refine ⟨rfl,by omega,λr2=>?_⟩
   array_get_dec
   refine Q7 (λP=>tL _ _ _ P) (λδ=>∃(w':List Int) (v7:DV),δ=⟨[.drw,.dat .sh (.int h),.dat .sh (.int m),.dat .ow (.list (ws.map Co)),.dat .sh (.int a),.dat .sh (Co w'),.dat .sh (.int r2),v7],n2+1⟩/\Dt h w'/\NP v7) (λN hN=>?_) ?_
   ·refine nM (λhb=>?_) (λhb=>?_)
    ·have hne:ws≠[]:=λz=>by rw[z] at hb; cases hb
     have hl:0<ws.length:=uW.mpr hne
     array_get_dec
     refine Rp (λhb2=>?_) (λhb2=>?_)
     ·array_get_dec
      have bl:=Jy (r2 / 4) (b:=((ws.map Co).length:Int)) (by rw[Ab]; omega)
      obtain ⟨x,hx,e1⟩:=dN (ws:=ws) (i:=r2 / 4 % ((ws.map Co).length:Int)) bl.1 (by have:=bl.2; rw[Ab] at this ⊢; omega)
      have lx:=Qj ((hw x hx).up h60)
      have l1':=Qj (rw_.up h60)
      have lc:=(Nf w none (some 1)).length_le
      refine ⟨by rw[Ab]; omega,_,e1,?_⟩
      array_get_dec
      rw[Xa]
      have hb2':∀z∈x++Ls w none (some 1),0<=z/\z<h:=λz hz=>by
       rcases Aw.mp hz with q | q
       ·exact (hw x hx).2 z q
       ·exact rw_.2 z ((Nf _ _ _).subset q)
      exact ⟨by rw[Ab,Ab]; omega,x++Ls w none (some 1),by rw[Bd],λz hz=>by have:=hb2' z hz; omega,hN _ ⟨_,_,rfl,⟨Sv _,λz hz=>hb2' z (xZ.mp hz)⟩,Ej⟩⟩
     ·array_get_dec
      exact hN _ ⟨w,_,rfl,rw_,hv7⟩
    ·array_get_dec
     exact hN _ ⟨w,_,rfl,rw_,hv7⟩
   ·clear hv7
    (intro _ q_; obtain ⟨w1,v7,rfl,rw1,hv7⟩ := q_)
    array_get_dec
    refine qQ (λδ=>∃(w':List Int),δ=⟨[.drw,.dat .sh (.int h),.dat .sh (.int m),.dat .ow (.list (ws.map Co)),.dat .sh (.int a),.dat .sh (Co w'),.dat .sh (.int r2),v7],n2+1⟩/\Dt h w') (λN hN=>?_) ?_
    ·refine Rp (λhb=>?_) (λhb=>?_)
     ·array_get_dec
      rw[Xa]
      exact hN _ ⟨Ls w1 none (some 2),rfl,rw1.sub (Nf _ _ _)⟩
     ·array_get_dec
      exact hN _ ⟨w1,rfl,rw1⟩
    ·(intro _ q_; obtain ⟨w',rfl,rw'⟩ := q_)
     array_get_dec
     refine Rp (λhb=>?_) (λhb=>?_)
     ·array_get_dec
      refine ⟨by simp [npk,hv7 _],by rw[Ab]; omega,ws++[w'],_,_,_,_,_,Qw (by rw[Bd]; rfl) rfl,by omega,by omega,by rw[Be,Dl]; omega,λx hx=>?_,?_,Ej,Ej,Ej,hv7⟩
      ·rcases Aw.mp hx with z | z
       ·exact hw x z
       ·rw[Af.mp z]; exact rw'
      ·have nm:w'∉ws:=λz=>by
        rw[decide_eq_true z] at hb
        cases hb
       exact Fo.mpr ⟨nd,Cd.mpr ⟨(λz=>nomatch z),Cy⟩,λx hx y hy e=>nm (by rw[<- Af.mp hy,<- e]; exact hx)⟩
     ·array_get_dec
      exact ⟨ws,_,_,_,_,_,rfl,by omega,by omega,by omega,hw,nd,Ej,Ej,Ej,hv7⟩
  ·(intro _ q_; obtain ⟨ws,v4,v5,v6,v7,n1,rfl,k1,k2,lw,hw,nd,hv4,hv5,hv6,hv7⟩ := q_)
   rw[Dx] at lw k2
   array_get_dec
   exact ⟨k1,hR ws _ (by omega) hw nd k1 (by omega)⟩
end
open DRow
theorem iM{w:List Int}(r:Dt 60 w):gQ (wt w):=⟨kS r,F8 r (by unfold BE GS; omega),(Wa r).hd⟩
theorem gP(p:DRow.Ps):(pt p).cps.toList=(wt p.1).cps.toList++[58,if p.2=true then 98 else 102]:=by
 unfold pt
 rw[Hf]
 cases p.2
 ·rw[show (Lr false).cps.toList=[58,102] by decide +kernel]; rfl
 ·rw[show (Lr true).cps.toList=[58,98] by decide +kernel]; rfl
theorem F3{p:DRow.Ps}(r:Dt 60 p.1):gQ (pt p):=by
 have k:=iM r
 refine ⟨λc hc=>?_,λhc=>?_,?_⟩
 ·rw[gP] at hc
  rcases Aw.mp hc with hc | hc
  ·exact k.1 c hc
  ·simp only[Ap,Cj,or_false] at hc
   rcases hc with rfl | rfl
   ·decide
   ·split <;> decide
 ·rw[gP] at hc
  rcases Aw.mp hc with hc | hc
  ·exact k.2.1 hc
  ·simp only[Ap,Cj,or_false] at hc
   rcases hc with hc | hc
   ·cases hc
   ·split at hc <;> cases hc
 ·obtain ⟨c,hc,oc⟩:=k.2.2
  refine ⟨c,?_,oc⟩
  rw[gP,Jx (Av.mp hc).1]
  exact hc
theorem zY{p:DRow.Ps}(r:Dt 60 p.1):(pt p).length<=182:=by
 have:=(Wa r).len
 unfold pt
 rw[Ve]
 have : (Lr p.2).length=2:=by cases p.2 <;> decide +kernel
 omega
theorem tS(b:Bool):∃c,(Ug b).cps.toList[0]? = some c/\(":" : Str)++(⟨#[c]⟩ : Str)=Lr b:=by
 cases b
 ·exact ⟨102,by decide +kernel,by decide +kernel⟩
 ·exact ⟨98,by decide +kernel,by decide +kernel⟩
theorem uH(a b c:Str):a++b++c=a++(b++c):=Jt (by rw[Hf,Hf,Hf,Hf,Ee])
def qV:PF:=λds R=>∃D:List (List Int),ds=[.list (D.map Co)]/\(∀w∈D,Dt 60 w)/\D.length<=60/\R (.str (Ng (D.map wt)))
def pO:PF:=λds R=>∃ps:List DRow.Ps,ds=[.list (ps.map Mz)]/\(∀p∈ps,Dt 60 p.1)/\ps.length<=60/\R (.str (Ng (ps.map pt)))
section
variable{P:Bh}{w:World}{K:PySem.W.Frag}{mg:Str->Option Value}{base:Heap}
theorem Vy:FnScope ["_law_word_here"] ["_law_word_here"] (Bj Gr):=⟨rfl,rfl,rfl,by decide +kernel,rfl,by decide +kernel,by decide +kernel⟩
theorem Wk{f   : Addr}{fd  : Bz}(F:Fun K "_law_word_text" "_law_word_text" Gr f fd)(mz_str:mg "str" = none):FnOk P w K mg base Ik 1 f fd ["_law_word_here"] (Zt K (Zl)):=by
 refine' Oc (k:=0) F Vy (λcdv A outer s H E hr=>?hb) ?h
 case hb =>
  have hu64:=hr.units
  have hrx:Room 0 (Hq Ik P w K mg base ["_law_word_here"] "_law_word_text" (Bj Gr) f cdv A outer s H E).nox.A:=hr
  have hu100:(Hq Ik P w K mg base ["_law_word_here"] "_law_word_text" (Bj Gr) f cdv A outer s H E).nox.A.units+100<cLine:=by have:=hrx.un; omega
  have CS1:∀{scope:Scope} (h:scope={ kind:=.function,names:=[(".0",.local),("_law_place",.local),("str",.globalImplicit)],isGenerator:=false,isCoroutine:=false }),
    CompScope (Hq Ik P w K mg base ["_law_word_here"] "_law_word_text" (Bj Gr) f cdv A outer s H E).nox scope [] "_law_place" [] []:=by
   rintro scope rfl
   exact Nd.compScope0 (by rfl) (by decide +kernel) (by rfl) (by decide +kernel) (by rfl) (by rfl)
  exact Bt (Hs (Ji hu64 (Am (pv 0)) (Sg Au))
   (Cu (Ek Dy)) Eu)
   (Cu (Ek (gW Dy (Zu (CS1 rfl) rfl (HZ (Am (pv 0))) (λ_ _ _=>Lq) (λ_ _ _=>Gs (Pc hr.gd hu100) aX rfl mz_str (by decide +kernel) (Ak (Am (pv 0)) Au))))))
 case h =>
  (intro ds R q_; obtain ⟨w,rfl,r,hR⟩ := q_)
  refine ⟨rfl,?_⟩
  array_get_dec
  rw[show PyData.tuple []=Co [] from rfl,Rv]
  by_cases e:w=[]
  ·subst e
   rw[decide_eq_true rfl]
   array_get_dec
   exact hR
  ·rw[decide_eq_false e]
   array_get_dec
   refine t8 (l:=w) (g:=Bs) rfl (λi=>.str (Om i)) (λj hj yes no hy=>?_) ?_
   ·array_get_dec
    exact ⟨zQ (r.2 j hj).1 (r.2 j hj).2,by simp [Cv],hy⟩
   array_get_dec
   refine ⟨w.map Om,by rw[Hl]; rfl,J0 r,?_⟩
   rw[<- F9 e]
   exact hR
theorem Wf:FnScope ["_law_deck_here"] ["_law_deck_here"] (Bj Jg):=⟨rfl,rfl,rfl,by decide +kernel,rfl,by decide +kernel,by decide +kernel⟩
theorem Vl{f f_L_word_text  : Addr}{fd d_L_word_text:Bz}(F:Fun K "_law_deck_text" "_law_deck_text" Jg f fd)(G_L_word_text:FnOk P w K mg base Ik 1 f_L_word_text d_L_word_text ["_law_word_here"] (Zt K (Zl)))(b_L_word_text:Binds K d_L_word_text ["_law_word_here"] [])(k_L_word_text:PySem.W.keepIn K (.ref f_L_word_text)=true)(m_L_word_text:mg "_law_word_text" = some (.ref f_L_word_text)):FnOk P w K mg base Ik 2 f fd ["_law_deck_here"] (Zt K (qV)):=by
 refine' Oc (k:=1) F Wf (λcdv A outer s H E hr=>?hb) ?h
 case hb =>
  have hr1:Room 1 _:=hr.mono (by decide)
  have hu64:=hr.units
  have CS1:∀{scope:Scope} (h:scope={ kind:=.function,names:=[(".0",.local),("_law_word_here",.local),("_law_word_text",.globalImplicit)],isGenerator:=false,isCoroutine:=false }),
    CompScope (Hq Ik P w K mg base ["_law_deck_here"] "_law_deck_text" (Bj Jg) f cdv A outer s H E).nox scope [] "_law_word_here" [] []:=by
   rintro scope rfl
   exact Nd.compScope0 (by rfl) (by decide +kernel) (by rfl) (by decide +kernel) (by rfl) (by rfl)
  exact Bt (Hs (Ji hu64 (Am (pv 0)) (Fn Au))
   (Cu (Ek Dy)) Eu)
   (Cu (Ek (gW Dy (Zu (CS1 rfl) rfl (N7 (Am (pv 0))) (λ_ _ _=>Lq) (λ_ _ _=>Hm G_L_word_text hr1 rfl m_L_word_text k_L_word_text b_L_word_text Fh (Ak (Am (pv 0)) Au))))))
 case h =>
  (intro ds R q_; obtain ⟨D,rfl,r,l60,hR⟩ := q_)
  refine ⟨rfl,?_⟩
  array_get_dec
  cases D with
  | nil =>
   array_get_dec
   exact hR
  | cons u D =>
  array_get_dec
  refine t8 (l:=u::D) (g:=Co) rfl (λw=>.str (wt w)) (λw hw yes no hy=>?_) ?_
  ·array_get_dec
   refine ⟨w,rfl,r w hw,?_⟩
   array_get_dec
   exact hy
  array_get_dec
  refine ⟨(u::D).map wt,by rw[Hl]; rfl,?_,hR⟩
  have:=Pe (sep := " ") (k:=181) (ps:=(u::D).map wt) λp hp=>by
   obtain ⟨w,hw,rfl⟩:=Ci.mp hp
   have:=(Wa (r w hw)).len
   rw[Ie]
   omega
  rw[Ab] at this
  omega
theorem Xs:FnScope ["_law_row_here"] ["_law_row_here"] (Bj Jr):=⟨rfl,rfl,rfl,by decide +kernel,rfl,by decide +kernel,by decide +kernel⟩
theorem Xm{f f_L_word_text  : Addr}{fd d_L_word_text:Bz}(F:Fun K "_law_row_text" "_law_row_text" Jr f fd)(G_L_word_text:FnOk P w K mg base Ik 1 f_L_word_text d_L_word_text ["_law_word_here"] (Zt K (Zl)))(b_L_word_text:Binds K d_L_word_text ["_law_word_here"] [])(k_L_word_text:PySem.W.keepIn K (.ref f_L_word_text)=true)(m_L_word_text:mg "_law_word_text" = some (.ref f_L_word_text)):FnOk P w K mg base Ik 2 f fd ["_law_row_here"] (Zt K (pO)):=by
 refine' Oc (k:=1) F Xs (λcdv A outer s H E hr=>?hb) ?h
 case hb =>
  have hr1:Room 1 _:=hr.mono (by decide)
  have hu64:=hr.units
  have CS1:∀{scope:Scope} (h:scope={ kind:=.function,names:=[(".0",.local),("_law_needles",.local),("_law_side",.local),("_law_word_text",.globalImplicit)],isGenerator:=false,isCoroutine:=false }),
    CompScope (Hq Ik P w K mg base ["_law_row_here"] "_law_row_text" (Bj Jr) f cdv A outer s H E).nox scope [] "_law_needles" [] []:=by
   rintro scope rfl
   exact Nd.compScope0 (by rfl) (by decide +kernel) (by rfl) (by decide +kernel) (by rfl) (by rfl)
  exact Bt (Hs (Ji hu64 (Am (pv 0)) (Fn Au))
   (Cu (Ek Dy)) Eu)
   (Cu (Ek (gW Dy (vX (CS1 rfl) (.inl rfl) (by decide +kernel) rfl (N7 (Am (pv 0))) (λ_ _ _=>Lq) (λ_ _ _=>Sr (Sr (Hm G_L_word_text hr1 rfl m_L_word_text k_L_word_text b_L_word_text Fh (Ak (Am (pv 0)) Au)) Dy) (Kh (Am (pv 1)) Bu))))))
 case h =>
  (intro ds R q_; obtain ⟨ps,rfl,r,l60,hR⟩ := q_)
  refine ⟨rfl,?_⟩
  array_get_dec
  cases ps with
  | nil =>
   array_get_dec
   exact hR
  | cons u ps =>
  array_get_dec
  refine Y7 (l:=u::ps) (g1:=λp=>Co p.1) (g2:=λp=>.str (Ug p.2)) rfl (λ_=>true) (λp=>.str (pt p)) (λp hp yes no hy _=>?_) ?_
  ·obtain ⟨c,hc,ec⟩:=tS p.2
   have lw:=(Wa (r p hp)).len
   have l1:Ho (⟨#[c]⟩ : Str)=1:=rfl
   have l2:(Ug p.2).length<=5:=by cases p.2 <;> decide +kernel
   array_get_dec
   refine ⟨p.1,rfl,r p hp,?_⟩
   array_get_dec
   refine ⟨by rw[Tj]; omega,sz (by omega),c,Zf (j:=0) hc,?_⟩
   array_get_dec
   refine ⟨by rw[Ve,Tj,l1]; omega,?_⟩
   rw[uH,ec]
   exact hy rfl
  rw[uX.mpr λ_ _=>rfl]
  array_get_dec
  refine ⟨(u::ps).map pt,by rw[Hl]; rfl,?_,hR⟩
  have:=Pe (sep := " ") (k:=183) (ps:=(u::ps).map pt) λp hp=>by
   obtain ⟨q,hq,rfl⟩:=Ci.mp hp
   have:=zY (r q hq)
   rw[Ie]
   omega
  rw[Ab] at this
  omega
end
def gI(z:Str):Ad:=match tU z with | some i=>.int i | none=>.none
def yR:PF:=λds R=>∃z,ds=[.str z]/\Xj z/\R (gI z)
theorem F7(l:List Nat)(c:Nat):Fe (l++[c])=Fe l * 10+(c - 48):=by
 unfold Fe
 rw[List.foldl_append]
 rfl
theorem wR:∀n:Fin 10,Txt.find "0123456789" ⟨#[48+n.1]⟩=(n.1:Int):=by decide +kernel
theorem yY{c:Nat}(h:Rk c=true):Txt.find "0123456789" ⟨#[c]⟩=((c - 48:Nat):Int):=by
 unfold Rk at h
 simp only[Di,decide_eq_true_eq] at h
 have:=wR ⟨c - 48,by omega⟩
 rwa [show 48+(c - 48)=c by omega] at this
theorem D0{z:Str}(h:Jb z=false):gI z=.none:=by
 unfold gI tU
 rw[h]
 rfl
theorem j7{z:Str}(h:Jb z=true):gI z=.int (Fe z.cps.toList:Nat):=by
 unfold gI tU
 rw[h]
 rfl
section
variable{P:Bh}{w:World}{K:PySem.W.Frag}{mg:Str->Option Value}{base:Heap}
theorem Zz:FnScope ["_law_text", "_law_sign", "_law_told"] ["_law_text"] (Bj Li):=⟨rfl,rfl,rfl,by decide +kernel,rfl,by decide +kernel,by decide +kernel⟩
theorem bC{f   : Addr}{fd  : Bz}(F:Fun K "_law_number" "_law_number" Li f fd)(mz_len:mg "len" = none):FnOk P w K mg base Ik 1 f fd ["_law_text"] (Zt K (yR)):=by
 refine' Oc (k:=0) F Zz (λcdv A outer s H E hr=>?hb) ?h
 case hb =>
  have hu64:=hr.units
  have CS1:∀{scope:Scope} (h:scope={ kind:=.function,names:=[(".0",.local),("_law_sign",.local)],isGenerator:=false,isCoroutine:=false }),
    CompScope (Hq Ik P w K mg base ["_law_text", "_law_sign", "_law_told"] "_law_number" (Bj Li) f cdv A outer s H E).nox scope [] "_law_sign" [] []:=by
   rintro scope rfl
   exact Nd.compScope0 (by rfl) (by decide +kernel) (by rfl) (by decide +kernel) (by rfl) (by rfl)
  exact Bt (Hs (Yy (Wg (i6 (Gg Kk Ql rfl mz_len (by decide +kernel) (Ak (Am (pv 0)) Au)) Bu) (Wg (xH (Gg Kk Ql rfl mz_len (by decide +kernel) (Ak (Am (pv 0)) Au)) Bu) (bI (Ub hu64 (Zu (CS1 rfl) rfl (nX (Am (pv 0))) (λ_ _ _=>C4 (uP (Am (pv 0)) Dy)) (λ_ _ _=>Am (pv 0))) (Fn Au))))))
   (Cu (Ek On)) Eu)
   (Bt (Hs (Yy (Uv (Ji hu64 (Kh (Am (pv 0)) Bu) Dy) (Qe (Ub hu64 (Am (pv 0)) Dy))))
   (Cu (Ek On)) Eu)
   (Bt (Dz (i:=2) Zz.nd rfl (Ce rfl) Bu)
   (Bt (Ma Ew rfl (nX (Am (pv 0))) (Hz (i:=1) Zz.nd rfl (Ce rfl))
   (Cu (Dz (i:=2) Zz.nd rfl (Ce rfl) (Qo (Z2 Bu (Am (pv 2))) (G4 Dy (Am (pv 1)))))))
   (Cu (Ek (Kj (Am (pv 2))))))))
 case h =>
  (intro ds R q_; obtain ⟨z,rfl,⟨hz,lz⟩,hR⟩ := q_)
  refine ⟨rfl,?_⟩
  array_get_dec
  refine ⟨by omega,?_⟩
  have bad:Jb z=false->R .none:=λh=>by rw[<- D0 h]; exact hR
  refine eR (λh1=>?_) (λh1=>?_)
  ·have h1:=of_decide_eq_true h1
   array_get_dec
   exact bad (by unfold Jb; rw[decide_eq_false (show ¬ 1<=z.length by omega)]; rfl)
  have h1:=of_decide_eq_false h1
  array_get_dec
  refine ⟨by omega,?_⟩
  refine eR (λh2=>?_) (λh2=>?_)
  ·have h2:=of_decide_eq_true h2
   array_get_dec
   exact bad (by unfold Jb; rw[decide_eq_false (show ¬ z.length<=20 by omega),Fp]; rfl)
  have h2:=of_decide_eq_false h2
  array_get_dec
  refine ⟨hz,by omega,?_⟩
  unfold signs
  refine R3 (l:=z.cps.toList) (g:=λc=>.str ⟨#[c]⟩) rfl (λc=>!Rk c) (λc=>.str ⟨#[c]⟩) (λc hc yes no hy hn=>?_) ?_
  ·array_get_dec
   rw[rE ⟨c,hz c hc⟩]
   cases hd:Rk c with
   | false =>
    array_get_dec
    exact hy (by rw[hd]; rfl)
   | true =>
    array_get_dec
    exact hn (by rw[hd]; rfl)
  cases hf:z.cps.toList.filter (λc=>!Rk c) with
  | cons y ys =>
   array_get_dec
   refine bad ?_
   unfold Jb
   have : z.cps.toList.all Rk=false:=by
    have my:y∈z.cps.toList.filter (λc=>!Rk c):=by rw[hf]; exact Aa
    obtain ⟨q1,q2⟩:=dM.mp my
    exact List.all_eq_false.mpr ⟨y,q1,by simpa using q2⟩
   rw[this,Fp]
   rfl
  | nil =>
  have h3:z.cps.toList.all Rk=true:=List.all_eq_true.mpr λc hc=>by
   have:=List.filter_eq_nil_iff.mp hf c hc
   simpa using this
  array_get_dec
  obtain ⟨c,hc⟩ : ∃c,z.cps.toList[0]? = some c:=⟨_,Dg (by rw[Ag]; show 0<z.length; omega)⟩
  refine ⟨Ba lz (dA (by decide)),c,Zf (j:=0) hc,?_⟩
  array_get_dec
  rw[Q2 hc]
  have okd:(decide (z.cps.toList[0]?≠some 48) || decide (z = "0"))=true->Jb z=true:=λh=>by
   unfold Jb
   rw[h3,h,decide_eq_true (show 1<=z.length by omega),decide_eq_true (show z.length<=20 by omega)]
   rfl
  refine Q7 (λt=>tL (dB (Tz (cT true) (E3 0) (dC (.str (Ju "0"))))) (decide (z.cps.toList[0]? = some 48)) { sl:=[.dat .sh (.str z),.un,.un],n:=0 } t) (λδ=>δ=⟨[.dat .sh (.str z),.un,.un],0⟩/\Jb z=true) (λN hN=>?_) ?_
  ·refine nM (λh4=>?_) (λh4=>?_)
   ·have h4:=of_decide_eq_true h4
    array_get_dec
    rw[Od]
    by_cases h5:z = "0"
    ·rw[decide_eq_true h5]
     array_get_dec
     exact hN _ ⟨rfl,okd (by rw[decide_eq_true h5,Sq])⟩
    ·rw[decide_eq_false h5]
     array_get_dec
     exact bad (by
      unfold Jb
      rw[decide_eq_false h5,decide_eq_false (show ¬ (z.cps.toList[0]?≠some 48) from λk=>k h4),Qt,Fp])
   ·have h4:=of_decide_eq_false h4
    array_get_dec
    exact hN _ ⟨rfl,okd (by rw[decide_eq_true (show z.cps.toList[0]?≠some 48 from h4)]; rfl)⟩
  rintro _ ⟨rfl,ok⟩
  rw[j7 ok] at hR
  array_get_dec
  refine ⟨hz,by omega,?_⟩
  unfold signs
  refine Uq (l:=z.cps.toList) (g:=λc=>.str ⟨#[c]⟩) rfl (λi δ=>∃v1:DV,δ=⟨[.dat .sh (.str z),v1,.dat .sh (.int (Fe (z.cps.toList.take i):Nat))],0⟩) ?_ ?_ ?_
  ·exact ⟨_,rfl⟩
  ·rintro i c _ hc ⟨v1,rfl⟩
   have dc:=Jp.mp h3 c (Ay hc)
   array_get_dec
   rw[yY dc,Gb hc,F7]
   exact ⟨_,Qw (by rw[show (10 * ((Fe (z.cps.toList.take i):Nat):Int)+((c - 48:Nat):Int))=((Fe (z.cps.toList.take i) * 10+(c - 48):Nat):Int) by omega]) rfl⟩
  ·rintro _ ⟨v1,rfl⟩
   rw[Dr]
   array_get_dec
   exact hR
end
open DRow
def O5:PF:=λds R=>∃(h:Int) (z:Str),ds=[.int h,.str z]/\h<=60/\Xj z/\(∀w,RW h z w->R (Co w))/\((∀w,¬ RW h z w)->R .none)
theorem A2.take{α β:Type}{r:α->β->Prop}{as:List α}{bs:List β}(h:A2 r as bs)(i:Nat):A2 r (as.take i) (bs.take i):=by
 induction h generalizing i with
 | nil=>rw[List.take_nil,List.take_nil]; exact .nil
 | cons x _ ih =>
  cases i with
  | zero=>exact .nil
  | succ i=>rw[List.take_succ_cons,List.take_succ_cons]; exact .cons x (ih i)
theorem B9:∀(a:Str) (b b':Int),Xu a b->Xu a b'->b=b':=λ_ _ _ x y=>Br (x.symm.trans y)
section
variable{P:Bh}{w:World}{K:PySem.W.Frag}{mg:Str->Option Value}{base:Heap}
theorem Wc:FnScope ["_law_holes", "_law_text", "_law_told", "_law_part", "_law_place"] ["_law_holes", "_law_text"] (Bj Kv):=⟨rfl,rfl,rfl,by decide +kernel,rfl,by decide +kernel,by decide +kernel⟩
theorem Vm{f f_L_number  : Addr}{fd d_L_number:Bz}(F:Fun K "_law_read_word" "_law_read_word" Kv f fd)(G_L_number:FnOk P w K mg base Ik 1 f_L_number d_L_number ["_law_text"] (Zt K (yR)))(b_L_number:Binds K d_L_number ["_law_text"] [])(k_L_number:PySem.W.keepIn K (.ref f_L_number)=true)(m_L_number:mg "_law_number" = some (.ref f_L_number))(mz_tuple:mg "tuple" = none):FnOk P w K mg base Ik 2 f fd ["_law_holes", "_law_text"] (Zt K (O5)):=by
 refine' Oc (k:=1) F Wc (λcdv A outer s H E hr=>?hb) ?h
 case hb =>
  have hr1:Room 1 _:=hr.mono (by decide)
  have hu64:=hr.units
  exact Bt (Hs (Ji hu64 (Am (pv 1)) Dy)
   (Cu (Ek (Sg Au))) Eu)
   (Bt (Tf (i:=2) Wc.nd rfl (Ce rfl) (Fn Au))
   (Bt (Ma Ew rfl (N7 (Vj (Am (pv 1)) Dy)) (Hz (i:=3) Wc.nd rfl (Ce rfl))
   (Bt (Dz (i:=4) Wc.nd rfl (Ce rfl) (Hm G_L_number hr1 rfl m_L_number k_L_number b_L_number Fh (Ak (Am (pv 3)) Au)))
    (Bt (Hs (Yy (Wg (zS (Am (pv 4)) On) (Wg (S9 (Am (pv 4)) (Am (pv 0))) (bI (Yy (Uv (Ub hu64 (Am (pv 2)) (Fn Au)) (Qe (BO (Am (pv 4)) (Kh (Am (pv 2)) (nQ Bu))))))))))
    (Cu (Ek On)) Eu)
    (Cu (Kt (pv 2) (Am (pv 4)))))))
   (Cu (Ek (Gs Vz (Vw (i:=true)) rfl mz_tuple (by decide +kernel) (Ak (Am (pv 2)) Au))))))
 case h =>
  (intro ds R q_; obtain ⟨h,z,rfl,h60,hz,hR,hN⟩ := q_)
  refine ⟨rfl,?_⟩
  array_get_dec
  rw[Od]
  by_cases e:z = "-"
  ·rw[decide_eq_true e]
   array_get_dec
   exact hR [] (.inl ⟨e,rfl⟩)
  rw[decide_eq_false e]
  array_get_dec
  refine ⟨by have:=hz.2; omega,hz.1,Pd,eE,?_⟩
  refine Uq (l:=Tw z ",") (g:=Cp) rfl (λi δ=>∃(w:List Int) (v3 v4:DV),δ=⟨[.dat .sh (.int h),.dat .sh (.str z),.dat .ow (.list (w.map Bs)),v3,v4],0⟩/\NP v3/\NP v4/\A2 Xu ((Tw z ",").take i) w/\Dt h w) ?_ ?_ ?_
  ·exact ⟨[],_,_,rfl,Gy,Gy,.nil,Dt.nil _⟩
  ·(intro i p _ hp q_; obtain ⟨w,v3,v4,rfl,hv3,hv4,hw,rw_⟩ := q_)
   have mp:=Ay hp
   array_get_dec
   refine ⟨p,rfl,aN Pd hz p mp,?_⟩
   have full:∀w',RW h z w'->A2 Xu ((Tw z ",").take (i+1)) (w'.take (i+1))/\Dt h w':=λw' k=>by
    rcases k with ⟨e1,_⟩ | ⟨_,k,r⟩
    ·exact absurd e1 e
    ·exact ⟨k.take _,r⟩
   have lw:w.length<=20002:=by
    have:=h9 z ","
    have:=hz.2
    have l:=hw.len
    rw[Da] at l
    omega
   cases hn:tU p with
   | none =>
    rw[show gI p=.none by unfold gI; rw[hn]]
    array_get_dec
    rw[show isNone Hk=true from rfl]
    array_get_dec
    refine hN λw' k=>?_
    obtain ⟨k1,_⟩:=full w' k
    obtain ⟨j,_,hj⟩:=k1.mem p (by rw[Gb hp]; exact Ai _ Aa)
    unfold Xu at hj
    rw[hn] at hj
    cases hj
   | some j =>
   rw[show gI p=.int j by unfold gI; rw[hn]]
   have j0:0<=j:=by
    have:=(BL.mp hn).2
    omega
   have hw2:A2 Xu ((Tw z ",").take (i+1)) (w++[j]):=by rw[Gb hp]; exact hw.snoc hn
   have bad:¬ Dt h (w++[j])->R .none:=λnr=>hN λw' k=>by
    obtain ⟨k1,k2⟩:=full w' k
    have eq:=k1.one B9 hw2
    refine nr ?_
    rw[<- eq]
    exact ⟨k2.1.sublist (Gj _ _),λx hx=>k2.2 x (Mr hx)⟩
   array_get_dec
   rw[show isNone (Bs j)=false from rfl]
   array_get_dec
   refine eR (λq=>?_) (λq=>?_)
   ·have q:=of_decide_eq_true q
    array_get_dec
    refine bad λr=>?_
    have:=r.2 j (Ai _ Aa)
    omega
   have q:=of_decide_eq_false q
   array_get_dec
   by_cases ew:w=[]
   ·subst ew
    array_get_dec
    refine ⟨[j],_,_,rfl,Ej,Ej,hw2,⟨Gk _ _,λx hx=>?_⟩⟩
    rw[Af.mp hx]
    omega
   ·obtain ⟨u,v,rfl⟩:=Jm ew
    obtain ⟨x,hx,ex,gx⟩:=mW (l:=u::v) ew
    array_get_dec
    refine ⟨.int x,by rw[show (Bs u::v.map Bs)=(u::v).map Bs from rfl,gO,ex]; rfl,?_⟩
    array_get_dec
    refine Rp (λq2=>?_) (λq2=>?_)
    ·have q2:=of_decide_eq_true q2
     array_get_dec
     refine bad λr=>?_
     have:=(Dw.mp r.1).2.2 x hx j (Af.mpr rfl)
     omega
    ·have q2:=of_decide_eq_false q2
     have le:∀a∈u::v,a<=x:=λa ha=>by
      obtain ⟨ys,e⟩:=List.getLast?_eq_some_iff.mp gx
      have r:=rw_.1
      rw[e] at ha r
      rcases Aw.mp ha with z | z
      ·have:=(Dw.mp r).2.2 a z x (Af.mpr rfl)
       omega
      ·rw[Af.mp z]; exact Int.le_refl _
     have ll:(v.map Bs).length+1<1000000:=by rw[Ab]; rw[Bq] at lw; omega
     array_get_dec
     refine ⟨ll,u::v++[j],_,_,Qw (by rw[En,Ar,Bd]; rfl) rfl,Ej,Ej,hw2,⟨Dw.mpr ⟨rw_.1,Gk _ _,λa ha b hb=>?_⟩,λy hy=>?_⟩⟩
     ·have:=le a ha
      rw[Af.mp hb]; omega
     ·rcases Aw.mp hy with z | z
      ·exact rw_.2 y z
      ·rw[Af.mp z]; omega
  ·(intro _ q_; obtain ⟨w,v3,v4,rfl,hv3,hv4,hw,rw_⟩ := q_)
   rw[Dr] at hw
   array_get_dec
   exact hR w (.inr ⟨e,hw,rw_⟩)
end
open DRow
theorem qU(z:Str):(Cm z (some (-2)) none).cps.toList=z.cps.toList.drop (z.length - 2):=by
 have lz:z.cps.toList.length=z.length:=Ag
 rw[PyProof.Rows.slice_from_neg (by decide),Me (x:=z) (b:=(z.length:Int)) (by omega) (by omega) rfl,Nr]
 have e:(max 0 ((z.length:Int) + -2)).toNat=z.length - 2:=by omega
 rw[e,Kz (by rw[Rc,lz]; omega)]
theorem Zn(z:Str):(Cm z none (some (-2))).cps.toList=z.cps.toList.take (z.length - 2):=by
 have lz:z.cps.toList.length=z.length:=Ag
 rw[PyProof.Rows.slice_to_neg (by decide),Qp (PyProof.Rows.slice_closes_to (x:=z) (by rw[lz]; omega)),Nr]
 have e:(max 0 ((z.length:Int) + -2) - 0).toNat=z.length - 2:=by omega
 rw[e]
 rfl
theorem R0{z:Str}(h:Xj z):Xj (Cm z none (some (-2))):=by
 have e:=Zn z
 refine ⟨λc hc=>?_,Ba (Txt.slice_le _ _ _) h.2⟩
 rw[e] at hc
 exact h.1 c (Mr hc)
theorem mO(b:Bool):(Lr b).cps.toList.length=2:=by cases b <;> decide +kernel
theorem FS{z:Str}{b:Bool}:Cm z (some (-2)) none=Lr b↔z=Cm z none (some (-2))++Lr b:=by
 have lz:z.cps.toList.length=z.length:=Ag
 constructor
 ·intro e
  refine Jt ?_
  rw[Hf,Zn,<- e,qU,Lz]
 ·intro e
  refine Jt ?_
  rw[qU]
  have q:=congrArg (λs:Str=>s.cps.toList) e
  rw[Hf,Zn] at q
  have l:=congrArg Fs q
  rw[Be,mO,Da,lz] at l
  have : z.cps.toList=z.cps.toList.take (z.length - 2)++z.cps.toList.drop (z.length - 2):=(Lz _ _).symm
  rw[q] at this
  exact (Kn (q.symm.trans (Lz (z.length - 2) z.cps.toList).symm)).symm
theorem CU{z x:Str}{b:Bool}(e:z=x++Lr b):Cm z none (some (-2))=x:=by
 refine Jt ?_
 have lz:z.cps.toList.length=z.length:=Ag
 rw[Zn,<- lz,e,Hf,Be,mO,Yu,List.take_left' rfl]
theorem GG{h:Int}{z:Str}{p:Ps}:RP h z p↔Cm z (some (-2)) none=Lr p.2/\RW h (Cm z none (some (-2))) p.1:=by
 constructor
 ·(intro q_; obtain ⟨x,e,k⟩ := q_)
  have ex:=CU e
  refine ⟨FS.mpr (by rw[ex]; exact e),by rw[ex]; exact k⟩
 ·rintro ⟨e,k⟩
  exact ⟨_,FS.mp e,k⟩
def u9(Hh h:Int)(z:Str)(v:Ad):Prop:=(Hh=0/\∃w,RW h z w/\v=Co w)\/(Hh=1/\∃D,RL (RW h) z D/\v=.list (D.map Co))\/(Hh=2/\∃D,RL (RP h) z D/\v=.list (D.map Mz))\/(Hh=3/\∃D,RL (RW h) z D/\D.Nodup/\v=.list (D.map Co))
theorem u9.one{Hh h:Int}{z:Str}{v v':Ad}(a:u9 Hh h z v)(b:u9 Hh h z v'):v=v':=by
 rcases a with ⟨e,w,a,rfl⟩ | ⟨e,w,a,rfl⟩ | ⟨e,w,a,rfl⟩ | ⟨e,w,a,_,rfl⟩ <;> rcases b with ⟨e',w',b,rfl⟩ | ⟨e',w',b,rfl⟩ | ⟨e',w',b,rfl⟩ | ⟨e',w',b,_,rfl⟩ <;> first
  | exact absurd (e.symm.trans e') (by decide)
  | rw[a.one b]
  | rw[a.one (λ_ _ _ x y=>x.one y) b]
theorem DD{h:Int}{z:Str}{v:Ad}(k:u9 1 h z v):∃D,RL (RW h) z D/\True:=by
 rcases k with ⟨e,_⟩ | ⟨e,D,k,_⟩ | ⟨e,_⟩ | ⟨e,_⟩
 ·cases e
 ·exact ⟨D,k,trivial⟩
 ·cases e
 ·cases e
theorem DP{h:Int}{z:Str}{v:Ad}(k:u9 2 h z v):∃D,RL (RP h) z D:=by
 rcases k with ⟨e,_⟩ | ⟨e,_⟩ | ⟨e,D,k,_⟩ | ⟨e,_⟩
 ·cases e
 ·cases e
 ·exact ⟨D,k⟩
 ·cases e
theorem V2{h:Int}{z:Str}{v:Ad}(k:u9 3 h z v):∃D,RL (RW h) z D/\D.Nodup:=by
 rcases k with ⟨e,_⟩ | ⟨e,_⟩ | ⟨e,_⟩ | ⟨e,D,k,n,_⟩
 ·cases e
 ·cases e
 ·cases e
 ·exact ⟨D,k,n⟩
def Zo:PF:=λds R=>∃(Hh h:Int) (d:Ad),ds=[.int Hh,.int h,d]/\0<=Hh/\Hh<=3/\h<=60/\(∀z,d=.str z->Uy z)/\(∀z v,d=.str z->u9 Hh h z v->R v)/\((∀z v,d=.str z->¬ u9 Hh h z v)->R .none)
theorem qR:Tw "none" " " = [("none" : Str)]:=by decide +kernel
theorem rY{h:Int}{w:List Int}:¬ RW h "none" w:=by
 rintro (⟨e,_⟩ | ⟨_,k,_⟩)
 ·exact absurd e (by decide +kernel)
 ·obtain ⟨i,_,hi⟩:=k.mem "none" (by decide +kernel)
  have:=(BL.mp hi).1
  exact absurd this (by decide +kernel)
theorem kZ{s:Str}:([Cp ":f",.str ":b"].any λe=>Ds e (.str s))=(decide (s = ":f") || decide (s = ":b")):=by
 simp only[Mm,List.any_nil,eqD_str,Od,Qt]
 rw[show decide ((":f" : Str)=s)=decide (s = ":f") from decide_eq_decide.mpr ⟨Wr,Wr⟩,show decide ((":b" : Str)=s)=decide (s = ":b") from decide_eq_decide.mpr ⟨Wr,Wr⟩]
section
variable{P:Bh}{w:World}{K:PySem.W.Frag}{mg:Str->Option Value}{base:Heap}
theorem iQ:FnScope ["_law_way", "_law_holes", "_law_text", "_law_told", "_law_part", "_law_end", "_law_word_here", "_law_one"] ["_law_way", "_law_holes", "_law_text"] (Bj Rt):=⟨rfl,rfl,rfl,by decide +kernel,rfl,by decide +kernel,by decide +kernel⟩
theorem jD{f f_L_read_word  : Addr}{fd d_L_read_word:Bz}(F:Fun K "_law_read" "_law_read" Rt f fd)(G_L_read_word:FnOk P w K mg base Ik 2 f_L_read_word d_L_read_word ["_law_holes", "_law_text"] (Zt K (O5)))(b_L_read_word:Binds K d_L_read_word ["_law_holes", "_law_text"] [])(k_L_read_word:PySem.W.keepIn K (.ref f_L_read_word)=true)(m_L_read_word:mg "_law_read_word" = some (.ref f_L_read_word))(mz_str:mg "str" = none)(mz_isinstance:mg "isinstance" = none)(mz_int:mg "int" = none):FnOk P w K mg base Ik 3 f fd ["_law_way", "_law_holes", "_law_text"] (Zt K (Zo)):=by
 refine' Oc (k:=2) F iQ (λcdv A outer s H E hr=>?hb) ?h
 case hb =>
  have hr1:Room 1 _:=hr.mono (by decide)
  have hr2:Room 2 _:=hr.mono (by decide)
  have hu64:=hr.units
  exact Bt (Hs (Wz (Xk (Gg Xr Xw rfl mz_isinstance (by decide +kernel) (Ak (Am (pv 2)) (Ak (eU (n := "str") rfl mz_str (by decide +kernel)) Au)))))
   (Cu (Ek On)) Eu)
   (Bt (Hs (Ji hu64 (Am (pv 0)) Bu)
   (Cu (Ek (Hm G_L_read_word hr2 rfl m_L_read_word k_L_read_word b_L_read_word Fh (Ak (Am (pv 1)) (Ak (Am (pv 2)) Au))))) Eu)
   (Bt (Tf (i:=3) iQ.nd rfl (Ce rfl) (Fn Au))
   (Bt (Ma Ew rfl (N7 (Vj (Am (pv 2)) Dy)) (Hz (i:=4) iQ.nd rfl (Ce rfl))
   (Bt (Hs (Ji hu64 (Am (pv 0)) Bu)
    (Bt (Dz (i:=5) iQ.nd rfl (Ce rfl) (Th (Am (pv 4)) (Lo (nQ Bu)) Lp))
     (Bt (Dz (i:=6) iQ.nd rfl (Ce rfl) On)
     (Bt (Hs (O9 hu64 (Am (pv 5)) (Fn (Ak Dy (Ak Dy Au))))
     (Cu (Dz (i:=6) iQ.nd rfl (Ce rfl) (Hm G_L_read_word hr2 rfl m_L_read_word k_L_read_word b_L_read_word Fh (Ak (Am (pv 1)) (Ak (Th (Am (pv 4)) Lp (Lo (nQ Bu))) Au))))) Eu)
     (Cu (Dz (i:=7) iQ.nd rfl (Ce rfl) (Sg (Ak (Kj (Am (pv 6))) (Ak (Kh (Fn (Ak Dy (Ak Dy Au))) (Gs Td gL rfl mz_int (by decide +kernel) (Ak (wI hu64 (Am (pv 5)) Dy) Au))) Au)))))))) (Bt (Dz (i:=6) iQ.nd rfl (Ce rfl) (Hm G_L_read_word hr2 rfl m_L_read_word k_L_read_word b_L_read_word Fh (Ak (Am (pv 1)) (Ak (Am (pv 4)) Au))))
     (Cu (Dz (i:=7) iQ.nd rfl (Ce rfl) (Am (pv 6))))))
    (Bt (Hs (Yy (Wg (Yy (Uv (Ub hu64 (Am (pv 2)) Dy) (Qe (zS (Am (pv 6)) On)))) (bI (Yy (Uv (Ji hu64 (Am (pv 0)) Bu) (Qe (O9 hu64 (Am (pv 7)) (Am (pv 3)))))))))
    (Cu (Ek On)) Eu)
    (Cu (Kt (pv 3) (Am (pv 7)))))))
   (Bt (Hs (Ji hu64 (Am (pv 2)) Dy)
   (Cu (Ek (Fn Au))) Eu)
   (Cu (Ek (Qa (pv 3))))))))
 case h =>
  (intro ds R q_; obtain ⟨Hh,h,d,rfl,w0,w3,h60,hT,hR,hN⟩ := q_)
  refine ⟨rfl,?_⟩
  array_get_dec
  rcases yN (d:=d) with ⟨z,rfl⟩ | ⟨e,ne⟩
  rotate_left
  ·rw[e]
   array_get_dec
   exact hN λz v e=>absurd e (ne z)
  obtain ⟨hz,lp⟩:=hT z rfl
  array_get_dec
  refine Rp (λq=>?_) (λq=>?_)
  ·have q:Hh=0:=by simpa using q
   subst q
   array_get_dec
   refine ⟨h,z,rfl,h60,hz,λw k=>?_,λno=>hN λz' v e k=>?_⟩
   ·array_get_dec
    exact hR z _ rfl (.inl ⟨rfl,w,k,rfl⟩)
   ·cases e
    rcases k with ⟨_,w,k,_⟩ | ⟨e,_⟩ | ⟨e,_⟩ | ⟨e,_⟩
    ·exact no w k
    ·cases e
    ·cases e
    ·cases e
  have q:Hh≠0:=by simpa using q
  array_get_dec
  refine ⟨by have:=hz.2; omega,hz.1,Ie,Xl,?_⟩
  have wy:Hh=1\/Hh=2\/Hh=3:=by omega
  by_cases en:z = "none"
  ·subst en
   have fin:R (.list []):=by
    rcases wy with rfl | rfl | rfl
    ·exact hR _ _ rfl (.inr (.inl ⟨rfl,[],.inl ⟨rfl,rfl⟩,rfl⟩))
    ·exact hR _ _ rfl (.inr (.inr (.inl ⟨rfl,[],.inl ⟨rfl,rfl⟩,rfl⟩)))
    ·exact hR _ _ rfl (.inr (.inr (.inr ⟨rfl,[],.inl ⟨rfl,rfl⟩,Cy,rfl⟩)))
   refine Uq (l:=[("none" : Str)]) (g:=Cp) (congrArg (List.map Cp) qR) (λi δ=>∃(T:List Ad) (v4 v5 v6 v7:DV),δ=⟨[.dat .sh (.int Hh),.dat .sh (.int h),.dat .sh (.str "none"),.dat .ow (.list T),v4,v5,v6,v7],0⟩/\NP v4/\NP v5/\NP v6/\NP v7/\(i=0->T=[])) ?_ ?_ ?_
   ·exact ⟨[],_,_,_,_,rfl,Gy,Gy,Gy,Gy,λ_=>rfl⟩
   ·(intro i p _ hp q_; obtain ⟨T,v4,v5,v6,v7,rfl,k4,k5,k6,k7,hi⟩ := q_)
    have i0:i=0:=by
     have:=(Av.mp hp).1
     simpa using this
    subst i0
    obtain rfl:=hi rfl
    obtain rfl : "none" = p:=Br hp
    rcases wy with rfl | rfl | rfl
    ·array_get_dec
     refine ⟨h,_,rfl,h60,hz,λw k=>absurd k rY,λ_=>?_⟩
     array_get_dec
     exact ⟨by simp [npk,k5 _],_,_,_,_,_,rfl,Ej,k5,Ej,Ej,nofun⟩
    ·array_get_dec
     refine ⟨by decide +kernel,?_⟩
     rw[kZ,show (decide (Cm "none" (some (-2)) none = ":f") || decide (Cm "none" (some (-2)) none = ":b"))=false by decide +kernel]
     array_get_dec
     refine ⟨_,eD _ _ _,?_⟩
     exact ⟨by cases (Cm ("none" : Str) (some (-2)) none == ":b") <;> rfl,_,_,_,_,_,rfl,Ej,Ej,Ej,Ej,nofun⟩
    ·array_get_dec
     refine ⟨h,_,rfl,h60,hz,λw k=>absurd k rY,λ_=>?_⟩
     array_get_dec
     rw[show (([]:List Ad).any λe=>Ds e .none)=false from rfl]
     array_get_dec
     exact ⟨by simp [npk,k5 _],_,_,_,_,_,rfl,Ej,k5,Ej,Ej,nofun⟩
   ·(intro _ q_; obtain ⟨T,v4,v5,v6,v7,rfl,k4,k5,k6,k7,hi⟩ := q_)
    array_get_dec
    exact fin
  have eb:(z == ("none" : Str))=false:=beq_false_of_ne en
  rcases wy with rfl | rfl | rfl
  ·refine Uq (l:=Tw z " ") (g:=Cp) rfl (λi δ=>∃(D:List (List Int)) (v4 v5 v6 v7:DV),δ=⟨[.dat .sh (.int 1),.dat .sh (.int h),.dat .sh (.str z),.dat .ow (.list (D.map Co)),v4,v5,v6,v7],0⟩/\NP v4/\NP v5/\NP v6/\NP v7/\A2 (RW h) ((Tw z " ").take i) D) ?_ ?_ ?_
   ·exact ⟨[],_,_,_,_,rfl,Gy,Gy,Gy,Gy,.nil⟩
   ·(intro i p _ hp q_; obtain ⟨D,v4,v5,v6,v7,rfl,k4,k5,k6,k7,hD⟩ := q_)
    have mp:=Ay hp
    have lD:(D.map Co).length<1000000:=by
     have:=hD.len
     rw[Da] at this
     rw[Ab]
     omega
    array_get_dec
    refine ⟨h,p,rfl,h60,aN Ie hz p mp,λw hw=>?_,λno=>?_⟩
    ·array_get_dec
     rw[eb]
     array_get_dec
     rw[show isNone (Co w)=false from rfl]
     array_get_dec
     have hD2:A2 (RW h) ((Tw z " ").take (i+1)) (D++[w]):=by rw[Gb hp]; exact hD.snoc hw
     exact ⟨by simp [npk,k5 _],lD,D++[w],_,_,_,_,Qw (by rw[Bd]; rfl) rfl,Ej,k5,Ej,Ej,hD2⟩
    ·array_get_dec
     rw[eb]
     array_get_dec
     rw[show isNone Hk=true from rfl]
     array_get_dec
     refine hN λz' v e' k=>?_
     cases e'
     obtain ⟨D',k⟩:=DD k
     rcases k.1 with ⟨e1,_⟩ | ⟨_,k⟩
     ·exact en e1
     ·obtain ⟨w,_,hw⟩:=k.mem p mp
      exact no w hw
   ·(intro _ q_; obtain ⟨D,v4,v5,v6,v7,rfl,k4,k5,k6,k7,hD⟩ := q_)
    rw[Dr] at hD
    array_get_dec
    rw[eb]
    array_get_dec
    exact hR z _ rfl (.inr (.inl ⟨rfl,D,.inr ⟨en,hD⟩,rfl⟩))
  ·refine Uq (l:=Tw z " ") (g:=Cp) rfl (λi δ=>∃(D:List Ps) (v4 v5 v6 v7:DV),δ=⟨[.dat .sh (.int 2),.dat .sh (.int h),.dat .sh (.str z),.dat .ow (.list (D.map Mz)),v4,v5,v6,v7],0⟩/\NP v4/\NP v5/\NP v6/\NP v7/\A2 (RP h) ((Tw z " ").take i) D) ?_ ?_ ?_
   ·exact ⟨[],_,_,_,_,rfl,Gy,Gy,Gy,Gy,.nil⟩
   ·(intro i p _ hp q_; obtain ⟨D,v4,v5,v6,v7,rfl,k4,k5,k6,k7,hD⟩ := q_)
    have mp:=Ay hp
    have hp1:=aN Ie hz p mp
    have lp1:p.length<=100000:=by have:=hp1.2; omega
    have lD:(D.map Mz).length<1000000:=by
     have:=hD.len
     rw[Da] at this
     rw[Ab]
     omega
    have nope:(∀r,¬ RP h p r)->R .none:=λno=>hN λz' v e' k=>by
     cases e'
     obtain ⟨D',k⟩:=DP k
     rcases k with ⟨e1,_⟩ | ⟨_,k⟩
     ·exact en e1
     ·obtain ⟨r,_,hr⟩:=k.mem p mp
      exact no r hr
    array_get_dec
    refine ⟨lp1,?_⟩
    rw[kZ]
    by_cases q1:Cm p (some (-2)) none=Lr false
    ·rw[show (decide (Cm p (some (-2)) none = ":f") || decide (Cm p (some (-2)) none = ":b"))=true by rw[decide_eq_true (show Cm p (some (-2)) none = ":f" from q1)]; rfl]
     array_get_dec
     refine ⟨lp1,h,_,rfl,h60,R0 hp1,λw hw=>?_,λno=>?_⟩
     ·array_get_dec
      refine ⟨_,eD _ _ _,?_⟩
      array_get_dec
      rw[eb]
      array_get_dec
      rw[show isNone (Co w)=false from rfl]
      array_get_dec
      have hD2:A2 (RP h) ((Tw z " ").take (i+1)) (D++[(w,false)]):=by rw[Gb hp]; exact hD.snoc (GG.mpr ⟨q1,hw⟩)
      rw[show (Cm p (some (-2)) none == (":b" : Str))=false by rw[q1]; decide +kernel]
      exact ⟨by simp [imm,Eg,cE w],lD,D++[(w,false)],_,_,_,_,Qw (by rw[Bd]; rfl) rfl,Ej,Ej,Ej,Ej,hD2⟩
     ·array_get_dec
      refine ⟨_,eD _ _ _,?_⟩
      array_get_dec
      rw[eb]
      array_get_dec
      rw[show isNone Hk=true from rfl]
      array_get_dec
      exact nope λr hr=>no r.1 (GG.mp hr).2
    by_cases q2:Cm p (some (-2)) none=Lr true
    ·rw[show (decide (Cm p (some (-2)) none = ":f") || decide (Cm p (some (-2)) none = ":b"))=true by rw[decide_eq_true (show Cm p (some (-2)) none = ":b" from q2),Sq]]
     array_get_dec
     refine ⟨lp1,h,_,rfl,h60,R0 hp1,λw hw=>?_,λno=>?_⟩
     ·array_get_dec
      refine ⟨_,eD _ _ _,?_⟩
      array_get_dec
      rw[eb]
      array_get_dec
      rw[show isNone (Co w)=false from rfl]
      array_get_dec
      have hD2:A2 (RP h) ((Tw z " ").take (i+1)) (D++[(w,true)]):=by rw[Gb hp]; exact hD.snoc (GG.mpr ⟨q2,hw⟩)
      rw[show (Cm p (some (-2)) none == (":b" : Str))=true by rw[q2]; decide +kernel]
      exact ⟨by simp [imm,Eg,cE w],lD,D++[(w,true)],_,_,_,_,Qw (by rw[Bd]; rfl) rfl,Ej,Ej,Ej,Ej,hD2⟩
     ·array_get_dec
      refine ⟨_,eD _ _ _,?_⟩
      array_get_dec
      rw[eb]
      array_get_dec
      rw[show isNone Hk=true from rfl]
      array_get_dec
      exact nope λr hr=>no r.1 (GG.mp hr).2
    rw[show (decide (Cm p (some (-2)) none = ":f") || decide (Cm p (some (-2)) none = ":b"))=false by rw[decide_eq_false (show ¬ Cm p (some (-2)) none = ":f" from q1),decide_eq_false (show ¬ Cm p (some (-2)) none = ":b" from q2)]; rfl]
    array_get_dec
    refine ⟨_,eD _ _ _,?_⟩
    array_get_dec
    rw[eb]
    array_get_dec
    rw[show isNone Hk=true from rfl]
    array_get_dec
    refine nope λr hr=>?_
    have:=(GG.mp hr).1
    cases hb:r.2 with
    | false=>rw[hb] at this; exact q1 this
    | true=>rw[hb] at this; exact q2 this
   ·(intro _ q_; obtain ⟨D,v4,v5,v6,v7,rfl,k4,k5,k6,k7,hD⟩ := q_)
    rw[Dr] at hD
    array_get_dec
    rw[eb]
    array_get_dec
    exact hR z _ rfl (.inr (.inr (.inl ⟨rfl,D,.inr ⟨en,hD⟩,rfl⟩)))
  ·refine Uq (l:=Tw z " ") (g:=Cp) rfl (λi δ=>∃(D:List (List Int)) (v4 v5 v6 v7:DV),δ=⟨[.dat .sh (.int 3),.dat .sh (.int h),.dat .sh (.str z),.dat .ow (.list (D.map Co)),v4,v5,v6,v7],0⟩/\NP v4/\NP v5/\NP v6/\NP v7/\A2 (RW h) ((Tw z " ").take i) D/\D.Nodup) ?_ ?_ ?_
   ·exact ⟨[],_,_,_,_,rfl,Gy,Gy,Gy,Gy,.nil,Cy⟩
   ·(intro i p _ hp q_; obtain ⟨D,v4,v5,v6,v7,rfl,k4,k5,k6,k7,hD,nD⟩ := q_)
    have mp:=Ay hp
    have lD:(D.map Co).length<1000000:=by
     have:=hD.len
     rw[Da] at this
     rw[Ab]
     omega
    array_get_dec
    refine ⟨h,p,rfl,h60,aN Ie hz p mp,λw hw=>?_,λno=>?_⟩
    ·array_get_dec
     rw[eb]
     array_get_dec
     rw[show isNone (Co w)=false from rfl]
     array_get_dec
     have hD2:A2 (RW h) ((Tw z " ").take (i+1)) (D++[w]):=by rw[Gb hp]; exact hD.snoc hw
     by_cases mw:w∈D
     ·rw[decide_eq_true mw]
      array_get_dec
      refine hN λz' v e' k=>?_
      cases e'
      obtain ⟨D',k,nd⟩:=V2 k
      rcases k with ⟨e1,_⟩ | ⟨_,k⟩
      ·exact en e1
      ·have eq:=(k.take (i+1)).one (λ_ _ _ x y=>x.one y) hD2
       have n2:=nd.sublist (Gj (i+1) D')
       rw[eq] at n2
       exact (Fo.mp n2).2.2 w mw w (Af.mpr rfl) rfl
     ·rw[decide_eq_false mw]
      array_get_dec
      refine ⟨by simp [npk,k5 _],lD,D++[w],_,_,_,_,Qw (by rw[Bd]; rfl) rfl,Ej,k5,Ej,Ej,hD2,Fo.mpr ⟨nD,Cd.mpr ⟨Cj,Cy⟩,λa ha b hb e=>mw ?_⟩⟩
      rw[<- Af.mp hb,<- e]
      exact ha
    ·array_get_dec
     rw[eb]
     array_get_dec
     rw[show isNone Hk=true from rfl]
     array_get_dec
     refine hN λz' v e' k=>?_
     cases e'
     obtain ⟨D',k⟩:=V2 k
     rcases k.1 with ⟨e1,_⟩ | ⟨_,k⟩
     ·exact en e1
     ·obtain ⟨w,_,hw⟩:=k.mem p mp
      exact no w hw
   ·(intro _ q_; obtain ⟨D,v4,v5,v6,v7,rfl,k4,k5,k6,k7,hD,nD⟩ := q_)
    rw[Dr] at hD
    array_get_dec
    rw[eb]
    array_get_dec
    exact hR z _ rfl (.inr (.inr (.inr ⟨rfl,D,.inr ⟨en,hD⟩,nD,rfl⟩)))
end
open DRow
def zM(CN:Addr):PX:=λds R Ex=>∃(Hh h:Int) (d:Ad),ds=[.int Hh,.int h,d]/\0<=Hh/\Hh<=3/\h<=60/\(∀z,d=.str z->Uy z)/\(∀z v,d=.str z->u9 Hh h z v->R v)/\((∀z v,d=.str z->¬ u9 Hh h z v)->Ex CN)
section
variable{P:Bh}{w:World}{K:PySem.W.Frag}{mg:Str->Option Value}{base:Heap}
theorem cS:FnScope ["_law_way", "_law_holes", "_law_text"] ["_law_way", "_law_holes", "_law_text"] (Bj Qc):=⟨rfl,rfl,rfl,by decide +kernel,rfl,by decide +kernel,by decide +kernel⟩
theorem dE{f f_read_word f_read_deck f_read_row f_read_code CN:Addr}{fd d_read_word d_read_deck d_read_row d_read_code:Bz}(F:Fun K "_law_asked" "_law_asked" Qc f fd)(G_read_word:FnOk P w K mg base (Mh P w) 3 f_read_word d_read_word ["holes", "text"] (Yd K (Zh CN)))(b_read_word:Binds K d_read_word ["holes", "text"] [])(k_read_word:PySem.W.keepIn K (.ref f_read_word)=true)(m_read_word:mg "read_word" = some (.ref f_read_word))(G_read_deck:FnOk P w K mg base (Mh P w) 4 f_read_deck d_read_deck ["holes", "text"] (Yd K (gH CN)))(b_read_deck:Binds K d_read_deck ["holes", "text"] [])(k_read_deck:PySem.W.keepIn K (.ref f_read_deck)=true)(m_read_deck:mg "read_deck" = some (.ref f_read_deck))(G_read_row:FnOk P w K mg base (Mh P w) 5 f_read_row d_read_row ["holes", "text"] (Yd K (zD CN)))(b_read_row:Binds K d_read_row ["holes", "text"] [])(k_read_row:PySem.W.keepIn K (.ref f_read_row)=true)(m_read_row:mg "read_row" = some (.ref f_read_row))(G_read_code:FnOk P w K mg base (Mh P w) 5 f_read_code d_read_code ["holes", "text"] (Yd K (pP CN)))(b_read_code:Binds K d_read_code ["holes", "text"] [])(k_read_code:PySem.W.keepIn K (.ref f_read_code)=true)(m_read_code:mg "read_code" = some (.ref f_read_code)):FnOk P w K mg base (Mh P w) 6 f fd ["_law_way", "_law_holes", "_law_text"] (Yd K (zM CN)):=by
 refine' Kg (k:=5) F cS (λcdv A outer s H E Ex hr hE=>?hb) ?h
 case hb =>
  have hr1:Room 1 _:=hr.mono (by decide)
  have hr2:Room 2 _:=hr.mono (by decide)
  have hr3:Room 3 _:=hr.mono (by decide)
  have hr4:Room 4 _:=hr.mono (by decide)
  have hr5:Room 5 _:=hr.mono (by decide)
  have hu64:=hr.units
  exact Gf (Ol (Ji hu64 (Am (pv 0)) Bu) (Gm (Sw (Ga hE G_read_word hr3 rfl m_read_word k_read_word b_read_word Sd (Uz (Ak (Am (pv 1)) (Ak (Am (pv 2)) Au)))))) (dF Eu))
   (Gf (Ol (Ji hu64 (Am (pv 0)) Bu) (Gm (Sw (Ga hE G_read_deck hr4 rfl m_read_deck k_read_deck b_read_deck Sd (Uz (Ak (Am (pv 1)) (Ak (Am (pv 2)) Au)))))) (dF Eu))
   (Gf (Ol (Ji hu64 (Am (pv 0)) Bu) (Gm (Sw (Ga hE G_read_row hr5 rfl m_read_row k_read_row b_read_row Sd (Uz (Ak (Am (pv 1)) (Ak (Am (pv 2)) Au)))))) (dF Eu))
   (Gm (Sw (Ga hE G_read_code hr5 rfl m_read_code k_read_code b_read_code Sd (Uz (Ak (Am (pv 1)) (Ak (Am (pv 2)) Au))))))))
 case h =>
  (intro ds R Ex q_; obtain ⟨Hh,h,d,rfl,w0,w3,h60,hT,hR,hX⟩ := q_)
  refine ⟨rfl,?_⟩
  rcases (show Hh=0\/Hh=1\/Hh=2\/Hh=3 by omega) with rfl | rfl | rfl | rfl
  ·array_get_dec
   refine ⟨h,d,rfl,h60,λz e=>(hT z e).1,λz w e k=>hR z _ e (.inl ⟨rfl,w,k,rfl⟩),λno=>hX λz v e k=>?_⟩
   rcases k with ⟨_,w,k,_⟩ | ⟨e',_⟩ | ⟨e',_⟩ | ⟨e',_⟩
   ·exact no z w e k
   ·cases e'
   ·cases e'
   ·cases e'
  ·array_get_dec
   refine ⟨h,d,rfl,h60,hT,λz w e k=>hR z _ e (.inr (.inl ⟨rfl,w,k,rfl⟩)),λno=>hX λz v e k=>?_⟩
   obtain ⟨D,k,_⟩:=DD k
   exact no z D e k
  ·array_get_dec
   refine ⟨h,d,rfl,h60,hT,λz w e k=>hR z _ e (.inr (.inr (.inl ⟨rfl,w,k,rfl⟩))),λno=>hX λz v e k=>?_⟩
   obtain ⟨D,k⟩:=DP k
   exact no z D e k
  ·array_get_dec
   refine ⟨h,d,rfl,h60,hT,λz w e k n=>hR z _ e (.inr (.inr (.inr ⟨rfl,w,k,n,rfl⟩))),λno=>hX λz v e k=>?_⟩
   exact no z _ e (V2 k).choose_spec
end
structure KX(K:PySem.W.Frag)(NE CN:Addr)(os:List Addr):Prop where
 ek:ExcK K CN
 v:PySem.W.kitOne K (.ref CN) (.type "ValueError")=some true
 o:PySem.W.kitAny K (.ref CN) (os.map Cf)=some false
 c:PySem.W.kitOne K (.ref CN) (.ref CN)=some true
 n:PySem.W.subIn K (.ref CN) (.ref NE)=some true
section
variable{P:Bh}{w:World}{K:PySem.W.Frag}{mg:Str->Option Value}{base:Heap}
theorem fZ:FnScope ["_law_way", "_law_holes", "_law_text", "_law_caught", "_law_told", "e"] ["_law_way", "_law_holes", "_law_text"] (Bj Se):=⟨rfl,rfl,rfl,by decide +kernel,rfl,by decide +kernel,by decide +kernel⟩
theorem fX{f f_L_asked CN NE c_NoBack c_NoCount c_NoHoles c_NoLine c_NoName c_NoSide c_NoValue c_NoWord:Addr}{fd d_L_asked:Bz}(F:Fun K "_law_said" "_law_said" Se f fd)(G_L_asked:FnOk P w K mg base (Mh P w) 6 f_L_asked d_L_asked ["_law_way", "_law_holes", "_law_text"] (Yd K (zM CN)))(b_L_asked:Binds K d_L_asked ["_law_way", "_law_holes", "_law_text"] [])(k_L_asked:PySem.W.keepIn K (.ref f_L_asked)=true)(m_L_asked:mg "_law_asked" = some (.ref f_L_asked))(mz_isinstance:mg "isinstance" = none)(mz_ValueError:mg "ValueError" = none)(m_NoText:mg "NoText" = some (.ref CN))(m_NeedleError:mg "NeedleError" = some (.ref NE))(e_NeedleError:PySem.W.excIn K NE pE "ValueError.__new__" = true)(m_NoBack:mg "NoBack" = some (.ref c_NoBack))(m_NoCount:mg "NoCount" = some (.ref c_NoCount))(m_NoHoles:mg "NoHoles" = some (.ref c_NoHoles))(m_NoLine:mg "NoLine" = some (.ref c_NoLine))(m_NoName:mg "NoName" = some (.ref c_NoName))(m_NoSide:mg "NoSide" = some (.ref c_NoSide))(m_NoValue:mg "NoValue" = some (.ref c_NoValue))(m_NoWord:mg "NoWord" = some (.ref c_NoWord))(T:KX K NE CN [c_NoBack,c_NoCount,c_NoHoles,c_NoLine,c_NoName,c_NoSide,c_NoValue,c_NoWord]):FnOk P w K mg base Ik 7 f fd ["_law_way", "_law_holes", "_law_text"] (Zt K (Zo)):=by
 refine F.ok fZ (λus H Q E z=>?_) (λcdv A outer s H us Q E hr z=>?_)
 ·obtain ⟨As,n,ds,R,eu,ok,q,⟨Hh,h,d,rfl,_⟩,_⟩:=z
  have l2:=Hd q
  rw[Ab] at l2
  have l3:=congrArg Fs eu
  rw[Ab,Ab] at l3
  show us.length=3
  rw[<- l3,l2]
  rfl
 obtain ⟨As,n,ds,R,eu,ok,q,⟨Hh,h,d,rfl,w0,w3,h60,hT,hR,hN⟩,k1⟩:=z
 have lu:us.length=3:=by
  have l2:=Hd q
  rw[Ab] at l2
  have l3:=congrArg Fs eu
  rw[Ab,Ab] at l3
  rw[<- l3,l2]
  rfl
 match us,lu,eu with
 | [u0,u1,u2],_,eu =>
 have hr3:Room 6 _:=hr.mono (by decide)
 have hu64:=hr.units
 refine ⟨_,Gv (Na (i:=3) fZ.nd rfl (Ce rfl) aJ)
  (Gv (Na (i:=4) fZ.nd rfl (Ce rfl) aJ)
  (Gv (G6 (i:=4) (k:=5) (j:=3) rfl rfl fZ.nd rfl rfl rfl rfl rfl rfl rfl m_NeedleError e_NeedleError G_L_asked hr3 rfl m_L_asked k_L_asked b_L_asked (Eb (pv 0) (Eb (pv 1) (Eb (pv 2) Jk))))
  (Gv (eL (qT wF (pv 3) aJ (Ku _)) (Lj (Qf (pv 4))) Vv)
  (Gv (eL (PW.pt (S6 (oZ (bZ (Pf (r:=U3 K) lV rfl mz_isinstance (by decide +kernel) (Eb (pv 3) (Eb (Js (v:=.ref CN) rfl m_NoText rfl) Jk))))) (yF (oZ (bZ (Pf (r:=U3 K) lV rfl mz_isinstance (by decide +kernel) (Eb (pv 3) (Eb (qM (v:=.ty "ValueError") rfl mz_ValueError (by decide +kernel) rfl) Jk))))))))
  (Lj (Qf Xt)) Vv)
  (Gv (eL (bZ (Pf (r:=P5 K) uN rfl mz_isinstance (by decide +kernel) (Eb (pv 3) (Eb (o9 (Eb (Js (v:=.ref c_NoBack) rfl m_NoBack rfl) (Eb (Js (v:=.ref c_NoCount) rfl m_NoCount rfl) (Eb (Js (v:=.ref c_NoHoles) rfl m_NoHoles rfl) (Eb (Js (v:=.ref c_NoLine) rfl m_NoLine rfl) (Eb (Js (v:=.ref c_NoName) rfl m_NoName rfl) (Eb (Js (v:=.ref c_NoSide) rfl m_NoSide rfl) (Eb (Js (v:=.ref c_NoValue) rfl m_NoValue rfl) (Eb (Js (v:=.ref c_NoWord) rfl m_NoWord rfl) Jk))))))))) Jk))))
  (Lj (Qf Xt)) Vv)
  (Lj (Qf aJ))))))),?_⟩
 refine ⟨_,rfl,_,rfl,_,rfl,As,n,_,R,(λC=>C=CN/\R .none),eu,ok,q,⟨Hh,h,d,rfl,w0,w3,h60,hT,hR,λno=>⟨rfl,hN no⟩⟩,λv d F H' hd rd nF fF s1=>?_,λC H1 hC s1=>⟨C,rfl,by rw[hC.1]; exact T.n,λy ny=>?_⟩⟩
 ·refine ⟨_,rfl,rfl,_,rfl,?_⟩
  rw[show decide (V.non=V.non)=true by simp]
  exact cX ⟨_,rfl,k1 v d F H' hd rd nF fF s1⟩
 obtain ⟨hC,hnone⟩:=hC
 subst hC
 have s2:=Gu ny (nO y C)
 have ey:=Et (H:=H1) (a:=y) (o:=nO y C)
 generalize upd H1 y (nO y C)=H2 at s2 ey
 refine ⟨_,rfl,rfl,_,rfl,Xf ?_⟩
 refine ⟨_,rfl,y,C,.ref C,true,rfl,ey,T.ek,rfl,T.c,_,rfl,Xf ⟨_,rfl,y,C,.ty "ValueError",true,rfl,ey,T.ek,rfl,T.v,_,rfl,Xf ?_⟩⟩
 refine ⟨_,rfl,(by show 8<=Ax; decide),λp np=>?_⟩
 have s3:=Gu np (.tup [V.ref c_NoBack,V.ref c_NoCount,V.ref c_NoHoles,V.ref c_NoLine,V.ref c_NoName,V.ref c_NoSide,V.ref c_NoValue,V.ref c_NoWord])
 exact ⟨y,C,p,[c_NoBack,c_NoCount,c_NoHoles,c_NoLine,c_NoName,c_NoSide,c_NoValue,c_NoWord],false,rfl,s3 _ _ ey,T.ek,Vi.of Et,T.o,_,rfl,Xf (k1 _ _ [] _ hnone .non Cy (λ_ z=>(nomatch z)) ((s1.trans s2).trans s3))⟩
end
open DRow
def Ra(N:Nat)(z:Str):Prop:=Jz z/\z.length<=N
def yW:DF:=λds n R=>∃z,ds=[.str z]/\Ra 990 z/\n<=50000/\∀z' n',n<=n'->n'<=n+10->Ra 992 z'->R (.str z') n'
theorem vR{z:Str}(l u:Option Int)(h:Jz z):Jz (Cm z l u):=by
 unfold Cm
 split
 ·exact h
 ·intro c hc
  rw[Nr] at hc
  obtain ⟨k,_,e⟩:=Cg.mp hc
  refine h c ?_
  rw[<- Fg] at e
  exact Ay e
theorem EB{z:Str}{i:Int}(h0:0<=i)(h1:i<=z.length):(Cm z none (some i)).length<=i.toNat:=by
 rw[Qp (PyProof.Rows.slice_closes_toL h0 h1)]
 show (List.toArray _).size<=_
 rw[Aq,Da]
 omega
theorem K1{z:Str}{i:Int}(h0:0<=i):(Cm z (some i) none).length<=z.length - i.toNat:=by
 have lz:z.cps.toList.length=z.length:=Ag
 by_cases h:i<=z.length
 ·rw[Me (x:=z) (b:=(z.length:Int)) h0 h rfl]
  show (List.toArray _).size<=_
  rw[Aq,Da]
  omega
 ·have e:Cm z (some i) none=Cm z (some (z.length:Int)) none:=by
   unfold Cm
   rw[PyProof.Rows.indices_beyond (show (z.length:Int)<=i by omega)]
  rw[e,Me (x:=z) (b:=(z.length:Int)) (by omega) (by omega) rfl]
  show (List.toArray _).size<=_
  rw[Aq,Da]
  omega
theorem EJ(z:Str)(b:Bool):MulOk z (if b=true then 1 else 0)/\Txt.mul z (if b=true then 1 else 0)=if b=true then z else Jv:=by
 cases b
 ·rw[if_neg (show ¬ (false=true) by decide),if_neg (show ¬ (false=true) by decide)]
  refine ⟨⟨by decide,λh=>absurd (show (0:Int)<1 by decide) h,λh=>absurd (show (0:Int)<1 by decide) h⟩,?_⟩
  unfold Txt.mul
  rw[if_pos (by decide)]
 ·rw[if_pos rfl,if_pos rfl]
  refine ⟨⟨by decide,λ_ h=>?_,λ_ h=>?_⟩,?_⟩
  ·rw[show ((1:Int) == 1)=true from rfl,Ze] at h; cases h
  ·rw[show ((1:Int) == 1)=true from rfl,Ze] at h; cases h
  ·unfold Txt.mul
   rw[if_neg (by decide),if_pos (by rw[show ((1:Int) == 1)=true from rfl,Ze])]
theorem wK{a b:Str}{i j:Nat}(h:Ra i a)(k:Ra j b):Ra (i+j) (a++b):=by
 refine ⟨λc hc=>?_,by rw[Ve]; exact Nat.add_le_add h.2 k.2⟩
 rw[Hf] at hc
 exact (Aw.mp hc).elim (h.1 c) (k.1 c)
theorem sT:∀c∈(Lm "0123456789,, ::fb--n\t\nx").toList,c<128:=by decide +kernel
theorem sM:(Lm "0123456789,, ::fb--n\t\nx").toList.length=23:=by decide +kernel
theorem fB{a b:Nat}{z:Str}(h:Ra a z)(k:a<=b):Ra b z:=⟨h.1,Ba h.2 k⟩
section
variable{P:Bh}{w:World}{K:PySem.W.Frag}{mg:Str->Option Value}{base:Heap}
theorem gK:FnScope ["_law_draws_here", "_law_text", "_law_turn", "_law_pick", "_law_at", "_law_sign", "_law_way"] ["_law_draws_here", "_law_text"] (Bj Ru):=⟨rfl,rfl,rfl,by decide +kernel,rfl,by decide +kernel,by decide +kernel⟩
theorem jC{f f_L_next  : Addr}{fd d_L_next:Bz}(F:Fun K "_law_bent" "_law_bent" Ru f fd)(G_L_next:FnOk P w K mg base Ik 1 f_L_next d_L_next ["_law_draws_here"] (Zp K Rr))(b_L_next:Binds K d_L_next ["_law_draws_here"] [])(k_L_next:PySem.W.keepIn K (.ref f_L_next)=true)(m_L_next:mg "_law_next" = some (.ref f_L_next))(mz_range:mg "range" = none)(mz_len:mg "len" = none)(mz_int:mg "int" = none):FnOk P w K mg base Ik 2 f fd ["_law_draws_here", "_law_text"] (Zp K (yW)):=by
 refine' Vr (k:=1) F gK (λcdv A outer s H E hr=>?hb) ?h
 case hb =>
  have hr1:Room 1 _:=hr.mono (by decide)
  have hu64:=hr.units
  exact Bt (Ma Ew rfl (Mu rfl mz_range (Ak (Fx (Es G_L_next hr1 rfl m_L_next k_L_next b_L_next Fh (pv 0) Au) Bu) Au)) (Hz (i:=2) gK.nd rfl (Ce rfl))
   (Bt (Dz (i:=3) gK.nd rfl (Ce rfl) (Es G_L_next hr1 rfl m_L_next k_L_next b_L_next Fh (pv 0) Au))
    (Bt (Dz (i:=4) gK.nd rfl (Ce rfl) (Fx (Am (pv 3)) (Qo (Gg Kk Ql rfl mz_len (by decide +kernel) (Ak (Am (pv 1)) Au)) Bu)))
    (Bt (Dz (i:=5) gK.nd rfl (Ce rfl) (Kh Dy (Fx (Mb (Am (pv 3)) Bu) Bu)))
    (Bt (Dz (i:=6) gK.nd rfl (Ce rfl) (Fx (Mb (Am (pv 3)) Bu) Bu))
    (Cu (Dz (i:=1) gK.nd rfl (Ce rfl) (Sr (Sr (Th (Am (pv 1)) Lp (Lo (Am (pv 4)))) (jF (Am (pv 5)) (Gs Td gL rfl mz_int (by decide +kernel) (Ak (DY (Am (pv 6)) Bu) Au)))) (Th (Am (pv 1)) (Lo (Qo (Am (pv 4)) (Gs Td gL rfl mz_int (by decide +kernel) (Ak (DR (Am (pv 6)) Bu) Au)))) Lp)))))))))
   (Cu (Ek (Kj (Am (pv 1)))))
 case h =>
  (intro ds n R q_; obtain ⟨z,rfl,hz,hn,hR⟩ := q_)
  refine ⟨rfl,?_⟩
  array_get_dec
  refine ⟨rfl,by omega,λr0=>?_⟩
  array_get_dec
  have b3:=Jy r0 (b:=3) (by decide)
  obtain ⟨m,em,hm⟩ : ∃m:Nat,r0 % 3=m/\m<=2:=⟨(r0 % 3).toNat,by omega,by omega⟩
  rw[em]
  refine ⟨by omega,by omega,?_⟩
  refine Uq (l:=Cc m) (g:=λi:Nat=>.int i) rfl (λi δ=>∃(z':Str) (v2 v3 v4 v5 v6:DV) (n':Nat),δ=⟨[.drw,.dat .sh (.str z'),v2,v3,v4,v5,v6],n'⟩/\n<=n'/\n'<=n+1+i/\Ra (990+i) z') ?_ ?_ ?_
  ·exact ⟨z,_,_,_,_,_,_,rfl,by omega,by omega,hz⟩
  ·(intro i _ _ hi q_; obtain ⟨z',v2,v3,v4,v5,v6,n',rfl,k1,k2,hz'⟩ := q_)
   have li:=(Av.mp hi).1
   rw[Dx] at li
   array_get_dec
   refine ⟨rfl,by omega,λr=>?_⟩
   array_get_dec
   have bl:=Jy r (b:=(z'.length:Int)+1) (by omega)
   have b23:=Jy (r / 8192) (b:=23) (by decide)
   obtain ⟨c,_,e2,e3⟩:=Sh (l:=(Lm "0123456789,, ::fb--n\t\nx").toList) b23.1 (by rw[sM]; exact b23.2)
   obtain ⟨mo,me⟩:=EJ ⟨#[c]⟩ (decide (r / 2048 % 4<3))
   have tm:Ra 1 (Txt.mul ⟨#[c]⟩ (if decide (r / 2048 % 4<3)=true then 1 else 0)):=by
    rw[me]
    split
    ·exact ⟨λx hx=>by rw[Af.mp hx]; exact sT c e3,Al _⟩
    ·exact ⟨λx hx=>(nomatch hx),Dm _⟩
   have tA:Ra (r % ((z'.length:Int)+1)).toNat (Cm z' none (some (r % ((z'.length:Int)+1)))):=⟨vR _ _ hz'.1,EB bl.1 (by omega)⟩
   have hq:0<=(if decide (1<r / 2048 % 4)=true then 1 else 0:Int):=by split <;> decide
   generalize (if decide (1<r / 2048 % 4)=true then 1 else 0:Int)=q at hq
   have tB:Ra (z'.length - (r % ((z'.length:Int)+1)).toNat) (Cm z' (some (r % ((z'.length:Int)+1)+q)) none):=⟨vR _ _ hz'.1,Ba (K1 (by omega)) (by omega)⟩
   have tt:=wK (wK tA tm) tB
   have lz:=hz'.2
   have l1:=tA.2
   have l2:=tm.2
   have l3:=tB.2
   refine ⟨by omega,by omega,Ba (show Ho "0123456789,, ::fb--n\t\nx" <= 30 by decide +kernel) (dA (by decide)),c,e2,by omega,mo,by omega,by omega,?_,_,_,_,_,_,_,_,rfl,by omega,by omega,fB tt (by omega)⟩
   rw[Ve]
   omega
  ·(intro _ q_; obtain ⟨z',v2,v3,v4,v5,v6,n',rfl,k1,k2,hz'⟩ := q_)
   rw[Dx] at k2 hz'
   array_get_dec
   exact ⟨by omega,hR z' _ k1 (by omega) (fB hz' (by omega))⟩
end
end K82
namespace DL
open PySem PySem.Spec PyProof.Rows L2 Nd
theorem Ri{X:Cx}{e:Expr}{es:List Expr}{de:DE}{da:DA}(he:Em X e de)(hr:iP X es da)(hs:∀l,Bf (e::l) X.env=(false,eval e X.env)::Bf l X.env:=by intro _; rfl):iP X (e::es) (mF de da):=Ak he hr (hs es)
theorem Eh{X:Cx}{es:List Expr}{da:DA}{i:Str}{j:Nat}{pos:Pos}(hr:iP X es da):iP X (.Constant (.str i) j pos::es) (mF (dC (.str i)) da):=Ri Dy hr
end DL
namespace K82
open PySem L2 Nd DL
local macro_rules | `(tactic| array_get_dec) => do
  let ids:=(("e_lenS e_ixS e_tx e_txB e_inS e_notInS e_intS e_join e_joinB e_joinC e_split e_splitB e_splitC e_prt e_prtB e_prtC e_slS e_slC e_mulS e_find e_findB e_findC e_lenSet e_lsB e_seq e_skip e_ret e_expr e_if e_asg e_name e_name2 e_name3 e_name4 e_own e_nT e_gtup e_gsn e_gsc e_op e_var e_c e_imm e_immB e_take e_I e_I0 e_eqF e_eqT e_inFl e_inTl e_inTt e_isNF e_isNT e_ixl e_cat e_catT_w1 e_catS e_ntT e_pkOfsh e_pkOfow e_mdInpk e_mdInsh e_mdInow e_mdItsh e_mdIttp e_mdItow e_nil e_cons e_tup e_lst e_noPart e_part e_partB e_sl e_slBt_w1 e_cb e_lenl e_tuplel e_intb e_all e_isi e_str e_v e_b e_bB e_notT e_andT e_andTt e_andTf e_orT e_orTt e_orTf e_not e_notB e_and e_andt e_ifE e_ifEt e_ifEf e_neg e_negB e_dL e_dTp e_lB e_tpB_w1 e_range1 e_rng1B e_for e_comp e_comp2 e_compD e_noTest e_step e_stepT e_stepF e_yesB e_stepD e_stepDT e_yesBD e_call e_callW e_draws e_drawsB e_append e_setI e_scrSl e_callX e_raise e_callA e_ssT e_ssTt callXB callAB retA retA_sh callB callBW tupB lstB datas pkMd allOw noPk appB setB own1 npk retE retW retL args0 frD frD1 alD List.map_cons List.map_nil List.replicate List.getElem?_cons_zero List.getElem?_cons_succ List.set_cons_zero List.set_cons_succ List.cons_append List.nil_append Option.map_some List.length_cons List.length_nil List.append_nil rdAdd rdSub rdMul rdDiv rdMod rdLt rdLe rdGt rdGe if_true if_false Bool.false_eq_true Nat.reduceAdd Nat.reduceSub Nat.reduceLeDiff true_and im_e ima_e dp_e dpa_e any_word eqD_intd eqD_bl eqD_str eqD_l0 ow_e tt_e cdiv_e cmul_l Int.reduceLT Int.reduceLE Nat.reduceLT Int.reduceNeg and_self and_true Int.reduceToNat fold_w isi_ib isi_ii isi_wt Bool.not_true Bool.not_false String.reduceEq or_true true_or List.isEmpty_nil ifB_lt ifB_lf isi_ss str_self decide_false Int.reduceEq dec_self isE_cons catL_owtp catL_show" : String).splitOn " ").toArray.map λ(x:String)=>Lean.mkIdent x.toName
  `(tactic| try simp only [$[↓$ids:ident],*])
def GZ(z:Str):Bool:=z.cps.toList.all (λc=>decide (c<128)) && decide (z.length<=990)
def IZ(d:Ad):Bool:=match d with | .str z=>GZ z | _=>true
theorem N8{N:Nat}{z:Str}(h:Ra N z)(k:N<=998):Uy z:=⟨⟨h.1,Ba h.2 (by omega)⟩,Ba (h9 z " ") (by have:=h.2; omega)⟩
theorem EF{z:Str}(h:GZ z=true):Uy z:=by
 unfold GZ at h
 rw[Di,List.all_eq_true,decide_eq_true_eq] at h
 exact N8 (N:=990) ⟨λc hc=>of_decide_eq_true (h.1 c hc),h.2⟩ (by decide)
theorem M0{L:List Ad}{n:Int}{R:Ad->Prop}(h0:0<=n)(h1:n<40)(hl:L.length=40)(hL:L.all IZ=true)(hR:∀d,(∀z,d=.str z->Uy z)->R d):∃d,Re L n=some d/\R d:=by
 obtain ⟨d,_,e,m⟩:=Sh (l:=L) h0 (by rw[hl]; exact h1)
 refine ⟨d,e,hR d λz ez=>?_⟩
 subst ez
 exact EF (Jp.mp hL _ m)
theorem CL:MulOk "1" 21:=⟨by decide,λ_ _=>by decide +kernel,λ_ _=>by decide +kernel⟩
theorem FB:MulOk "9" 20:=⟨by decide,λ_ _=>by decide +kernel,λ_ _=>by decide +kernel⟩
theorem rK:∀j:Fin 61,(Ro (.int (j.1:Int))).length<=2:=by decide +kernel
def Q0:PF:=λds R=>∃h k:Int,ds=[.int h,.int k]/\1<=h/\h<=60/\∀d,(∀z,d=.str z->Uy z)->R d
section
variable{P:Bh}{w:World}{K:PySem.W.Frag}{mg:Str->Option Value}{base:Heap}
theorem jP:FnScope ["_law_holes", "_law_pick", "_law_some"] ["_law_holes", "_law_pick"] (Bj Mx):=⟨rfl,rfl,rfl,by decide +kernel,rfl,by decide +kernel,by decide +kernel⟩
theorem kJ{f   : Addr}{fd  : Bz}(F:Fun K "_law_odd" "_law_odd" Mx f fd)(mz_str:mg "str" = none):FnOk P w K mg base Ik 1 f fd ["_law_holes", "_law_pick"] (FK K (Q0)):=by
  refine' q0 (k:=0) F jP (λcdv A outer s H E hr=>?hb) ?h
  case hb =>
    have hu64:=hr.units
    have hrx:Room 0 (Hq Ik P w K mg base ["_law_holes", "_law_pick", "_law_some"] "_law_odd" (Bj Mx) f cdv A outer s H E).nox.A:=hr
    have hu100:(Hq Ik P w K mg base ["_law_holes", "_law_pick", "_law_some"] "_law_odd" (Bj Mx) f cdv A outer s H E).nox.A.units+100<cLine:=by have:=hrx.un; omega
    refine' Bt ?z1 ?w1
    case z1 =>
     refine' Dz (i:=2) ?a2 ?b2 ?c2 ?z2 ?e2 ?f2
     case a2=>exact jP.nd
     case b2=>exact rfl
     case c2=>exact (Ce rfl)
     case e2=>rfl
     case f2=>first | exact .inl rfl | exact .inr rfl
     case z2 =>
      refine' Fn ?z3
      case z3 =>
       refine' Eh ?z4
       case z4 =>
        refine' Eh ?z5
        case z5 =>
         refine' Eh ?z6
         case z6 =>
          refine' Eh ?z7
          case z7 =>
           refine' Eh ?z8
           case z8 =>
            refine' Eh ?z9
            case z9 =>
             refine' Eh ?z10
             case z10 =>
              refine' Eh ?z11
              case z11 =>
               refine' Eh ?z12
               case z12 =>
                refine' Eh ?z13
                case z13 =>
                 refine' Eh ?z14
                 case z14 =>
                  refine' Eh ?z15
                  case z15 =>
                   refine' Eh ?z16
                   case z16 =>
                    refine' Eh ?z17
                    case z17 =>
                     refine' Eh ?z18
                     case z18 =>
                      exact Au
    case w1 =>
     refine' Bt ?z19 ?w19
     case z19 =>
      refine' Dz (i:=2) ?a20 ?b20 ?c20 ?z20 ?e20 ?f20
      case a20=>exact jP.nd
      case b20=>exact rfl
      case c20=>exact (Ce rfl)
      case e20=>rfl
      case f20=>first | exact .inl rfl | exact .inr rfl
      case z20 =>
       refine' iF ?z21 ?z22
       case z21 =>
        exact (Am (pv 2))
       case z22 =>
        refine' Fn ?z23
        case z23 =>
         refine' Eh ?z24
         case z24 =>
          refine' Eh ?z25
          case z25 =>
           refine' Eh ?z26
           case z26 =>
            refine' Ri ?y27 ?z27 ?h27
            case y27=>exact (jF Dy Bu)
            case h27=>intro _; rfl
            case z27 =>
             refine' Eh ?z28
             case z28 =>
              refine' Eh ?z29
              case z29 =>
               refine' Eh ?z30
               case z30 =>
                refine' Eh ?z31
                case z31 =>
                 refine' Eh ?z32
                 case z32 =>
                  refine' Eh ?z33
                  case z33 =>
                   refine' Eh ?z34
                   case z34 =>
                    exact Au
     case w19 =>
      refine' Bt ?z35 ?w35
      case z35 =>
       refine' Dz (i:=2) ?a36 ?b36 ?c36 ?z36 ?e36 ?f36
       case a36=>exact jP.nd
       case b36=>exact rfl
       case c36=>exact (Ce rfl)
       case e36=>rfl
       case f36=>first | exact .inl rfl | exact .inr rfl
       case z36 =>
        refine' iF ?z37 ?z38
        case z37 =>
         exact (Am (pv 2))
        case z38 =>
         refine' Fn ?z39
         case z39 =>
          refine' Eh ?z40
          case z40 =>
           refine' Eh ?z41
           case z41 =>
            refine' Eh ?z42
            case z42 =>
             refine' Eh ?z43
             case z43 =>
              refine' Ri ?y44 ?z44 ?h44
              case y44=>exact (Gs (Pc hr.gd hu100) aX rfl mz_str (by decide +kernel) (Ak (Am (pv 0)) Au))
              case h44=>intro _; rfl
              case z44 =>
               refine' Ri ?y45 ?z45 ?h45
               case y45=>exact (Gs (Pc hr.gd hu100) aX rfl mz_str (by decide +kernel) (Ak (zK (Am (pv 0)) Bu) Au))
               case h45=>intro _; rfl
               case z45 =>
                exact Au
      case w35 =>
       refine' Bt ?z46 ?w46
       case z46 =>
        refine' Dz (i:=2) ?a47 ?b47 ?c47 ?z47 ?e47 ?f47
        case a47=>exact jP.nd
        case b47=>exact rfl
        case c47=>exact (Ce rfl)
        case e47=>rfl
        case f47=>first | exact .inl rfl | exact .inr rfl
        case z47 =>
         refine' qC ?z48 ?z49
         case z48 =>
          exact (Qa (pv 2))
         case z49 =>
          refine' Fn ?z50
          case z50 =>
           refine' Ri ?y51 ?z51 ?h51
           case y51=>exact (Sr (Sr (Gs (Pc hr.gd hu100) aX rfl mz_str (by decide +kernel) (Ak (zK (Am (pv 0)) Bu) Au)) Dy) (Gs (Pc hr.gd hu100) aX rfl mz_str (by decide +kernel) (Ak (Am (pv 0)) Au)))
           case h51=>intro _; rfl
           case z51 =>
            refine' Ri ?y52 ?z52 ?h52
            case y52=>exact (jF Dy Bu)
            case h52=>intro _; rfl
            case z52 =>
             refine' Ri ?y53 ?z53 ?h53
             case y53=>exact On
             case h53=>intro _; rfl
             case z53 =>
              refine' Ri ?y54 ?z54 ?h54
              case y54=>exact Bu
              case h54=>intro _; rfl
              case z54 =>
               refine' Ri ?y55 ?z55 ?h55
               case y55=>exact (Sg Au)
               case h55=>intro _; rfl
               case z55 =>
                refine' Ri ?y56 ?z56 ?h56
                case y56=>exact (Fn (Ak Dy Au))
                case h56=>intro _; rfl
                case z56 =>
                 refine' Ri ?y57 ?z57 ?h57
                 case y57=>exact Yc
                 case h57=>intro _; rfl
                 case z57 =>
                  refine' Eh ?z58
                  case z58 =>
                   exact Au
       case w46 =>
        exact Cu (Ek (Kh (Am (pv 2)) (Fx (Am (pv 1)) Bu)))
  case h =>
    (intro ds R q_; obtain ⟨h,k,rfl,h1,h60,hR⟩ := q_)
    refine ⟨rfl,?_⟩
    array_get_dec
    have b40:=Jy k (b:=40) (by decide)
    obtain ⟨j,rfl⟩ : ∃j:Fin 60,h=(j.1:Int)+1:=⟨⟨(h - 1).toNat,by omega⟩,by show h=(((h - 1).toNat:Nat):Int)+1; omega⟩
    have hj:=j.2
    have l1:=rK ⟨j.1+1,by omega⟩
    have l0:=rK ⟨j.1,by omega⟩
    rw[show ((j.1:Int)+1 - 1)=j.1 by omega]
    rw[show (((⟨j.1+1,by omega⟩ : Fin 61).1:Nat):Int)=(j.1:Int)+1 from rfl] at l1
    have nf:∀i:Int,0<=i->i<=60->∃b,b<=400/\Po b (.int i)/\(b+12) * Mi (.int i)<=Ax:=λi a b=>⟨12,by decide,by rw[Po]; omega,by rw[fI]; exact sz (by decide)⟩
    have f1:=nf ((j.1:Int)+1) (by omega) (by omega)
    have f0:=nf (j.1:Int) (by omega) (by omega)
    have dp:∀i:Int,(Bs i).depth<=90:=λi=>by simp [Cv]
    have lc:Ho "," = 1:=by decide +kernel
    replace l0:(Ro (.int (j.1:Int))).length<=2:=l0
    have ap:(Ro (.int (j.1:Int))++("," : Str)).length+(Ro (.int ((j.1:Int)+1))).length<=1000000:=by rw[Ve]; omega
    refine ⟨CL,f1,dp _,f0,dp _,f0,dp _,by omega,f1,dp _,ap,FB,M0 b40.1 b40.2 rfl ?_ hR⟩
    clear hR f1 f0 ap l1 l0 hj h60 h1
    revert j
    decide +kernel
end
open DRow
theorem U1{α:Type}:∀{l:List α},l.length=14->∃a b c d e f g h i j k m n o,l=[a,b,c,d,e,f,g,h,i,j,k,m,n,o]
 | [_,_,_,_,_,_,_,_,_,_,_,_,_,_],_=>⟨_,_,_,_,_,_,_,_,_,_,_,_,_,_,rfl⟩
theorem CS{a b c d r:Int}(h:0<=r/\r<4):∃v,Re [Bs a,.int b,.int c,.int d] r=some (.int v)/\(v=a\/v=b\/v=c\/v=d):=by
 rcases (by omega:r=0\/r=1\/r=2\/r=3) with e | e | e | e <;> rw[e]
 ·exact ⟨a,rT _ _,.inl rfl⟩
 ·exact ⟨b,rM _ _ _,.inr (.inl rfl)⟩
 ·exact ⟨c,S8 _ _ _ _,.inr (.inr (.inl rfl))⟩
 ·exact ⟨d,P3 _ _ _ _ _,.inr (.inr (.inr rfl))⟩
theorem AW{a b:Int}{t:Bool}:∃v,Re [Bs a,.int b] (if t=true then 1 else 0)=some (.int v)/\(v=a\/v=b):=by
 cases t
 ·exact ⟨a,rT _ _,.inl rfl⟩
 ·exact ⟨b,rM _ _ _,.inr rfl⟩
theorem P8{Hh h:Int}{z:Str}{v:Ad}(k:u9 Hh h z v):Ds v v=true/\v.depth<=60/\isNone v=false/\Ua v "list" = !decide (Hh=0):=by
 rcases k with ⟨rfl,w,_,rfl⟩ | ⟨rfl,w,_,rfl⟩ | ⟨rfl,w,_,rfl⟩ | ⟨rfl,w,_,_,rfl⟩
 ·exact ⟨by rw[Rv]; exact decide_eq_true rfl,dp,rfl,rfl⟩
 ·exact ⟨by rw[e8]; exact decide_eq_true rfl,dp,rfl,rfl⟩
 ·exact ⟨by rw[mD,Vf yK]; exact decide_eq_true rfl,dp,rfl,rfl⟩
 ·exact ⟨by rw[e8]; exact decide_eq_true rfl,dp,rfl,rfl⟩
theorem x9:Ra 4 "none" := ⟨show ∀c∈(Lm "none").toList,c<128 by decide +kernel,by decide +kernel⟩
theorem fV{l:List Str}{k N:Nat}(h:∀p∈l,gQ p/\p.length<=k)(hl:l.length<=N):Ra ((k+1) * N+4) (Ng l):=by
 unfold Ng
 split
 ·exact fB x9 (by omega)
 ·refine ⟨λc hc=>?_,?_⟩
  ·rcases Xq hc with hc | ⟨p,hp,hc⟩
   ·exact Xl c hc
   ·exact (h p hp).1.1 c hc
  ·have s1:=Vu " " l
   have s2:=Pe (sep := " ") (k:=k+1) (ps:=l) λp hp=>by
    have:=(h p hp).2
    have:=Ie
    omega
   have s3:=Nat.mul_le_mul_left (k+1) hl
   omega
theorem C8{l:List Str}(h:∀p∈l,gQ p/\p.length<=180)(hl:l.length<=60):Uy (Ng l):=by
 have t:=fV h hl
 refine ⟨⟨t.1,Ba t.2 (by decide)⟩,?_⟩
 by_cases e:l=[]
 ·subst e
  rw[show Ng [] = "none" from rfl,qR]
  decide
 ·have : Tw (Ng l) " " = l:=by
   unfold Tw Ng
   rw[if_neg e]
   exact mS fA e λp hp=>(h p hp).1.2.1
  rw[this]
  omega
section
variable{P:Bh}{w:World}{K:PySem.W.Frag}{mg:Str->Option Value}{base:Heap}
theorem U7:FnScope ["_law_script", "_law_cell", "_law_draws_here", "_law_pick", "_law_holes", "_law_word_here", "_law_deck_here", "_law_row_here", "_law_some", "_law_code_here", "_law_twice", "_law_text", "_law_way", "_law_told", "_law_odd_here"] ["_law_script"] (Bj cY):=⟨rfl,rfl,rfl,by decide +kernel,rfl,by decide +kernel,by decide +kernel⟩
theorem U0{f f_L_draws f_L_next f_L_word f_L_row f_L_deck f_L_code f_L_word_text f_L_deck_text f_L_row_text f_L_read f_L_said f_L_bent f_L_odd  : Addr}{fd d_L_draws d_L_next d_L_word d_L_row d_L_deck d_L_code d_L_word_text d_L_deck_text d_L_row_text d_L_read d_L_said d_L_bent d_L_odd:Bz}(F:Fun K "law" "law" cY f fd)(G_L_draws:FnOk P w K mg base Ik 1 f_L_draws d_L_draws ["_law_cell"] (Vo))(b_L_draws:Binds K d_L_draws ["_law_cell"] [])(k_L_draws:PySem.W.keepIn K (.ref f_L_draws)=true)(m_L_draws:mg "_law_draws" = some (.ref f_L_draws))(G_L_next:FnOk P w K mg base Ik 1 f_L_next d_L_next ["_law_draws_here"] (Zp K Rr))(b_L_next:Binds K d_L_next ["_law_draws_here"] [])(k_L_next:PySem.W.keepIn K (.ref f_L_next)=true)(m_L_next:mg "_law_next" = some (.ref f_L_next))(G_L_word:FnOk P w K mg base Ik 2 f_L_word d_L_word ["_law_draws_here", "_law_holes"] (Zp K (cD)))(b_L_word:Binds K d_L_word ["_law_draws_here", "_law_holes"] [])(k_L_word:PySem.W.keepIn K (.ref f_L_word)=true)(m_L_word:mg "_law_word" = some (.ref f_L_word))(G_L_row:FnOk P w K mg base Ik 3 f_L_row d_L_row ["_law_draws_here", "_law_holes", "_law_many"] (Zp K (O0)))(b_L_row:Binds K d_L_row ["_law_draws_here", "_law_holes", "_law_many"] [])(k_L_row:PySem.W.keepIn K (.ref f_L_row)=true)(m_L_row:mg "_law_row" = some (.ref f_L_row))(G_L_deck:FnOk P w K mg base Ik 3 f_L_deck d_L_deck ["_law_draws_here", "_law_holes", "_law_many"] (Zp K (vK)))(b_L_deck:Binds K d_L_deck ["_law_draws_here", "_law_holes", "_law_many"] [])(k_L_deck:PySem.W.keepIn K (.ref f_L_deck)=true)(m_L_deck:mg "_law_deck" = some (.ref f_L_deck))(G_L_code:FnOk P w K mg base Ik 3 f_L_code d_L_code ["_law_draws_here", "_law_holes", "_law_many"] (Zp K (vH)))(b_L_code:Binds K d_L_code ["_law_draws_here", "_law_holes", "_law_many"] [])(k_L_code:PySem.W.keepIn K (.ref f_L_code)=true)(m_L_code:mg "_law_code" = some (.ref f_L_code))(G_L_word_text:FnOk P w K mg base Ik 1 f_L_word_text d_L_word_text ["_law_word_here"] (Zt K (Zl)))(b_L_word_text:Binds K d_L_word_text ["_law_word_here"] [])(k_L_word_text:PySem.W.keepIn K (.ref f_L_word_text)=true)(m_L_word_text:mg "_law_word_text" = some (.ref f_L_word_text))(G_L_deck_text:FnOk P w K mg base Ik 2 f_L_deck_text d_L_deck_text ["_law_deck_here"] (Zt K (qV)))(b_L_deck_text:Binds K d_L_deck_text ["_law_deck_here"] [])(k_L_deck_text:PySem.W.keepIn K (.ref f_L_deck_text)=true)(m_L_deck_text:mg "_law_deck_text" = some (.ref f_L_deck_text))(G_L_row_text:FnOk P w K mg base Ik 2 f_L_row_text d_L_row_text ["_law_row_here"] (Zt K (pO)))(b_L_row_text:Binds K d_L_row_text ["_law_row_here"] [])(k_L_row_text:PySem.W.keepIn K (.ref f_L_row_text)=true)(m_L_row_text:mg "_law_row_text" = some (.ref f_L_row_text))(G_L_read:FnOk P w K mg base Ik 3 f_L_read d_L_read ["_law_way", "_law_holes", "_law_text"] (Zt K (Zo)))(b_L_read:Binds K d_L_read ["_law_way", "_law_holes", "_law_text"] [])(k_L_read:PySem.W.keepIn K (.ref f_L_read)=true)(m_L_read:mg "_law_read" = some (.ref f_L_read))(G_L_said:FnOk P w K mg base Ik 7 f_L_said d_L_said ["_law_way", "_law_holes", "_law_text"] (Zt K (Zo)))(b_L_said:Binds K d_L_said ["_law_way", "_law_holes", "_law_text"] [])(k_L_said:PySem.W.keepIn K (.ref f_L_said)=true)(m_L_said:mg "_law_said" = some (.ref f_L_said))(G_L_bent:FnOk P w K mg base Ik 2 f_L_bent d_L_bent ["_law_draws_here", "_law_text"] (Zp K (yW)))(b_L_bent:Binds K d_L_bent ["_law_draws_here", "_law_text"] [])(k_L_bent:PySem.W.keepIn K (.ref f_L_bent)=true)(m_L_bent:mg "_law_bent" = some (.ref f_L_bent))(G_L_odd:FnOk P w K mg base Ik 1 f_L_odd d_L_odd ["_law_holes", "_law_pick"] (FK K (Q0)))(b_L_odd:Binds K d_L_odd ["_law_holes", "_law_pick"] [])(k_L_odd:PySem.W.keepIn K (.ref f_L_odd)=true)(m_L_odd:mg "_law_odd" = some (.ref f_L_odd))(mz_int:mg "int" = none)(mz_len:mg "len" = none)(mz_range:mg "range" = none)(mz_list:mg "list" = none)(mz_isinstance:mg "isinstance" = none):FnOk P w K mg base Ik 8 f fd ["_law_script"] (spLawD K):=by
 refine' Z3 (k:=7) F U7 (λcdv A outer s H E hr=>?hb) ?h
 case hb =>
  have hr1:Room 1 _:=hr.mono (by decide)
  have hr2:Room 2 _:=hr.mono (by decide)
  have hr3:Room 3 _:=hr.mono (by decide)
  have hr4:Room 4 _:=hr.mono (by decide)
  have hr5:Room 5 _:=hr.mono (by decide)
  have hr6:Room 6 _:=hr.mono (by decide)
  have hr7:Room 7 _:=hr.mono (by decide)
  have hu64:=hr.units
  have CS1:∀{scope:Scope} (h:scope={ kind:=.function,names:=[(".0",.local),("_law_one",.local),("_law_bent",.globalImplicit),("_law_draws_here",.free)],isGenerator:=false,isCoroutine:=false }),
    CompScope (Hq Ik P w K mg base ["_law_script", "_law_cell", "_law_draws_here", "_law_pick", "_law_holes", "_law_word_here", "_law_deck_here", "_law_row_here", "_law_some", "_law_code_here", "_law_twice", "_law_text", "_law_way", "_law_told", "_law_odd_here"] "law" (Bj cY) f cdv A outer s H E).nox scope [("_law_draws_here",s.heap.objs.size+1)] "_law_one" ["_law_draws_here"] [2]:=by
   rintro scope rfl
   refine ⟨by rfl,.inl (by decide +kernel),by rfl,by decide +kernel,.inl rfl,λy c h=>?_,by rfl,by decide +kernel,rfl,λk y j e1 e2=>?_⟩
   ·have z:=Ka h
    simp only[Ap,Cj,or_false,Prod.mk.injEq] at z
    obtain ⟨rfl,rfl⟩:=z; rfl
   ·match k,e1,e2 with
    | 0,e1,e2=>cases e1; cases e2; exact ⟨rfl,rfl,by first | exact .inl rfl | exact .inr rfl⟩
    | k+1,e1,e2=>cases e1
  exact Bt (Ma Ew rfl (N7 (iF (vM (pv 0) Lp (Lo Bu)) (Fn (Ak Bu Au)))) (Hz (i:=1) U7.nd rfl (Ce rfl))
   (Bt (Dz (i:=2) U7.nd rfl (Or.inr rfl) (yV G_L_draws hr1 rfl m_L_draws k_L_draws b_L_draws Fh (Ak (Am (pv 1)) Au)))
    (Bt (Dz (i:=3) U7.nd rfl (Ce rfl) (Es G_L_next hr1 rfl m_L_next k_L_next b_L_next Fh (pv 2) Au))
    (Bt (Dz (i:=4) U7.nd rfl (Ce rfl) (Qo Bu (Kh (Fn (Ak (Fx (Mb (Am (pv 3)) Bu) Bu) (Ak (Fx (Mb (Am (pv 3)) Bu) Bu) (Ak (Fx (Mb (Am (pv 3)) Bu) Bu) (Ak (Fx (Mb (Am (pv 3)) Bu) Bu) Au))))) (Fx (Am (pv 3)) Bu))))
    (Bt (Dz (i:=5) U7.nd rfl (Ce rfl) (Hm G_L_word_text hr1 rfl m_L_word_text k_L_word_text b_L_word_text Fh (Ak (Es G_L_word hr2 rfl m_L_word k_L_word b_L_word Fh (pv 2) (Ak (Am (pv 4)) Au)) Au)))
    (Bt (Dz (i:=6) U7.nd rfl (Ce rfl) (Hm G_L_deck_text hr2 rfl m_L_deck_text k_L_deck_text b_L_deck_text Fh (Ak (Es G_L_deck hr3 rfl m_L_deck k_L_deck b_L_deck Fh (pv 2) (Ak (Am (pv 4)) (Ak Bu Au))) Au)))
    (Bt (Dz (i:=7) U7.nd rfl (Ce rfl) (Hm G_L_row_text hr2 rfl m_L_row_text k_L_row_text b_L_row_text Fh (Ak (Es G_L_row hr3 rfl m_L_row k_L_row b_L_row Fh (pv 2) (Ak (Am (pv 4)) (Ak Bu Au))) Au)))
    (Bt (t9 (o:=true) (i0:=8) U7.nd rfl rfl (js1:=[]) (j0:=2) (js2:=[]) (CS1 rfl) rfl (N7 (Fn (Ak (Kj (Am (pv 5))) (Ak (Kj (Am (pv 6))) (Ak (Kj (Am (pv 7))) (Ak (Kj (Am (pv 5))) (Ak (Kj (Am (pv 6))) (Ak (Kj (Am (pv 7))) Au)))))))) (λ_ _ _=>Lq) (λ_ _ _=>Es G_L_bent hr2 rfl m_L_bent k_L_bent b_L_bent Fh (pv 1) (Ak (Am (pv 0)) Au)))
    (Bt (Dz (i:=9) U7.nd rfl (Ce rfl) (Es G_L_code hr3 rfl m_L_code k_L_code b_L_code Fh (pv 2) (Ak (Am (pv 4)) (Ak (Kh (Fn (Ak Bu (Ak Bu Au))) (Gs Td gL rfl mz_int (by decide +kernel) (Ak (wI hu64 (Fx (Mb (Am (pv 3)) Bu) Bu) Bu) Au))) Au))))
    (Bt (Hs (Ub hu64 (Am (pv 9)) (Fn Au))
    (Bt (Dz (i:=10) U7.nd rfl (Ce rfl) (Kh (Am (pv 9)) (Fx (Es G_L_next hr1 rfl m_L_next k_L_next b_L_next Fh (pv 2) Au) (Gg Kk Ql rfl mz_len (by decide +kernel) (Ak (Am (pv 9)) Au)))))
     (Cu (Kt (pv 8) (Hm G_L_deck_text hr2 rfl m_L_deck_text k_L_deck_text b_L_deck_text Fh (Ak (iF (Am (pv 9)) (Fn (Ak (Kj (Am (pv 10))) Au))) Au))))) Eu)
    (Bt (Ma Ew rfl (N7 (qC (Qa (pv 8)) (Fn (Ak ((mY G_L_odd hr1 rfl m_L_odd k_L_odd b_L_odd Fh (Ak (Am (pv 4)) (Ak (Mb (Am (pv 3)) Bu) Au)))) Au)))) (Hz (i:=11) U7.nd rfl (Ce rfl))
    (Cu (Ma Ew rfl (Mu rfl mz_range (Ak Bu Au)) (Hz (i:=12) U7.nd rfl (Ce rfl))
     (Bt (Dz (i:=13) U7.nd rfl (Ce rfl) (Hm G_L_said hr7 rfl m_L_said k_L_said b_L_said Fh (Ak (Am (pv 12)) (Ak (Am (pv 4)) (Ak (Am (pv 11)) Au)))))
      (Bt (Hs (Ub hu64 (Am (pv 13)) (Hm G_L_read hr3 rfl m_L_read k_L_read b_L_read Fh (Ak (Am (pv 12)) (Ak (Am (pv 4)) (Ak (Am (pv 11)) Au)))))
      (Cu (Ek Yc)) Eu)
      (Cu (Hs (Yy (Uv (N6 (Am (pv 13)) On) (Qe (Ji hu64 (Gg Xr Xw rfl mz_isinstance (by decide +kernel) (Ak (Am (pv 13)) (Ak (eU (n := "list") rfl mz_list (by decide +kernel)) Au))) (wI hu64 (Am (pv 12)) Bu)))))
      (Cu (Ek Yc)) Eu)))))))
    (Bt (Dz (i:=14) U7.nd rfl (Ce rfl) (mY G_L_odd hr1 rfl m_L_odd k_L_odd b_L_odd Fh (Ak (Am (pv 4)) (Ak (Mb (Am (pv 3)) Bu) Au))))
    (Cu (Hs (Ub hu64 (Hm G_L_said hr7 rfl m_L_said k_L_said b_L_said Fh (Ak Bu (Ak (Am (pv 4)) (Ak (Am (pv 14)) Au)))) (Hm G_L_read hr3 rfl m_L_read k_L_read b_L_read Fh (Ak Bu (Ak (Am (pv 4)) (Ak (Am (pv 14)) Au)))))
    (Cu (Ek Yc)) Eu))))))))))))))
   (Cu (Ek Yc))
 case h =>
  intro ns h63
  array_get_dec
  have lc:(Ls ns none (some 12)).length<=12:=EM 12
  refine ⟨by rw[Ab]; omega,?_⟩
  refine Uq (l:=Ls ns none (some 12)++[0]) (g:=Bs) (by rw[Bd]; rfl) (λi δ=>∃(l:List DV) (n':Nat),δ=⟨.scr ns::l,n'⟩/\l.length=14/\(∀v∈l,NP v)/\n'<=3750 * i) ?_ ?_ ?_
  ·exact ⟨_,_,rfl,rfl,by simp [Gy],by omega⟩
  ·(intro i c _ hc q_; obtain ⟨l,n0,rfl,hl,hv,hn⟩ := q_)
   have hi:i<13:=by
    have:=(Av.mp hc).1
    rw[Be,Dl] at this
    omega
   obtain ⟨v1,v2,v3,v4,v5,v6,v7,v8,v9,v10,v11,v12,v13,v14,rfl⟩:=U1 hl
   simp only[List.forall_mem_cons] at hv
   obtain ⟨hv1,hv2,hv3,hv4,hv5,hv6,hv7,hv8,hv9,hv10,hv11,hv12,hv13,hv14,-⟩:=hv
   array_get_dec
   refine ⟨rfl,by omega,λr1=>?_⟩
   array_get_dec
   obtain ⟨q,e1,e2⟩:=CS (a:=r1 / 4 % 12) (b:=r1 / 4 % 12) (c:=r1 / 4 % 12) (d:=r1 / 4 % 60) (Jy r1 (b:=4) (by decide))
   have bq:0<=q/\q<60:=by
    have a1:=Jy (r1 / 4) (b:=12) (by decide)
    have a2:=Jy (r1 / 4) (b:=60) (by decide)
    omega
   refine ⟨_,e1,?_⟩
   array_get_dec
   obtain ⟨h,eh,h1,h60⟩ : ∃h:Int,1+q=h/\1<=h/\h<=60:=⟨_,rfl,by omega,by omega⟩
   rw[eh]
   refine ⟨h,rfl,by omega,h60,by omega,λw n1 m1 m2 rw_=>?_⟩
   have rw60:=rw_.up h60
   refine ⟨w,rfl,rw60,?_⟩
   refine ⟨h,5,rfl,h1,h60,by omega,by omega,by omega,λD n2 lD hD m3 m4=>?_⟩
   have D60:∀w∈D,Dt 60 w:=λw hw=>(hD w hw).up h60
   refine ⟨D,rfl,D60,by omega,?_⟩
   refine ⟨h,5,rfl,h1,h60,by omega,by omega,by omega,λps n3 lp hp m5 m6=>?_⟩
   have p60:∀p∈ps,Dt 60 p.1:=λp hq=>(hp p hq).up h60
   refine ⟨ps,rfl,p60,by omega,?_⟩
   have tw:Ra 990 (wt w):=fB ⟨kS rw60,(Wa rw60).len⟩ (by decide)
   have tD:Ra 990 (Ng (D.map wt)):=fB (fV (k:=180) (N:=5) (λp hp=>by
    obtain ⟨w,hw,rfl⟩:=Ci.mp hp
    exact ⟨iM (D60 w hw),(Wa (D60 w hw)).len⟩) (by rw[Ab]; omega)) (by decide)
   have tP:Ra 990 (Ng (ps.map pt)):=fB (fV (k:=182) (N:=5) (λp hp=>by
    obtain ⟨w,hw,rfl⟩:=Ci.mp hp
    exact ⟨F3 (p60 w hw),zY (p60 w hw)⟩) (by rw[Ab]; omega)) (by decide)
   array_get_dec
   refine M4 (l:=[wt w,Ng (D.map wt),Ng (ps.map pt),wt w,Ng (D.map wt),Ng (ps.map pt)]) (g:=Cp) rfl rfl (λj acc m=>(∃zs:List Str,acc=zs.map Cp/\zs.length=j/\∀z∈zs,Uy z)/\n3<=m/\m<=n3+10 * j) ⟨⟨[],rfl,rfl,λ_ z=>(nomatch z)⟩,Al _,Al _⟩ ?_ ?_
   ·(intro j a acc m ha q_; obtain ⟨⟨zs,rfl,lz,hz⟩,k1,k2⟩ := q_)
    have ma:=Ay ha
    have lj:=(Av.mp ha).1
    simp only[Bq,List.length_nil] at lj
    have ta:Ra 990 a:=by
     simp only[Ap,Cj,or_false] at ma
     rcases ma with rfl | rfl | rfl | rfl | rfl | rfl <;> assumption
    array_get_dec
    refine ⟨a,rfl,ta,by omega,λz' n' q1 q2 q3=>?_⟩
    array_get_dec
    refine ⟨⟨zs++[z'],by rw[Bd]; rfl,by rw[Be,Dl,lz],λz hz'=>?_⟩,by omega,by omega⟩
    rcases Aw.mp hz' with hz' | hz'
    ·exact hz z hz'
    ·rw[Af.mp hz']
     exact N8 q3 (by decide)
   (intro acc n4 q_; obtain ⟨⟨zs,rfl,lz,hz⟩,k1,k2⟩ := q_)
   simp only[Bq,List.length_nil] at lz k2
   array_get_dec
   obtain ⟨q5,f1,f2⟩:=AW (a:=5) (b:=39) (t:=decide (r1 / 64 % 4=1))
   refine ⟨_,f1,?_⟩
   refine ⟨h,q5,rfl,h1,h60,by omega,by omega,by omega,λE n5 lE hE nE m7 m8=>?_⟩
   have E60:∀w∈E,Dt 60 w:=λw hw=>(hE w hw).up h60
   array_get_dec
   refine qQ (λδ=>∃(zs:List Str) (u:DV) (n6:Nat),δ=⟨[.scr ns,.dat .sh (.int c),.drw,.dat .sh (.int r1),.dat .sh (.int h),.dat .sh (.str (wt w)),.dat .sh (.str (Ng (D.map wt))),.dat .sh (.str (Ng (ps.map pt))),.dat .ow (.list (zs.map Cp)),.dat .sh (.list (E.map Co)),u,v11,v12,v13,v14],n6⟩/\NP u/\zs.length<=7/\(∀z∈zs,Uy z)/\n6<=n5+1) (λN hN=>?_) ?_
   ·refine Rp (λhb=>?_) (λhb=>?_)
    ·have lp:0<E.length:=by
      cases E with
      | nil=>simp at hb
      | cons x y=>exact Iv _
     array_get_dec
     refine ⟨rfl,by omega,λr2=>?_⟩
     array_get_dec
     have bl:=Jy r2 (b:=(E.length:Int)) (by omega)
     obtain ⟨w2,_,g2,g3⟩:=Sh (l:=E) bl.1 bl.2
     refine ⟨by rw[Ab]; omega,Co w2,by rw[Ab,gO,g2]; rfl,?_⟩
     array_get_dec
     refine ⟨by rw[Ab]; omega,E++[w2],by rw[Bd]; rfl,λx hx=>?_,by rw[Be,Dl]; omega,?_⟩
     ·rcases Aw.mp hx with hx | hx
      ·exact E60 x hx
      ·rw[Af.mp hx]; exact E60 w2 g3
     refine ⟨by simp [npk,hv11 _,hv12 _,hv13 _,hv14 _],rfl,by rw[Ab]; omega,hN _ ⟨zs++[Ng ((E++[w2]).map wt)],.dat .sh (Co w2),_,Qw (by rw[show (zs++[Ng ((E++[w2]).map wt)]).map Cp=zs.map Cp++[Cp (Ng ((E++[w2]).map wt))] from Bd ..]) rfl,Ej,by rw[Be,Dl]; omega,λz hz'=>?_,by omega⟩⟩
     rcases Aw.mp hz' with hz' | hz'
     ·exact hz z hz'
     ·rw[Af.mp hz']
      refine C8 (λp hp=>?_) (by rw[Ab,Be,Dl]; omega)
      obtain ⟨x,hx,rfl⟩:=Ci.mp hp
      have rx:Dt 60 x:=by
       rcases Aw.mp hx with hx | hx
       ·exact E60 x hx
       ·rw[Af.mp hx]; exact E60 w2 g3
      exact ⟨iM rx,(Wa rx).len⟩
    ·array_get_dec
     exact hN _ ⟨zs,v10,n5,rfl,hv10,by omega,hz,by omega⟩
   (intro _ q_; obtain ⟨zs,u,n6,rfl,hu,lz7,hz,k6⟩ := q_)
   array_get_dec
   refine ⟨h,r1 / 256,rfl,h1,h60,λd hd=>?_⟩
   array_get_dec
   refine ⟨by rw[Ab]; omega,?_⟩
   refine Uq (l:=zs.map Cp++[d]) (g:=id) (by rw[List.map_id]) (λ_ δ=>∃x y t:DV,δ=⟨[.scr ns,.dat .sh (.int c),.drw,.dat .sh (.int r1),.dat .sh (.int h),.dat .sh (.str (wt w)),.dat .sh (.str (Ng (D.map wt))),.dat .sh (.str (Ng (ps.map pt))),.un,.dat .sh (.list (E.map Co)),u,x,y,t,v14],n6⟩/\NP x/\NP y/\NP t) ?_ ?_ ?_
   ·exact ⟨_,_,_,rfl,hv11,hv12,hv13⟩
   ·(intro j x _ hx q_; obtain ⟨x0,y0,t0,rfl,hx0,hy0,ht0⟩ := q_)
    have tx:∀z,x=.str z->Uy z:=by
     rcases Aw.mp (Ay hx) with m | m
     ·obtain ⟨z',hz',rfl⟩:=Ci.mp m
      intro z e
      cases e
      exact hz _ hz'
     ·rw[Af.mp m]
      exact hd
    show My 11 (.dat .sh x) _ _
    array_get_dec
    refine Uq (l:=Cc 4) (g:=λi:Nat=>.int i) rfl (λ_ δ=>∃y t:DV,δ=⟨[.scr ns,.dat .sh (.int c),.drw,.dat .sh (.int r1),.dat .sh (.int h),.dat .sh (.str (wt w)),.dat .sh (.str (Ng (D.map wt))),.dat .sh (.str (Ng (ps.map pt))),.un,.dat .sh (.list (E.map Co)),u,.dat .sh x,y,t,v14],n6⟩/\NP y/\NP t) ?_ ?_ ?_
    ·exact ⟨_,_,rfl,hy0,ht0⟩
    ·(intro y y' _ hy q_; obtain ⟨y1,t1,rfl,hy1,ht1⟩ := q_)
     obtain ⟨rfl,ly⟩:=Rl hy
     array_get_dec
     refine ⟨(y':Int),h,x,rfl,by omega,by omega,h60,tx,λz v ez k=>?_,λno=>?_⟩
     ·subst ez
      array_get_dec
      refine ⟨(y':Int),h,.str z,rfl,by omega,by omega,h60,tx,λz' v' e' k'=>?_,λno=>absurd k (no z v rfl)⟩
      cases e'
      obtain rfl:=k.one k'
      obtain ⟨a1,a2,a3,a4⟩:=P8 k
      array_get_dec
      refine ⟨a2,a2,?_⟩
      rw[a1]
      array_get_dec
      rw[a3]
      array_get_dec
      rw[a4,show ((!decide ((y':Int)=0)) == decide ((y':Int)=0))=false by cases decide ((y':Int)=0) <;> rfl]
      array_get_dec
      exact ⟨_,_,rfl,Ej,Ej⟩
     ·array_get_dec
      refine ⟨(y':Int),h,x,rfl,by omega,by omega,h60,tx,λz' v' e' k'=>absurd k' (no z' v' e'),λ_=>?_⟩
      array_get_dec
      rw[show Ds Hk Hk=true by simp [Ds]]
      array_get_dec
      rw[show isNone Hk=true from rfl]
      array_get_dec
      exact ⟨_,_,rfl,Ej,Ej⟩
    ·(intro _ q_; obtain ⟨y1,t1,rfl,hy1,ht1⟩ := q_)
     exact ⟨_,_,_,rfl,Ej,hy1,ht1⟩
   (intro _ q_; obtain ⟨x,y,t,rfl,hx,hy,ht⟩ := q_)
   array_get_dec
   refine ⟨h,r1 / 16,rfl,h1,h60,λd2 hd2=>?_⟩
   array_get_dec
   refine ⟨0,h,d2,rfl,by decide,by decide,h60,hd2,λz v ez k=>?_,λno=>?_⟩
   ·subst ez
    refine ⟨0,h,.str z,rfl,by decide,by decide,h60,hd2,λz' v' e' k'=>?_,λno=>absurd k (no z v rfl)⟩
    cases e'
    obtain rfl:=k.one k'
    obtain ⟨a1,a2,_,_⟩:=P8 k
    refine ⟨a2,a2,?_⟩
    rw[a1]
    array_get_dec
    exact ⟨_,_,rfl,rfl,by simp [Ej,zU,Gy,hu,hx,hy,ht],by omega⟩
   ·refine ⟨0,h,d2,rfl,by decide,by decide,h60,hd2,λz' v' e' k'=>absurd k' (no z' v' e'),λ_=>?_⟩
    array_get_dec
    rw[show Ds Hk Hk=true by simp [Ds]]
    array_get_dec
    exact ⟨_,_,rfl,rfl,by simp [Ej,zU,Gy,hu,hx,hy,ht],by omega⟩
  ·(intro _ q_; obtain ⟨l,n0,rfl,hl,hv,hn⟩ := q_)
   array_get_dec
end
end K82
namespace K82
open PySem L2 Nd DL
structure Def(K:PySem.W.Frag)(x:Str)(st:Stmt)(f:Addr)(fd:Bz):Prop where
 nm:PySem.W.nsIn K Bv x=some (some (.ref f))
 fn:Fun K x x st f fd
theorem def_mk{K:PySem.W.Frag}{x:Str}{st:Stmt}{f:Addr}{od an:Option Addr}{sl:Array (Option Value)}{oc kV dc pm cd ct:Value}(a:PySem.W.nsIn K Bv x=some (some (.ref f)))(l:K.lookup f=some ⟨oc,od,.func (PySem.W.fnOf x x (Ny st) (Hy st) (Bj st) .none kV dc pm an cd ct),sl⟩)(c:PySem.W.codeIn K cd x=true)(k:PySem.W.keepIn K (.ref f)=true):Def K x st f (PySem.W.fnOf x x (Ny st) (Hy st) (Bj st) .none kV dc pm an cd ct):=⟨a,uY l c k⟩
theorem cls_ok{K:PySem.W.Frag}{D:Addr}{cd:ClassData}(h:PySem.W.clsIn K D=some cd):∃cd,PySem.W.clsIn K D=some cd:=⟨cd,h⟩
structure Oth(K:PySem.W.Frag)(C D:Addr):Prop where
 cls:∃cd,PySem.W.clsIn K D=some cd
 ty:PySem.W.typeIn K (.ref D)=some (.type "type")
 sub:PySem.W.subIn K (.ref C) (.ref D)=some false
 ne:C≠D
theorem Oth.kit{K:PySem.W.Frag}{C D:Addr}(h:Oth K C D):PySem.W.kitOne K (.ref C) (.ref D)=some false:=let ⟨_,e⟩:=h.cls; A8 e h.ty h.sub h.ne
theorem dS{K:PySem.W.Frag}{t:Value}:∀{cs:List Value},(∀c∈cs,PySem.W.kitOne K t c=some false)->PySem.W.kitAny K t cs=some false
 | [],_=>rfl
 | c::cs,h=>by
  unfold PySem.W.kitAny
  rw[h c Aa]
  exact dS λx hx=>h x (Ae _ hx)
theorem oths{K:PySem.W.Frag}{C c_NoBack c_NoCount c_NoHoles c_NoLine c_NoName c_NoSide c_NoValue c_NoWord:Addr}(o1:Oth K C c_NoBack)(o2:Oth K C c_NoCount)(o3:Oth K C c_NoHoles)(o4:Oth K C c_NoLine)(o5:Oth K C c_NoName)(o6:Oth K C c_NoSide)(o7:Oth K C c_NoValue)(o8:Oth K C c_NoWord):PySem.W.kitAny K (.ref C) ([c_NoBack,c_NoCount,c_NoHoles,c_NoLine,c_NoName,c_NoSide,c_NoValue,c_NoWord].map Cf)=some false :=
 dS λc hc=>by
  simp only[Ar,List.map_nil,Ap,Cj,or_false] at hc
  rcases hc with rfl | rfl | rfl | rfl | rfl | rfl | rfl | rfl
  ·exact o1.kit
  ·exact o2.kit
  ·exact o3.kit
  ·exact o4.kit
  ·exact o5.kit
  ·exact o6.kit
  ·exact o7.kit
  ·exact o8.kit
theorem IM{P:List Value->Prop}(h:P []):∀us:List Value,us.length=0->P us
 | [],_=>h
theorem HB{P:List Value->Prop}{n:Nat}(h:∀a (us:List Value),us.length=n->P (a::us)):∀us:List Value,us.length=n+1->P us
 | a::us,e=>h a us (Nat.succ.inj e)
theorem wD{P:List Value->Prop}(h:∀a0,P [a0]):∀us:List Value,us.length=1->P us:=HB λa us e=>IM (P:=λus=>P (a::us)) (h a) us e
theorem p6{P:List Value->Prop}(h:∀a0 a1,P [a0,a1]):∀us:List Value,us.length=2->P us:=HB λa us e=>wD (P:=λus=>P (a::us)) (h a) us e
theorem BI{P:List Value->Prop}(h:∀a0 a1 a2,P [a0,a1,a2]):∀us:List Value,us.length=3->P us:=HB λa us e=>p6 (P:=λus=>P (a::us)) (h a) us e
theorem all_mk{l:PySem.W.OpenLaw}{q:Bh}{w:World}{K:PySem.W.Frag}{h:Heap}{mg:Str->Option Value}{fa f1 f2 f3 f4 f5 f6 f7 f8 f9 f10 f11 f12 f13 f14 f15 f16 f17 f18 f19 f20 f21 f22 f23 f24 f25 f26 f27:Addr}{d1 d2 d3 d4 d5 d6 d7 d8 d9 d10 d11 d12 d13 d14 d15 d16 d17 d18 d19 d20 d21 d22 d23 d24 d25 d26:Bz}{NE CN c_NoBack c_NoCount c_NoHoles c_NoLine c_NoName c_NoSide c_NoValue c_NoWord:Addr}(X:K.In h)(G:h.Ns Bv mg)(hfa:mg "law" = some (.ref fa)){od an:Option Addr}{sl:Array (Option Value)}{oc kV dc pm cd ct:Value}(D1:Def K "_law_draws" iC f1 d1)(D2:Def K "_law_next" rV f2 d2)(D3:Def K "is_whole" Us f3 d3)(D4:Def K "is_word" Wx f4 d4)(D5:Def K "check_text" Qg f5 d5)(D6:Def K "read_number" Lg f6 d6)(D7:Def K "read_word" Oa f7 d7)(D8:Def K "parts_of" Uo f8 d8)(D9:Def K "read_deck" Nz f9 d9)(D10:Def K "read_pass" Rx f10 d10)(D11:Def K "read_row" Qd f11 d11)(D12:Def K "read_code" Rz f12 d12)(D13:Def K "_law_word" Sf f13 d13)(D14:Def K "_law_row" Uu f14 d14)(D15:Def K "_law_deck" Rj f15 d15)(D16:Def K "_law_code" Rq f16 d16)(D17:Def K "_law_word_text" Gr f17 d17)(D18:Def K "_law_deck_text" Jg f18 d18)(D19:Def K "_law_row_text" Jr f19 d19)(D20:Def K "_law_number" Li f20 d20)(D21:Def K "_law_read_word" Kv f21 d21)(D22:Def K "_law_read" Rt f22 d22)(D23:Def K "_law_asked" Qc f23 d23)(D24:Def K "_law_said" Se f24 d24)(D25:Def K "_law_bent" Ru f25 d25)(D26:Def K "_law_odd" Mx f26 d26)(aL:PySem.W.nsIn K Bv "law" = some (some (.ref f27)))(lL:K.lookup f27=some ⟨oc,od,.func (PySem.W.fnOf "law" "law" (Ny cY) (Hy cY) (Bj cY) .none kV dc pm an cd ct),sl⟩)(cL:PySem.W.codeIn K cd "law" = true)(kL:PySem.W.keepIn K (.ref f27)=true)(z1:PySem.W.nsIn K Bv "bool" = some none)(z2:PySem.W.nsIn K Bv "isinstance" = some none)(z3:PySem.W.nsIn K Bv "int" = some none)(z4:PySem.W.nsIn K Bv "tuple" = some none)(z5:PySem.W.nsIn K Bv "str" = some none)(z6:PySem.W.nsIn K Bv "all" = some none)(z7:PySem.W.nsIn K Bv "len" = some none)(z8:PySem.W.nsIn K Bv "set" = some none)(z9:PySem.W.nsIn K Bv "range" = some none)(z10:PySem.W.nsIn K Bv "sorted" = some none)(z11:PySem.W.nsIn K Bv "ValueError" = some none)(z12:PySem.W.nsIn K Bv "list" = some none)(q1:PySem.W.nsIn K Bv "NeedleError" = some (some (.ref NE)))(q2:PySem.W.nsIn K Bv "NoText" = some (some (.ref CN)))(q3:PySem.W.nsIn K Bv "NoBack" = some (some (.ref c_NoBack)))(q4:PySem.W.nsIn K Bv "NoCount" = some (some (.ref c_NoCount)))(q5:PySem.W.nsIn K Bv "NoHoles" = some (some (.ref c_NoHoles)))(q6:PySem.W.nsIn K Bv "NoLine" = some (some (.ref c_NoLine)))(q7:PySem.W.nsIn K Bv "NoName" = some (some (.ref c_NoName)))(q8:PySem.W.nsIn K Bv "NoSide" = some (some (.ref c_NoSide)))(q9:PySem.W.nsIn K Bv "NoValue" = some (some (.ref c_NoValue)))(q10:PySem.W.nsIn K Bv "NoWord" = some (some (.ref c_NoWord)))(xE:PySem.W.excIn K NE pE "ValueError.__new__" = true)(xC:PySem.W.excIn K CN pE "ValueError.__new__" = true)(TX:KX K NE CN [c_NoBack,c_NoCount,c_NoHoles,c_NoLine,c_NoName,c_NoSide,c_NoValue,c_NoWord])(tz_often:PySem.W.nsIn K Bv "often" = some none)(tz_cut_by:PySem.W.nsIn K Bv "cut_by" = some none){tk_FIGURES:Tok}(qc_FIGURES:PySem.W.nsIn K Bv "FIGURES" = some (some (.str "0123456789" tk_FIGURES))){tk_MOST_FIGURES:Tok}(qc_MOST_FIGURES:PySem.W.nsIn K Bv "MOST_FIGURES" = some (some (.int 20 tk_MOST_FIGURES))):gM q K/\∃fd:Bz,(∀(s:Ah) (v:Value),BindsTo s fd ⟨[v],[]⟩ [("_law_script",v)])/\∀base:Heap,K.In base->base.Ns Bv mg->FnOk l.prog w K mg base Ik 8 fa fd ["_law_script"] (DL.spLawD K):=by
 have e:=hfa.symm.trans (PySem.W.mg_of X G aL)
 cases e
 have FL:=uY (st:=cY) lL cL kL
 have b1:=D1.fn.binds (ps:=["_law_cell"]) λ_ _ _ _ _ _=>wD (λ_=>rfl)
 have b2:=D2.fn.binds (ps:=["_law_draws_here"]) λ_ _ _ _ _ _=>wD (λ_=>rfl)
 have b3:=D3.fn.binds (ps:=["thing"]) λ_ _ _ _ _ _=>wD (λ_=>rfl)
 have b4:=D4.fn.binds (ps:=["holes", "thing"]) λ_ _ _ _ _ _=>p6 (λ_ _=>rfl)
 have b5:=D5.fn.binds (ps:=["thing"]) λ_ _ _ _ _ _=>wD (λ_=>rfl)
 have b6:=D6.fn.binds (ps:=["text"]) λ_ _ _ _ _ _=>wD (λ_=>rfl)
 have b7:=D7.fn.binds (ps:=["holes", "text"]) λ_ _ _ _ _ _=>p6 (λ_ _=>rfl)
 have b8:=D8.fn.binds (ps:=["text"]) λ_ _ _ _ _ _=>wD (λ_=>rfl)
 have b9:=D9.fn.binds (ps:=["holes", "text"]) λ_ _ _ _ _ _=>p6 (λ_ _=>rfl)
 have b10:=D10.fn.binds (ps:=["holes", "text"]) λ_ _ _ _ _ _=>p6 (λ_ _=>rfl)
 have b11:=D11.fn.binds (ps:=["holes", "text"]) λ_ _ _ _ _ _=>p6 (λ_ _=>rfl)
 have b12:=D12.fn.binds (ps:=["holes", "text"]) λ_ _ _ _ _ _=>p6 (λ_ _=>rfl)
 have b13:=D13.fn.binds (ps:=["_law_draws_here", "_law_holes"]) λ_ _ _ _ _ _=>p6 (λ_ _=>rfl)
 have b14:=D14.fn.binds (ps:=["_law_draws_here", "_law_holes", "_law_many"]) λ_ _ _ _ _ _=>BI (λ_ _ _=>rfl)
 have b15:=D15.fn.binds (ps:=["_law_draws_here", "_law_holes", "_law_many"]) λ_ _ _ _ _ _=>BI (λ_ _ _=>rfl)
 have b16:=D16.fn.binds (ps:=["_law_draws_here", "_law_holes", "_law_many"]) λ_ _ _ _ _ _=>BI (λ_ _ _=>rfl)
 have b17:=D17.fn.binds (ps:=["_law_word_here"]) λ_ _ _ _ _ _=>wD (λ_=>rfl)
 have b18:=D18.fn.binds (ps:=["_law_deck_here"]) λ_ _ _ _ _ _=>wD (λ_=>rfl)
 have b19:=D19.fn.binds (ps:=["_law_row_here"]) λ_ _ _ _ _ _=>wD (λ_=>rfl)
 have b20:=D20.fn.binds (ps:=["_law_text"]) λ_ _ _ _ _ _=>wD (λ_=>rfl)
 have b21:=D21.fn.binds (ps:=["_law_holes", "_law_text"]) λ_ _ _ _ _ _=>p6 (λ_ _=>rfl)
 have b22:=D22.fn.binds (ps:=["_law_way", "_law_holes", "_law_text"]) λ_ _ _ _ _ _=>BI (λ_ _ _=>rfl)
 have b23:=D23.fn.binds (ps:=["_law_way", "_law_holes", "_law_text"]) λ_ _ _ _ _ _=>BI (λ_ _ _=>rfl)
 have b24:=D24.fn.binds (ps:=["_law_way", "_law_holes", "_law_text"]) λ_ _ _ _ _ _=>BI (λ_ _ _=>rfl)
 have b25:=D25.fn.binds (ps:=["_law_draws_here", "_law_text"]) λ_ _ _ _ _ _=>p6 (λ_ _=>rfl)
 have b26:=D26.fn.binds (ps:=["_law_holes", "_law_pick"]) λ_ _ _ _ _ _=>p6 (λ_ _=>rfl)
 have m1:=PySem.W.mg_of X G D1.nm
 have m2:=PySem.W.mg_of X G D2.nm
 have m3:=PySem.W.mg_of X G D3.nm
 have m4:=PySem.W.mg_of X G D4.nm
 have m5:=PySem.W.mg_of X G D5.nm
 have m6:=PySem.W.mg_of X G D6.nm
 have m7:=PySem.W.mg_of X G D7.nm
 have m8:=PySem.W.mg_of X G D8.nm
 have m9:=PySem.W.mg_of X G D9.nm
 have m10:=PySem.W.mg_of X G D10.nm
 have m11:=PySem.W.mg_of X G D11.nm
 have m12:=PySem.W.mg_of X G D12.nm
 have m13:=PySem.W.mg_of X G D13.nm
 have m14:=PySem.W.mg_of X G D14.nm
 have m15:=PySem.W.mg_of X G D15.nm
 have m16:=PySem.W.mg_of X G D16.nm
 have m17:=PySem.W.mg_of X G D17.nm
 have m18:=PySem.W.mg_of X G D18.nm
 have m19:=PySem.W.mg_of X G D19.nm
 have m20:=PySem.W.mg_of X G D20.nm
 have m21:=PySem.W.mg_of X G D21.nm
 have m22:=PySem.W.mg_of X G D22.nm
 have m23:=PySem.W.mg_of X G D23.nm
 have m24:=PySem.W.mg_of X G D24.nm
 have m25:=PySem.W.mg_of X G D25.nm
 have m26:=PySem.W.mg_of X G D26.nm
 have y1:=PySem.W.mg_none_of X G z1
 have y2:=PySem.W.mg_none_of X G z2
 have y3:=PySem.W.mg_none_of X G z3
 have y4:=PySem.W.mg_none_of X G z4
 have y5:=PySem.W.mg_none_of X G z5
 have y6:=PySem.W.mg_none_of X G z6
 have y7:=PySem.W.mg_none_of X G z7
 have y8:=PySem.W.mg_none_of X G z8
 have y9:=PySem.W.mg_none_of X G z9
 have y10:=PySem.W.mg_none_of X G z10
 have y11:=PySem.W.mg_none_of X G z11
 have y12:=PySem.W.mg_none_of X G z12
 have mc_FIGURES:=PySem.W.mg_of X G qc_FIGURES
 have mc_MOST_FIGURES:=PySem.W.mg_of X G qc_MOST_FIGURES
 have tn_often:=DL.tab_no tz_often
 have tn_cut_by:=DL.tab_no tz_cut_by
 have n1:=PySem.W.mg_of X G q1
 have n2:=PySem.W.mg_of X G q2
 have n3:=PySem.W.mg_of X G q3
 have n4:=PySem.W.mg_of X G q4
 have n5:=PySem.W.mg_of X G q5
 have n6:=PySem.W.mg_of X G q6
 have n7:=PySem.W.mg_of X G q7
 have n8:=PySem.W.mg_of X G q8
 have n9:=PySem.W.mg_of X G q9
 have n10:=PySem.W.mg_of X G q10
 refine ⟨sH tn_often tn_cut_by,PySem.W.fnOf "law" "law" (Ny cY) (Hy cY) (Bj cY) .none kV dc pm an cd ct,λs v=>.of_eq rfl,λbase _ _=>?_⟩
 have g1:=uQ (P:=l.prog) (w:=w) (mg:=mg) (base:=base) D1.fn
 have g2:=zR (P:=l.prog) (w:=w) (mg:=mg) (base:=base) D2.fn
 have g3:=mB (P:=l.prog) (w:=w) (mg:=mg) (base:=base) D3.fn y1 y2 y3
 have g4:=nW (P:=l.prog) (w:=w) (mg:=mg) (base:=base) D4.fn g3 b3 D3.fn.kp m3 y4 y2
 have g5:=cZ (P:=l.prog) (w:=w) (mg:=mg) (base:=base) D5.fn y5 y2 n2 xC
 have g6:=aE (P:=l.prog) (w:=w) (mg:=mg) (base:=base) D6.fn g5 b5 D5.fn.kp m5 y6 y7 y3 n2 xC mc_FIGURES mc_MOST_FIGURES
 have g7:=gY (P:=l.prog) (w:=w) (mg:=mg) (base:=base) D7.fn g4 b4 D4.fn.kp m4 g5 b5 D5.fn.kp m5 g6 b6 D6.fn.kp m6 y4 n2 xC
 have g8:=kD (P:=l.prog) (w:=w) (mg:=mg) (base:=base) D8.fn g5 b5 D5.fn.kp m5
 have g9:=iO (P:=l.prog) (w:=w) (mg:=mg) (base:=base) D9.fn g7 b7 D7.fn.kp m7 g8 b8 D8.fn.kp m8
 have g10:=gT (P:=l.prog) (w:=w) (mg:=mg) (base:=base) D10.fn g7 b7 D7.fn.kp m7 n2 xC
 have g11:=kB (P:=l.prog) (w:=w) (mg:=mg) (base:=base) D11.fn g8 b8 D8.fn.kp m8 g10 b10 D10.fn.kp m10
 have g12:=iE (P:=l.prog) (w:=w) (mg:=mg) (base:=base) D12.fn g9 b9 D9.fn.kp m9 y7 y8 n2 xC
 have g13:=fU (P:=l.prog) (w:=w) (mg:=mg) (base:=base) D13.fn g2 b2 D2.fn.kp m2 y9 y4
 have g14:=jU (P:=l.prog) (w:=w) (mg:=mg) (base:=base) D14.fn g2 b2 D2.fn.kp m2 g13 b13 D13.fn.kp m13 y9
 have g15:=gC (P:=l.prog) (w:=w) (mg:=mg) (base:=base) D15.fn g2 b2 D2.fn.kp m2 g13 b13 D13.fn.kp m13 y9 y7
 have g16:=iH (P:=l.prog) (w:=w) (mg:=mg) (base:=base) D16.fn g2 b2 D2.fn.kp m2 g13 b13 D13.fn.kp m13 y9 y7 y10 y8 y4
 have g17:=Wk (P:=l.prog) (w:=w) (mg:=mg) (base:=base) D17.fn y5
 have g18:=Vl (P:=l.prog) (w:=w) (mg:=mg) (base:=base) D18.fn g17 b17 D17.fn.kp m17
 have g19:=Xm (P:=l.prog) (w:=w) (mg:=mg) (base:=base) D19.fn g17 b17 D17.fn.kp m17
 have g20:=bC (P:=l.prog) (w:=w) (mg:=mg) (base:=base) D20.fn y7
 have g21:=Vm (P:=l.prog) (w:=w) (mg:=mg) (base:=base) D21.fn g20 b20 D20.fn.kp m20 y4
 have g22:=jD (P:=l.prog) (w:=w) (mg:=mg) (base:=base) D22.fn g21 b21 D21.fn.kp m21 y5 y2 y3
 have g23:=dE (P:=l.prog) (w:=w) (mg:=mg) (base:=base) D23.fn g7 b7 D7.fn.kp m7 g9 b9 D9.fn.kp m9 g11 b11 D11.fn.kp m11 g12 b12 D12.fn.kp m12
 have g24:=fX (P:=l.prog) (w:=w) (mg:=mg) (base:=base) D24.fn g23 b23 D23.fn.kp m23 y2 y11 n2 n1 xE n3 n4 n5 n6 n7 n8 n9 n10 TX
 have g25:=jC (P:=l.prog) (w:=w) (mg:=mg) (base:=base) D25.fn g2 b2 D2.fn.kp m2 y9 y7 y3
 have g26:=kJ (P:=l.prog) (w:=w) (mg:=mg) (base:=base) D26.fn y5
 exact U0 FL g1 b1 D1.fn.kp m1 g2 b2 D2.fn.kp m2 g13 b13 D13.fn.kp m13 g14 b14 D14.fn.kp m14 g15 b15 D15.fn.kp m15 g16 b16 D16.fn.kp m16 g17 b17 D17.fn.kp m17 g18 b18 D18.fn.kp m18 g19 b19 D19.fn.kp m19 g22 b22 D22.fn.kp m22 g24 b24 D24.fn.kp m24 g25 b25 D25.fn.kp m25 g26 b26 D26.fn.kp m26 y3 y7 y9 y12 y2
theorem walk{l:PySem.W.OpenLaw}{q:Bh}{loose:List Str}{XP:(Str->Option Value)->Heap->Prop}{YP:World->Heap->Prop}{d:DefRec}{K:Params->PySem.W.Frag}(hn:l.most=some 63)(hdf:d.params.defaults=[])(hY:∀(w:World) (h:Heap),YP w h->(K w.params).In h)(F:∀(w:World) (mg:Str->Option Value) (fa:Addr) (h:Heap),(K w.params).In h->h.Ns Bv mg->mg d.name=some (.ref fa)->gM q (K w.params)/\∃fd:Bz,(∀(s:Ah) (u:Value),BindsTo s fd ⟨[u],[]⟩ [("_law_script",u)])/\∀base:Heap,(K w.params).In base->base.Ns Bv mg->FnOk l.prog w (K w.params) mg base Ik 8 fa fd ["_law_script"] (DL.spLawD (K w.params))):PySem.W.WalkO q loose XP YP l.row.toRowW d [] (λf vs=>PySem.call f vs) :=
 L2.walk_ofD (n:=63) (k:=8) (x := "_law_script") (CX:=λ_=>Ik) (sp:=λw=>DL.spLawD (K w.params)) hn (by decide) hdf ⟨rfl,by decide,by decide,rfl⟩ hY F (λ_ _ a ns hl _ hS=>⟨a,ns,rfl,hS,hl,λ_=>rfl⟩) λ_ _ _ _ _ z=>z
end K82
open PySem PySem.W PyProof.Rows
set_option maxRecDepth 100000 in
set_option maxHeartbeats 0 in
theorem PySem.Challenge.cw_needledeck_k82_texts_that_tell_nothing_holds : PySem.Challenge.rw_needledeck_k82_texts_that_tell_nothing.Holds := by
 w_on; refine topK ?_
 k_fill
 refine K82.walk (l:=PySem.Challenge.rw_needledeck_k82_texts_that_tell_nothing) rfl rfl (λw h Y=>PySem.W.kIn_of Y) ?F
 case F =>
  intro w mg fa h KX G hmg
  refine' K82.all_mk KX G hmg (K82.def_mk ?a1 ?l1 ?c1 ?k1) (K82.def_mk ?a2 ?l2 ?c2 ?k2) (K82.def_mk ?a3 ?l3 ?c3 ?k3) (K82.def_mk ?a4 ?l4 ?c4 ?k4) (K82.def_mk ?a5 ?l5 ?c5 ?k5) (K82.def_mk ?a6 ?l6 ?c6 ?k6) (K82.def_mk ?a7 ?l7 ?c7 ?k7) (K82.def_mk ?a8 ?l8 ?c8 ?k8) (K82.def_mk ?a9 ?l9 ?c9 ?k9) (K82.def_mk ?a10 ?l10 ?c10 ?k10) (K82.def_mk ?a11 ?l11 ?c11 ?k11) (K82.def_mk ?a12 ?l12 ?c12 ?k12) (K82.def_mk ?a13 ?l13 ?c13 ?k13) (K82.def_mk ?a14 ?l14 ?c14 ?k14) (K82.def_mk ?a15 ?l15 ?c15 ?k15) (K82.def_mk ?a16 ?l16 ?c16 ?k16) (K82.def_mk ?a17 ?l17 ?c17 ?k17) (K82.def_mk ?a18 ?l18 ?c18 ?k18) (K82.def_mk ?a19 ?l19 ?c19 ?k19) (K82.def_mk ?a20 ?l20 ?c20 ?k20) (K82.def_mk ?a21 ?l21 ?c21 ?k21) (K82.def_mk ?a22 ?l22 ?c22 ?k22) (K82.def_mk ?a23 ?l23 ?c23 ?k23) (K82.def_mk ?a24 ?l24 ?c24 ?k24) (K82.def_mk ?a25 ?l25 ?c25 ?k25) (K82.def_mk ?a26 ?l26 ?c26 ?k26) ?aL ?lL ?cL ?kL ?z1 ?z2 ?z3 ?z4 ?z5 ?z6 ?z7 ?z8 ?z9 ?z10 ?z11 ?z12 ?q1 ?q2 ?q3 ?q4 ?q5 ?q6 ?q7 ?q8 ?q9 ?q10 ?xE ?xC ⟨⟨K82.cls_ok ?e1,?e2,?e3,?e4,?e5,?e6⟩,Nd.kit_ty (by decide +kernel) ?xv,K82.oths ⟨K82.cls_ok ?oc1,?ot1,?os1,?on1⟩ ⟨K82.cls_ok ?oc2,?ot2,?os2,?on2⟩ ⟨K82.cls_ok ?oc3,?ot3,?os3,?on3⟩ ⟨K82.cls_ok ?oc4,?ot4,?os4,?on4⟩ ⟨K82.cls_ok ?oc5,?ot5,?os5,?on5⟩ ⟨K82.cls_ok ?oc6,?ot6,?os6,?on6⟩ ⟨K82.cls_ok ?oc7,?ot7,?os7,?on7⟩ ⟨K82.cls_ok ?oc8,?ot8,?os8,?on8⟩,Nd.kit_self,?xb⟩ ?tz_often ?tz_cut_by ?qc_FIGURES ?qc_MOST_FIGURES
  (case a1=>k_is); (case l1=>k_is); (case c1=>k_is); (case k1=>k_is)
  (case a2=>k_is); (case l2=>k_is); (case c2=>k_is); (case k2=>k_is)
  (case a3=>k_is); (case l3=>k_is); (case c3=>k_is); (case k3=>k_is)
  (case a4=>k_is); (case l4=>k_is); (case c4=>k_is); (case k4=>k_is)
  (case a5=>k_is); (case l5=>k_is); (case c5=>k_is); (case k5=>k_is)
  (case a6=>k_is); (case l6=>k_is); (case c6=>k_is); (case k6=>k_is)
  (case a7=>k_is); (case l7=>k_is); (case c7=>k_is); (case k7=>k_is)
  (case a8=>k_is); (case l8=>k_is); (case c8=>k_is); (case k8=>k_is)
  (case a9=>k_is); (case l9=>k_is); (case c9=>k_is); (case k9=>k_is)
  (case a10=>k_is); (case l10=>k_is); (case c10=>k_is); (case k10=>k_is)
  (case a11=>k_is); (case l11=>k_is); (case c11=>k_is); (case k11=>k_is)
  (case a12=>k_is); (case l12=>k_is); (case c12=>k_is); (case k12=>k_is)
  (case a13=>k_is); (case l13=>k_is); (case c13=>k_is); (case k13=>k_is)
  (case a14=>k_is); (case l14=>k_is); (case c14=>k_is); (case k14=>k_is)
  (case a15=>k_is); (case l15=>k_is); (case c15=>k_is); (case k15=>k_is)
  (case a16=>k_is); (case l16=>k_is); (case c16=>k_is); (case k16=>k_is)
  (case a17=>k_is); (case l17=>k_is); (case c17=>k_is); (case k17=>k_is)
  (case a18=>k_is); (case l18=>k_is); (case c18=>k_is); (case k18=>k_is)
  (case a19=>k_is); (case l19=>k_is); (case c19=>k_is); (case k19=>k_is)
  (case a20=>k_is); (case l20=>k_is); (case c20=>k_is); (case k20=>k_is)
  (case a21=>k_is); (case l21=>k_is); (case c21=>k_is); (case k21=>k_is)
  (case a22=>k_is); (case l22=>k_is); (case c22=>k_is); (case k22=>k_is)
  (case a23=>k_is); (case l23=>k_is); (case c23=>k_is); (case k23=>k_is)
  (case a24=>k_is); (case l24=>k_is); (case c24=>k_is); (case k24=>k_is)
  (case a25=>k_is); (case l25=>k_is); (case c25=>k_is); (case k25=>k_is)
  (case a26=>k_is); (case l26=>k_is); (case c26=>k_is); (case k26=>k_is)
  (case aL=>k_is); (case lL=>k_is); (case cL=>k_is); (case kL=>k_is)
  (case z1=>k_is); (case z2=>k_is); (case z3=>k_is); (case z4=>k_is); (case z5=>k_is); (case z6=>k_is); (case z7=>k_is); (case z8=>k_is); (case z9=>k_is); (case z10=>k_is); (case z11=>k_is); (case z12=>k_is)
  (case q1=>k_is); (case q2=>k_is); (case q3=>k_is); (case q4=>k_is); (case q5=>k_is); (case q6=>k_is); (case q7=>k_is); (case q8=>k_is); (case q9=>k_is); (case q10=>k_is)
  (case xE=>k_exc); (case xC=>k_exc)
  (case e1=>k_is); (case e2=>k_is); (case e3=>k_is); (case e4=>k_is); (case e5=>k_is); (case e6=>k_is); (case xv=>k_is); (case xb=>k_is)
  (case oc1=>k_is); (case ot1=>k_is); (case os1=>k_is); (case on1=>decide)
  (case oc2=>k_is); (case ot2=>k_is); (case os2=>k_is); (case on2=>decide)
  (case oc3=>k_is); (case ot3=>k_is); (case os3=>k_is); (case on3=>decide)
  (case oc4=>k_is); (case ot4=>k_is); (case os4=>k_is); (case on4=>decide)
  (case oc5=>k_is); (case ot5=>k_is); (case os5=>k_is); (case on5=>decide)
  (case oc6=>k_is); (case ot6=>k_is); (case os6=>k_is); (case on6=>decide)
  (case oc7=>k_is); (case ot7=>k_is); (case os7=>k_is); (case on7=>decide)
  (case oc8=>k_is); (case ot8=>k_is); (case os8=>k_is); (case on8=>decide)
  (case tz_often=>k_is)
  (case tz_cut_by=>k_is)
  (case qc_FIGURES=>k_is)
  (case qc_MOST_FIGURES=>k_is)