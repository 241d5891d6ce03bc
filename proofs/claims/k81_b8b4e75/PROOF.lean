import PyProof.Rows.All
import KE.KLam
import Wide.All
import OpenK.AllK
import Wide.FinOn
import Lean
import PyProof.EqAt
import PyProof.EqKinds
import PyProof.TupleCall
import PyProof.FactsAll.set
import PyProof.FactsAll.subtypes
import KE.KTupSum
import KE.KMinBuiltin
import PyProof.Draws
import PyProof.DictWalks
import PyProof.DictCompW
import PyProof.IsiH_tuple
import PyProof.FactsAll.zip
import KE.KDictOf
import PyProof.DictValues
import KE.KSortKey
import PyProof.WalkInts
import PyProof.TupleKey
import PyProof.SetRoads
import PyProof.IsRules
import PyProof.StrCalls5
import PyProof.MeetsStr3
import KE.KIntText
import PyProof.StrWalks
import PySem.Challenge.RW_needledeck_k81_shown_and_read
set_option Elab.async false
set_option linter.all false
set_option maxRecDepth 100000
set_option maxHeartbeats 4000000
set_option genSizeOf false
local macro_rules|`(tactic|omega)=>`(tactic|first|lia|omega +splitDisjunctions)
theorem e0a2{A B:Prop}{G:Prop}(k:A→B→G)(h:A∧B):G:=k h.1 h.2
theorem e0a3{A B C:Prop}{G:Prop}(k:A→B→C→G)(h:A∧B∧C):G:=k h.1 h.2.1 h.2.2
theorem e0a4{A B C D:Prop}{G:Prop}(k:A→B→C→D→G)(h:A∧B∧C∧D):G:=k h.1 h.2.1 h.2.2.1 h.2.2.2
theorem e0a5{A B C D E:Prop}{G:Prop}(k:A→B→C→D→E→G)(h:A∧B∧C∧D∧E):G:=k h.1 h.2.1 h.2.2.1 h.2.2.2.1 h.2.2.2.2
theorem e0a6{A B C D E F:Prop}{G:Prop}(k:A→B→C→D→E→F→G)(h:A∧B∧C∧D∧E∧F):G:=k h.1 h.2.1 h.2.2.1 h.2.2.2.1 h.2.2.2.2.1 h.2.2.2.2.2
theorem e1a1{t0:Type}{A:t0→Prop}{G:Prop}(k:∀x,A x→G)(h:∃x,A x):G:=h.elim λx h=>k x h
theorem e1a2{t0:Type}{A B:t0→Prop}{G:Prop}(k:∀x,A x→B x→G)(h:∃x,A x∧B x):G:=h.elim λx h=>k x h.1 h.2
theorem e1a3{t0:Type}{A B C:t0→Prop}{G:Prop}(k:∀x,A x→B x→C x→G)(h:∃x,A x∧B x∧C x):G:=h.elim λx h=>k x h.1 h.2.1 h.2.2
theorem e1a4{t0:Type}{A B C D:t0→Prop}{G:Prop}(k:∀x,A x→B x→C x→D x→G)(h:∃x,A x∧B x∧C x∧D x):G:=h.elim λx h=>k x h.1 h.2.1 h.2.2.1 h.2.2.2
theorem e2a1{t0 t1:Type}{A:t0→t1→Prop}{G:Prop}(k:∀x y,A x y→G)(h:∃x y,A x y):G:=h.elim λx h=>h.elim λy h=>k x y h
theorem e2a2{t0 t1:Type}{A B:t0→t1→Prop}{G:Prop}(k:∀x y,A x y→B x y→G)(h:∃x y,A x y∧B x y):G:=h.elim λx h=>h.elim λy h=>k x y h.1 h.2
theorem e2a3{t0 t1:Type}{A B C:t0→t1→Prop}{G:Prop}(k:∀x y,A x y→B x y→C x y→G)(h:∃x y,A x y∧B x y∧C x y):G:=h.elim λx h=>h.elim λy h=>k x y h.1 h.2.1 h.2.2
theorem e2a4{t0 t1:Type}{A B C D:t0→t1→Prop}{G:Prop}(k:∀x y,A x y→B x y→C x y→D x y→G)(h:∃x y,A x y∧B x y∧C x y∧D x y):G:=h.elim λx h=>h.elim λy h=>k x y h.1 h.2.1 h.2.2.1 h.2.2.2
theorem e3a1{t0 t1 t2:Type}{A:t0→t1→t2→Prop}{G:Prop}(k:∀x y z,A x y z→G)(h:∃x y z,A x y z):G:=h.elim λx h=>h.elim λy h=>h.elim λz h=>k x y z h
theorem e3a3{t0 t1 t2:Type}{A B C:t0→t1→t2→Prop}{G:Prop}(k:∀x y z,A x y z→B x y z→C x y z→G)(h:∃x y z,A x y z∧B x y z∧C x y z):G:=h.elim λx h=>h.elim λy h=>h.elim λz h=>k x y z h.1 h.2.1 h.2.2
theorem e3a4{t0 t1 t2:Type}{A B C D:t0→t1→t2→Prop}{G:Prop}(k:∀x y z,A x y z→B x y z→C x y z→D x y z→G)(h:∃x y z,A x y z∧B x y z∧C x y z∧D x y z):G:=h.elim λx h=>h.elim λy h=>h.elim λz h=>k x y z h.1 h.2.1 h.2.2.1 h.2.2.2
theorem e3a5{t0 t1 t2:Type}{A B C D E:t0→t1→t2→Prop}{G:Prop}(k:∀x y z,A x y z→B x y z→C x y z→D x y z→E x y z→G)(h:∃x y z,A x y z∧B x y z∧C x y z∧D x y z∧E x y z):G:=h.elim λx h=>h.elim λy h=>h.elim λz h=>k x y z h.1 h.2.1 h.2.2.1 h.2.2.2.1 h.2.2.2.2
theorem e4a1{t0 t1 t2 t3:Type}{A:t0→t1→t2→t3→Prop}{G:Prop}(k:∀x y z w,A x y z w→G)(h:∃x y z w,A x y z w):G:=h.elim λx h=>h.elim λy h=>h.elim λz h=>h.elim λw h=>k x y z w h
theorem e4a2{t0 t1 t2 t3:Type}{A B:t0→t1→t2→t3→Prop}{G:Prop}(k:∀x y z w,A x y z w→B x y z w→G)(h:∃x y z w,A x y z w∧B x y z w):G:=h.elim λx h=>h.elim λy h=>h.elim λz h=>h.elim λw h=>k x y z w h.1 h.2
theorem e5a2{t0 t1 t2 t3 t4:Type}{A B:t0→t1→t2→t3→t4→Prop}{G:Prop}(k:∀x y z w u,A x y z w u→B x y z w u→G)(h:∃x y z w u,A x y z w u∧B x y z w u):G:=h.elim λx h=>h.elim λy h=>h.elim λz h=>h.elim λw h=>h.elim λu h=>k x y z w u h.1 h.2
theorem e4a5{t0 t1 t2 t3:Type}{A B C D E:t0→t1→t2→t3→Prop}{G:Prop}(k:∀x y z w,A x y z w→B x y z w→C x y z w→D x y z w→E x y z w→G)(h:∃x y z w,A x y z w∧B x y z w∧C x y z w∧D x y z w∧E x y z w):G:=h.elim λx h=>h.elim λy h=>h.elim λz h=>h.elim λw h=>k x y z w h.1 h.2.1 h.2.2.1 h.2.2.2.1 h.2.2.2.2
theorem e5a5{t0 t1 t2 t3 t4:Type}{A B C D E:t0→t1→t2→t3→t4→Prop}{G:Prop}(k:∀x y z w u,A x y z w u→B x y z w u→C x y z w u→D x y z w u→E x y z w u→G)(h:∃x y z w u,A x y z w u∧B x y z w u∧C x y z w u∧D x y z w u∧E x y z w u):G:=h.elim λx h=>h.elim λy h=>h.elim λz h=>h.elim λw h=>h.elim λu h=>k x y z w u h.1 h.2.1 h.2.2.1 h.2.2.2.1 h.2.2.2.2
theorem e6a5{t0 t1 t2 t3 t4 t5:Type}{A B C D E:t0→t1→t2→t3→t4→t5→Prop}{G:Prop}(k:∀x y z w u v,A x y z w u v→B x y z w u v→C x y z w u v→D x y z w u v→E x y z w u v→G)(h:∃x y z w u v,A x y z w u v∧B x y z w u v∧C x y z w u v∧D x y z w u v∧E x y z w u v):G:=h.elim λx h=>h.elim λy h=>h.elim λz h=>h.elim λw h=>h.elim λu h=>h.elim λv h=>k x y z w u v h.1 h.2.1 h.2.2.1 h.2.2.2.1 h.2.2.2.2
theorem e4a7{t0 t1 t2 t3:Type}{A B C D E F H:t0→t1→t2→t3→Prop}{G:Prop}(k:∀x y z w,A x y z w→B x y z w→C x y z w→D x y z w→E x y z w→F x y z w→H x y z w→G)(h:∃x y z w,A x y z w∧B x y z w∧C x y z w∧D x y z w∧E x y z w∧F x y z w∧H x y z w):G:=h.elim λx h=>h.elim λy h=>h.elim λz h=>h.elim λw h=>k x y z w h.1 h.2.1 h.2.2.1 h.2.2.2.1 h.2.2.2.2.1 h.2.2.2.2.2.1 h.2.2.2.2.2.2
theorem e5a7{t0 t1 t2 t3 t4:Type}{A B C D E F H:t0→t1→t2→t3→t4→Prop}{G:Prop}(k:∀x y z w u,A x y z w u→B x y z w u→C x y z w u→D x y z w u→E x y z w u→F x y z w u→H x y z w u→G)(h:∃x y z w u,A x y z w u∧B x y z w u∧C x y z w u∧D x y z w u∧E x y z w u∧F x y z w u∧H x y z w u):G:=h.elim λx h=>h.elim λy h=>h.elim λz h=>h.elim λw h=>h.elim λu h=>k x y z w u h.1 h.2.1 h.2.2.1 h.2.2.2.1 h.2.2.2.2.1 h.2.2.2.2.2.1 h.2.2.2.2.2.2
theorem e6a7{t0 t1 t2 t3 t4 t5:Type}{A B C D E F H:t0→t1→t2→t3→t4→t5→Prop}{G:Prop}(k:∀x y z w u v,A x y z w u v→B x y z w u v→C x y z w u v→D x y z w u v→E x y z w u v→F x y z w u v→H x y z w u v→G)(h:∃x y z w u v,A x y z w u v∧B x y z w u v∧C x y z w u v∧D x y z w u v∧E x y z w u v∧F x y z w u v∧H x y z w u v):G:=h.elim λx h=>h.elim λy h=>h.elim λz h=>h.elim λw h=>h.elim λu h=>h.elim λv h=>k x y z w u v h.1 h.2.1 h.2.2.1 h.2.2.2.1 h.2.2.2.2.1 h.2.2.2.2.2.1 h.2.2.2.2.2.2
local macro_rules|`(tactic|obtain $p:rcasesPatMed:=$v:term)=>do
 let c s:=((p.raw.reprint.getD "").splitOn s).length
 if c ","<3||c "|">1||c ":">1 then Lean.Macro.throwUnsupported
 let T (a:Lean.Syntax):Lean.TSyntax `Lean.Parser.Tactic.rcasesPatMed:=⟨a⟩
 let q:=p.raw
 let x:=q[0][0]
 let l:=x[1].getSepArgs
 let mut a:Array (Lean.TSyntax ``Lean.Parser.Tactic.tacticSeq):=#[]
 let mut y:Array Lean.Term:=#[]
 let mut z:Array (Array (Lean.TSyntax `tactic)):=#[]
 for o in l do
  let u:=o[0][0][0]
  let f:=Lean.mkIdent (←Lean.Macro.addMacroScope (.mkSimple s!"f{y.size}"))
  if u[0].getId==`rfl then
   y:=y.push f
   z:=z.push #[←`(tactic|subst $f:term)]
  else if u[0].isIdent then
   y:=y.push ⟨u[0]⟩
   z:=z.push #[]
  else if u[1].isMissing then
   y:=y.push (←`(_))
   z:=z.push #[]
  else
   y:=y.push f
   z:=z.push #[←`(tactic|obtain $(T o[0]):rcasesPatMed:=$f)]
 for j in [0:l.size] do
  if j==1 then continue
  let n:=l.size-j
  let mut i:=y.extract 0 n
  let mut w:=(z.extract 0 n).flatten
  if j>0 then
   i:=i.push (←`(r_))
   w:=w.push (←`(tactic|obtain $(T (q.setArg 0 (q[0].setArg 0 (x.setArg 1 (Lean.mkNullNode (Lean.mkSepArray (l.extract n l.size) (Lean.mkAtom ","))))))):rcasesPatMed:=r_))
  for k in [0:i.size] do
   let m:=Lean.mkIdent (.mkSimple s!"e{k}a{i.size-k}")
   let g←if v.raw.isIdent then `(tactic|(revert $(⟨v⟩):ident;refine $m fun $i*=>?_)) else `(tactic|refine $m (fun $i*=>?_) $v)
   a:=a.push (←`(Lean.Parser.Tactic.tacticSeq| $g:tactic;$[$w];*))
  if j==0&& !v.raw.isIdent then
   a:=a.push (←`(Lean.Parser.Tactic.tacticSeq| have h_ := $v; obtain $p := h_))
   break
 a:=a.push (←`(Lean.Parser.Tactic.tacticSeq| rcases $v:term with $p))
 `(tactic|first $[| $a]*)
open Array renaming length_toList → Af, getElem?_eq_getElem → Co, getD_eq_getD_getElem? → Cu, getElem?_toList → Ep, toList_push → Hn, replicate → Lq, getElem?_eq_none → Ov, getElem?_setIfInBounds → Za, size_setIfInBounds → dZ, toList_filterMap → iJ
open Bool renaming false_eq_true → Ct, and_eq_true → Eg, false_ne_true → Jj, not_true → Lf, and_false → Na, eq_false_iff → Vs, not_eq_true → Yv
open Classical renaming byContradiction → Ft
open False renaming elim → Hw
open ForInStep renaming yield → Ol
open Function renaming comp → Rj
open Int renaming toNat_natCast → Oj
open LawfulBEq renaming eq_of_beq → Rf
open List renaming mem_cons_self → Aa, mem_cons_of_mem → Ab, length_map → Ae, mem_cons → Ai, mem_singleton → Am, mem_append_left → An, size_toArray → Ao, mem_append_right → Ap, getElem?_eq_some_iff → Aq, map_cons → Au, pairwise_cons → Ax, mem_of_getElem? → Be, mem_append → Bg, mem_map → Bh, length_append → Bj, length_cons → Bq, range → Br, nodup_cons → Bt, not_mem_nil → Bw, lookup_cons → Bx, getElem?_eq_getElem → Cd, getElem?_map → Cf, map_append → Cm, sublist_append_right → Da, sublist_cons_self → Dd, length_range → De, nodup_nil → Do, map_map → Ds, append_assoc → Ea, mem_range → El, map_set → Em, length_singleton → Er, cons_append → Ew, nodup_append → Fg, append_nil → Fi, pairwise_iff_getElem → Ga, getElem?_append_left → Gb, filterMap_cons → Gp, replicate → Gu, mem_filterMap → Ha, length_set → Hi, take_sublist → Hq, getElem?_set → Hr, getElem?_append_right → Hx, exists_cons_of_ne_nil → Hy, take_length → Ie, length_take → Ig, length_erase_of_mem → Ja, mem_replicate → Ji, pairwise_singleton → Jk, lookup → Jl, take_succ_eq_append_getElem → Jy, length_pos_of_mem → Jz, getElem?_set_self → Ka, flatMap_cons → Kb, ext_getElem? → Kc, perm_middle → Kv, mem_flatMap → Kw, pairwise_append → Li, mem_erase_of_ne → Lj, length → Lk, foldl_cons → Mb, filter_append → Mz, mem_take_iff_getElem → Nt, mem_of_find?_eq_some → Nu, length_eq_zero_iff → Oq, getElem_mem → Os, take_of_length_le → Px, find?_some → Qz, eraseIdx_sublist → Rc, getElem?_set_ne → Rz, drop_zero → Sa, map_congr_left → Tj, filter_eq_self → Tn, sum_cons → Tp, any_cons → Tq, drop_eq_getElem_cons → dY, set_eq_of_length_le → iF, getElem?_take_of_lt → iH, append_cancel_left → iI, append_eq_nil_iff → kB, perm_append_comm → mQ, find?_eq_none → uE
open List.Pairwise renaming nil → Dw
open List.Perm renaming swap → Ge, refl → Lp, cons → Ou
open List.Sublist renaming refl → Dn
open List.cons renaming inj → Kd
open Nat renaming le_refl → Ah, le_trans → Bm, lt_of_lt_of_le → Bp, ne_of_lt → Cp, zero_le → Dx, not_lt_zero → Dy, mod_eq_of_lt → Fs, lt_irrefl → Gj, mod_lt → Hh, succ_pos → Ip, le_of_lt → Iq, lt_trichotomy → Kh, lt_succ_of_lt → Ki, lt_succ_iff → Me, zero_add → Mv, lt_trans → Mw, add_mod → Oi, pow_le_pow_right → Se, add_right_comm → Vn, lt_succ_self → Yy
open Ne renaming symm → Lo
open Option renaming isSome_iff_exists → Nr
open Option.some renaming inj → Ca
open Or renaming inl → Cz
open PyProof.Rows renaming slot_tuple_getitem → Dq, IntsAre → Jc, callWith_type1 → Kq, AllBare → Py, envOfC → Qx, subscriptTail_builtinR → uN
open PyProof.Rows.F renaming plain_set_update_loop → Cs, entry_set_update_loop → Eu
open PySem renaming wpAny_bind → Ac, PyData → Ad, Shared → Aj, wpAny_pure → Al, sizeLine → Aw, SetTable → Az, starEach → Bd, tupleKeyHash → Bi, intKind → Bs, Program → Bu, FuncData → Cb, mainGlobals → Ce, Around → Df, wpAny_newObj_type → Du, cellsFrom → Dz, wpAny_holding → Ef, IsTupleKey → Eo, codeAny_builtin → Et, behindInMarks → Ff, assignEach → Fq, backTo → Gc, wpAny_truthy_bool → Gm, foldedSetIterable → Gn, wpAny_call_entry → He, compareOp → Hf, sizeLine_eq → Hm, bootBuiltins → Ho, wpAny_mono → Iy, binaryOp → Iz, codeAny_mono → Jb, attributeBase → Jp, Keyword → Ke, wpAny_of_eq → Kn, wpAny_callSpecial?_slot → Ko, wpAny_storeSet_of → Kz, rawInt → La, ofAClassStatement → Lb, holding → Lc, codeAny → Ld, plainId_quiet → Mf, sliceBounds → Mr, keywordEach → Ms, NameKind → Mx, wpAny_passesOwn → Nb, wpAny_typeOf → Nv, swapsWith → Oh, wpAny_Call_Name_kw → Om, call_meets → On, hashByValue → Pu, strLen_append → Qv, setSearchFrom → Qw, setField → Re, pyNext → Sb, builtinsNs → Sd, letOwnedTupleGo → Tf, codeAny_of_tree → Tg, newFunctionEnv → Vj, backToKw → Vk, IsPart → Vo, callerA → Vr, setEntries → Yx, wpAny_setState_of → aT, wpAny_pyIter_list → aU, setAddHashed → aV, wpAny_forIn_list → dU, wpAny_askSetting → dW, noFill_tuple_add → dX, wpAny_comprehension_free → pG, wpAny_pyNext_tuple_item → uD, wpAny_pyNext_tuple_end → uL, wpAny_pyNext_list_item → uM, codeAny_compStart_list → uO, slot_list_getitem → O2
open PySem.Around renaming under_plainId → Ee
open PySem.Builtin.Frozenset renaming updateFrom → Ra
open PySem.Builtin.List renaming listTooLong → Mc, listLengthHint → Tw
open PySem.Builtin.Range renaming rangeSize → Hz
open PySem.Builtin.Slice renaming slicePlaces → Hj, sliceAdjust → Le, sliceApplied → Tv
open PySem.Builtin.Str renaming occurrences → Bf, glued → Bk, strSub → Cn, partsBetween → Dl, strKind → Kr
open PySem.Builtin.Str.partsBetween renaming eq_1 → Nc
open PySem.Builtin.Tuple renaming tupleExact → En, tupleItemsOf → Tr, tupleIsExact → Tt
open PySem.Calls renaming Name_function_global → aX
open PySem.F renaming args_str_split_2 → Wh, entry_str_split → Yz, slot_str_split → aW
open PySem.Heap renaming get?_push_of_some → Ag, get?_push_size → Ay, lt_size → Bc, SameBut → Gd, get?_update_self → Ks, get?_update_other → kC
open PySem.Heap.SameBut renaming update → Cw
open PySem.NameKind renaming cell → Dj, free → Dm
open PySem.Obj renaming putSet → Vl, mapSeq → Vm
open PySem.PassesOwn renaming never → Ej
open PySem.PyData renaming depthAll → Bb, int → By, depth → Cg, list → Ed, str → Fe, showable → Gx, hasDict → Jm, shownAll → Lh, shown → Ma, showableAll → Ti, hasDictAll → Ux
open PySem.SeqAt renaming EqAt → Mu
open PySem.SetTable renaming below → Ba, insertAt → Bl, bits → Bn, runEnd → Cc, turns → Cq, Probe → Cv, sizeAbove → Dc, laid → Fj, advance → Gi, insertAt_perm → Gs, layClean → Hg, grown → Lz, toList_insertAt → My, slot → Rh, fill → Ri, has → Th
open PySem.SetTable.below renaming go → Pw
open PySem.SetTable.layClean renaming free → Cy
open PySem.SetTable.probe renaming go → Fo
open PySem.SetTable.sizeAbove renaming go → Ia
open PySem.Str renaming length → Ex, ofString → Kg, cps → Mt
open PySem.Value renaming ref → Cr, type → Eb, int → Oo, none → Ot, isInt → Rg
open Sum renaming inl → Qy
open True renaming intro → Uw
namespace L2
open PySem PySem.Spec PyProof.Rows
abbrev Wf:=Sum Int Str
def xQ:Wf->Value->Bool
 | .inl k,v=>Rg k v
 | .inr x,v=>Value.isStrOf x v
def T8(w:World):Wf->Int
 | .inl k=>hashInt k
 | .inr x=>hashStr w x
theorem Fv:∀{k:Wf} {v:Value},xQ k v=true->(∃i t,k=Qy i/\v=Oo i t)\/(∃x t,k=Sum.inr x/\v=Value.str x t)
 | .inl i,v,h=>by
  obtain ⟨t,e⟩:=Value.isInt_shape (k:=i) (v:=v) h
  exact .inl ⟨i,t,rfl,e⟩
 | .inr x,v,h=>by
  obtain ⟨t,e⟩:=Value.isStrOf_shape (x:=x) (v:=v) h
  exact .inr ⟨x,t,rfl,e⟩
theorem zH(a b:Int):decide ((Qy a:Wf)=Qy b)=(a == b):=by
 by_cases e:a=b
 ·subst e; simp
 ·have h:¬ (Qy a:Wf)=Qy b:=λq=>e (Sum.inl.inj q)
  rw[decide_eq_false h]
  exact (beq_eq_false_iff_ne.mpr e).symm
theorem n6(a b:Str):decide ((Sum.inr a:Wf)=Sum.inr b)=decide (a=b):=by
 by_cases e:a=b
 ·subst e; simp
 ·have h:¬ (Sum.inr a:Wf)=Sum.inr b:=λq=>e (Sum.inr.inj q)
  rw[decide_eq_false h,decide_eq_false e]
theorem j7(a:Int)(b:Str):decide ((Qy a:Wf)=Sum.inr b)=false:=decide_eq_false (λq=>nomatch q)
theorem zV(a:Str)(b:Int):decide ((Sum.inr a:Wf)=Qy b)=false:=decide_eq_false (λq=>nomatch q)
def bH(prog:Bu)(w:World):PySem.KeyKind prog w Wf where
 is:=xQ
 hash:=T8 w
 inj:=λv a b ha hb=>by
  rcases Fv ha with ⟨i,t,rfl,rfl⟩ | ⟨x,t,rfl,rfl⟩
  ·rcases Fv hb with ⟨j,u,rfl,e⟩ | ⟨y,u,rfl,e⟩
   ·injection e with e1 _; rw[e1]
   ·exact nomatch e
  ·rcases Fv hb with ⟨j,u,rfl,e⟩ | ⟨y,u,rfl,e⟩
   ·exact nomatch e
   ·injection e with e1 _; rw[e1]
 byValue:=λk v h=>by
  rcases Fv h with ⟨i,t,rfl,rfl⟩ | ⟨x,t,rfl,rfl⟩ <;> rfl
 pyHash:=λhv h=>by
  rcases Fv hv with ⟨i,t,rfl,rfl⟩ | ⟨x,t,rfl,rfl⟩
  ·exact wpAny_pyHash_int h
  ·exact wpAny_pyHash_str h
 eqBool:=λhu hv h=>by
  rcases Fv hu with ⟨i,t,rfl,rfl⟩ | ⟨x,t,rfl,rfl⟩
  ·rcases Fv hv with ⟨j,u,rfl,rfl⟩ | ⟨y,u,rfl,rfl⟩
   ·rw[zH] at h; exact wpAny_eqBool_int h
   ·rw[j7] at h; exact SeqAt.EqAt.int_str i t y u _ _ _ _ h
  ·rcases Fv hv with ⟨j,u,rfl,rfl⟩ | ⟨y,u,rfl,rfl⟩
   ·rw[zV] at h; exact SeqAt.EqAt.str_int x t j u _ _ _ _ h
   ·rw[n6] at h; exact wpAny_eqBool_str h
 «strs»:=λk x t v h=>by
  rcases Fv h with ⟨i,u,rfl,e⟩ | ⟨y,u,rfl,e⟩
  ·exact nomatch e
  ·injection e with e1 _
   subst e1
   cases v <;> rfl
inductive V where
 | non | bl (b:Bool) | int (i:Int) | str (x:Str) | byt (b:Array UInt8) | flt (b:UInt64) | ref (a:Addr) | ty (n:String)
 deriving DecidableEq
def RelV:V->Value->Prop
 | .non,u=>u=Ot
 | .bl b,u=>u=Value.bool b
 | .int i,u=>∃t,u=Oo i t
 | .str x,u=>∃t,u=Value.str x t
 | .byt b,u=>∃t,u=Value.bytes b t
 | .flt b,u=>∃t,u=Value.float b t
 | .ref a,u=>u=Cr a
 | .ty n,u=>u=Eb n
abbrev Ek:List V->List Value->Prop:=Paired RelV
theorem Ek.length{xs:List V}{us:List Value}(r:Ek xs us):xs.length=us.length:=Paired.length r
theorem Ek.get:∀{xs:List V} {us:List Value} {i:Nat} {x:V},Ek xs us->xs[i]? = some x->∃u,us[i]? = some u/\RelV x u
 | _,_,_,_,.nil,e=>by simp at e
 | _,_,0,_,.cons r _,e=>by simp at e; subst e; exact ⟨_,rfl,r⟩
 | _,_,i+1,x,.cons _ t,e=>by
  obtain ⟨u,h1,h2⟩:=Ek.get (i:=i) (x:=x) t (by simpa using e)
  exact ⟨u,by simpa using h1,h2⟩
theorem Ek.set{x:V}{u:Value}(r:RelV x u):∀{xs:List V} {us:List Value} (i:Nat),Ek xs us->Ek (xs.set i x) (us.set i u)
 | _,_,_,.nil=>.nil
 | _,_,0,.cons _ t=>.cons r t
 | _,_,i+1,.cons q t=>.cons q (Ek.set r i t)
theorem Ek.append:∀{xs ys:List V} {us ws:List Value},Ek xs us->Ek ys ws->Ek (xs++ys) (us++ws)
 | _,_,_,_,.nil,s=>s
 | _,_,_,_,.cons r t,s=>.cons r (Ek.append t s)
theorem Ek.take:∀{xs:List V} {us:List Value} (n:Nat),Ek xs us->Ek (xs.take n) (us.take n)
 | _,_,0,_=>.nil
 | _,_,_+1,.nil=>.nil
 | _,_,n+1,.cons r t=>.cons r (Ek.take n t)
theorem Ek.drop:∀{xs:List V} {us:List Value} (n:Nat),Ek xs us->Ek (xs.drop n) (us.drop n)
 | _,_,0,r=>r
 | _,_,_+1,.nil=>.nil
 | _,_,n+1,.cons _ t=>Ek.drop n t
def x3:Option V->Option Value->Prop
 | some v,some u=>RelV v u
 | none,none=>True
 | _,_=>False
def KV{κ:Type}:List (κ×V)->List (κ×Value)->Prop:=Paired λ(p:κ×V) (q:κ×Value)=>p.1=q.1/\RelV p.2 q.2
def kV:Wf->V
 | .inl i=>.int i
 | .inr x=>.str x
inductive HO where
 /-- a list -/
 | lst (xs:List V)
 /-- a tuple (never changes) -/
 | tup (xs:List V)
 /-- a dict whose Lg are ints and texts; one whose Lg are tuples of ints and texts (the empty one is both) -/
 | dK (kvs:List (Wf×V)) | dT (kvs:List (List Wf×V))
 /-- a set of ints: its members,its size -/
 | set (S:Int->Bool) (n:Nat)
 /-- an instance of the class at C,its dict at dx,its attributes -/
 | ins (C dx:Addr) (fs:List (Str×V))
 /-- the dict of the instance at x -/
 | own (x:Addr)
 /-- the dict of an exception -/
 | xd (fs:List (Str×V))
 /-- a bound method,f of x -/
 | met (f x:Addr)
 /-- a range object lo,lo+1,.. below hi -/
 | rng (lo hi:Int)
 /-- a thing that is known to the object (the script; a dict while a loop walks it): read,never written while it is so -/
 | frz (o:Obj) (u:HO)
 /-- a code object's table -/
 | tbl (ps:Array Value)
 /-- any other thing,by what is true of its one object (a def of one's own: jV a S n:=HO.ext λh=>..) -/
 | ext (φ:Heap->Prop)
abbrev Hp:=Addr->Option HO
def upd(H:Hp)(a:Addr)(o:HO):Hp:=λb=>if b=a then some o else H b
theorem Dt{H:Hp}{a:Addr}{o:HO}:upd H a o a=some o:=by unfold upd; rw[if_pos rfl]
theorem Dr{H:Hp}{a b:Addr}{o:HO}(h:b≠a):upd H a o b=H b:=by unfold upd; rw[if_neg h]
theorem Ez{H:Hp}{a b:Addr}{o:HO}(h:H a=some o)(h':H b=none):a≠b:=by
 intro e; subst e; rw[h] at h'; cases h'
section
variable(P:Bu)(w:World)
def Hu(H:Hp)(h:Heap)(a:Addr):HO->Prop
 | .lst xs=>xs.length<=Aw/\∃(its:List Value) (n:Nat),Ek xs its/\h.get? a=some { cls:=.type "list",data:=.seq its.toArray n }
 | .tup xs=>xs.length<=Aw/\∃its:List Value,Ek xs its/\IsTup h a its.toArray
 | .dK kvs=>kvs.length<=Aw/\(a == sysModules)=false/\∃vs,KV kvs vs/\h.DictOf (bH P w) a vs
 | .dT kvs=>kvs.length<=Aw/\(a == sysModules)=false/\∃xs:List (List Wf×Addr×Value),
   Paired (λ(p:List Wf×V) (q:List Wf×Addr×Value)=>p.1=q.1/\H q.2.1=some (.tup (p.1.map kV))/\RelV p.2 q.2.2) kvs xs /\
   ∃o es ep,h.get? a=some o/\o.ExactDict/\o.data=.dict es ep/\es.toList=xs.map (entryOfKey (tupleKind (bH P w)))/\(xs.map (·.1)).Nodup/\ep=es.size
 | .set S n=>h.SetOf (Bs P w) a S n
 | .ins C dx fs=>H dx=some (.own a)/\fs.length<=1000/\dx≠a/\h.get? a=some (PySem.W.instObj C dx) /\
   ∃mA,h.Ns1 dx mA/\(∀f,x3 (fs.lookup f) (mA f))/\PySem.Within mA (fs.map (·.1))
 | .own _=>∃o,h.get? a=some o
 | .xd fs=>∃mA,h.Ns1 a mA/\∀f,x3 (fs.lookup f) (mA f)
 | .rng lo hi=>∃t u v,h.get? a=some { cls:=.type "range",data:=.fields #[.int lo t,.int hi u,.int 1 v] }
 | .frz o u=>h.get? a=some o/\Hu H h a u
 | .tbl ps=>∃qs:Array Value,h.get? a=some { cls:=.none,data:=.fields qs }/\TriplesOk qs.toList/\∀(pos:Pos) (v:Value),codeAmong pos qs.toList=some v->∃(c:Addr) (oc:Obj) (us:Array Value) (q:Str) (t t0:Tok),v=.ref c/\H c=some (.own a)/\h.get? c=some oc/\oc.data=.fields us/\us[1]? = some (.str q t)/\ps[0]? = some (.str q t0)
 | .met f x=>h.get? a=some (PySem.W.methodObj (.ref f) (.ref x))
 | .ext φ=>φ h/\(∃o,h.get? a=some o)/\∀h1 h2:Heap,φ h1->(∀o,h1.get? a=some o->h2.get? a=some o)->φ h2
def Xz(H:Hp)(h:Heap):Prop:=∀a o,H a=some o->Hu P w H h a o
end
section
variable{P:Bu}{w:World}{H H':Hp}{h h':Heap}{a:Addr}{o:HO}
theorem Hu.lt(x:Hu P w H h a o):a<h.objs.size:=by
 cases o with
 | lst xs=>obtain ⟨_,_,_,_,e⟩:=x; exact Bc e
 | tup xs=>obtain ⟨_,_,_,p⟩:=x; exact p.lt
 | dK kvs=>obtain ⟨_,_,_,_,o,_,_,e,_⟩:=x; exact Bc e
 | dT kvs=>obtain ⟨_,_,_,_,o,_,_,e,_⟩:=x; exact Bc e
 | set S n=>obtain ⟨o,_,_,_,e,_⟩:=x; exact Bc e
 | ins C dx fs=>obtain ⟨_,_,_,e,_⟩:=x; exact Bc e
 | own y=>obtain ⟨_,e⟩:=x; exact Bc e
 | xd fs=>obtain ⟨_,⟨_,_,_,e,_⟩,_⟩:=x; exact Bc e
 | rng lo hi=>obtain ⟨_,_,_,e⟩:=x; exact Bc e
 | frz ob u=>obtain ⟨e,_⟩:=x; exact Bc e
 | tbl ps=>obtain ⟨_,e,_⟩:=x; exact Bc e
 | met f y=>exact Bc (show h.get? a=some _ from x)
 | ext φ=>obtain ⟨_,⟨_,e⟩,_⟩:=x; exact Bc e
theorem Paired.mapP{α β:Type}{F G:α->β->Prop}:∀{l₁:List α} {l₂:List β},Paired F l₁ l₂->(∀a b,F a b->G a b)->Paired G l₁ l₂
 | _,_,.nil,_=>.nil
 | _,_,.cons r t,f=>.cons (f _ _ r) (Paired.mapP t f)
theorem Hu.stay(x:Hu P w H h a o)(k:∀b u,(b=a\/H b=some (.own a))->h.get? b=some u->h'.get? b=some u)(ho:∀b,H b=some (.own a)->H' b=some (.own a))(ht:∀b xs,H b=some (.tup xs)->H' b=some (.tup xs)):Hu P w H' h' a o:=by
 induction o with
 | lst xs=>obtain ⟨z,its,n,r,e⟩:=x; exact ⟨z,its,n,r,k _ _ (.inl rfl) e⟩
 | tup xs=>obtain ⟨z,its,r,ob,e,c⟩:=x; exact ⟨z,its,r,ob,k _ _ (.inl rfl) e,c⟩
 | dK kvs=>obtain ⟨z,y,vs,r,ob,es,ep,e,c⟩:=x; exact ⟨z,y,vs,r,ob,es,ep,k _ _ (.inl rfl) e,c⟩
 | dT kvs =>
  obtain ⟨z,y,xs,r,ob,es,ep,e,c⟩:=x
  exact ⟨z,y,xs,Paired.mapP r λp q z=>⟨z.1,ht _ _ z.2.1,z.2.2⟩,ob,es,ep,k _ _ (.inl rfl) e,c⟩
 | set S n=>obtain ⟨ob,es,ep,t,e,c⟩:=x; exact ⟨ob,es,ep,t,k _ _ (.inl rfl) e,c⟩
 | ins C dx fs =>
  obtain ⟨d,z,ne,e,mA,⟨od,es,ep,e2,c⟩,r⟩:=x
  exact ⟨ho _ d,z,ne,k _ _ (.inl rfl) e,mA,⟨od,es,ep,k _ _ (.inr d) e2,c⟩,r⟩
 | own y=>obtain ⟨ob,e⟩:=x; exact ⟨ob,k _ _ (.inl rfl) e⟩
 | xd fs=>obtain ⟨mA,⟨od,es,ep,e,c⟩,r⟩:=x; exact ⟨mA,⟨od,es,ep,k _ _ (.inl rfl) e,c⟩,r⟩
 | rng lo hi=>obtain ⟨t,u,v,e⟩:=x; exact ⟨t,u,v,k _ _ (.inl rfl) e⟩
 | frz ob u ih=>obtain ⟨e,q⟩:=x; exact ⟨k _ _ (.inl rfl) e,ih q⟩
 | tbl ps =>
  obtain ⟨qs,e,t,z⟩:=x
  exact ⟨qs,k _ _ (.inl rfl) e,t,λpos v y=>by
   obtain ⟨c,oc,us,q,t,t0,h1,h2,h3,h4⟩:=z pos v y
   exact ⟨c,oc,us,q,t,t0,h1,ho _ h2,k _ _ (.inr h2) h3,h4⟩⟩
 | met f y =>
  have e:h.get? a=some (PySem.W.methodObj (.ref f) (.ref y)):=x
  show h'.get? a=some (PySem.W.methodObj (.ref f) (.ref y))
  exact k a _ (.inl rfl) e
 | ext φ=>obtain ⟨p,⟨o,e⟩,st⟩:=x; exact ⟨st _ _ p λo q=>k _ _ (.inl rfl) q,⟨o,k _ _ (.inl rfl) e⟩,st⟩
theorem Xz.lt(x:Xz P w H h)(e:H a=some o):a<h.objs.size:=(x a o e).lt
theorem Xz.fresh(x:Xz P w H h)(e:h.objs.size<=a):H a=none:=by
 cases q:H a with
 | none=>rfl
 | some u=>exact absurd (Bp (x.lt q) e) (Gj _)
theorem Xz.kept(x:Xz P w H h)(k:∀b u,h.get? b=some u->h'.get? b=some u):Xz P w H h':=λa o e =>
 (x a o e).stay (λb u _ q=>k b u q) (λ_ q=>q) λ_ _ q=>q
theorem Xz.laid(x:Xz P w H h)(k:∀b u,h.get? b=some u->h'.get? b=some u)(hp:h.objs.size<=a)(new:Hu P w (upd H a o) h' a o):Xz P w (upd H a o) h':=λb u e=>by
 have hn:=x.fresh hp
 by_cases hb:b=a
 ·subst hb; rw[Dt] at e; cases e; exact new
 ·rw[Dr hb] at e
  exact (x b u e).stay (λc v _ q=>k c v q) (λc q=>by rw[Dr (Ez q hn)]; exact q) λc xs q=>by rw[Dr (Ez q hn)]; exact q
end
def Rd(H:Hp)(a:Addr)(u:HO):Prop:=H a=some u\/∃o,H a=some (.frz o u)
theorem Rd.ok{P:Bu}{w:World}{H:Hp}{h:Heap}{a:Addr}{u:HO}(r:Rd H a u)(x:Xz P w H h):Hu P w H h a u:=by
 rcases r with r | ⟨o,r⟩
 ·exact x a u r
 ·obtain ⟨_,q⟩:=x a _ r
  exact q
def O8:Option HO->Prop
 | some (.lst _)=>True
 | some (.dK _)=>True
 | some (.dT _)=>True
 | some (.set _ _)=>True
 | some (.ins _ _ _)=>True
 | some (.ext _)=>True
 | _=>False
section
variable{P:Bu}{w:World}{H:Hp}{h h':Heap}{x e:Addr}{o':HO}
theorem Xz.write(ok:Xz P w H h)(mu:O8 (H x))(he:e=x\/H e=some (.own x))(k:∀b u,b≠e->h.get? b=some u->h'.get? b=some u)(heo:∃u,h'.get? e=some u)(new:Hu P w (upd H x o') h' x o'):Xz P w (upd H x o') h':=λb u q=>by
 have nown:∀c y,H c=some (.own y)->c≠x:=λc y r z=>by subst z; rw[r] at mu; exact mu
 have Zg:∀c xs,H c=some (.tup xs)->c≠x:=λc xs r z=>by subst z; rw[r] at mu; exact mu
 by_cases hb:b=x
 ·subst hb; rw[Dt] at q; cases q; exact new
 ·rw[Dr hb] at q
  by_cases hbe:b=e
  ·have q':H b=some (.own x):=by
    rcases he with z | z
    ·exact absurd (hbe.trans z) hb
    ·rw[hbe]; exact z
   rw[q] at q'; cases q'
   obtain ⟨v,hv⟩:=heo
   exact ⟨v,by rw[hbe]; exact hv⟩
  ·refine (ok b u q).stay (λc v hc r=>k c v ?_ r) (λc r=>by rw[Dr (nown c b r)]; exact r) λc xs r=>by rw[Dr (Zg c xs r)]; exact r
   rcases hc with rfl | hc
   ·exact hbe
   ·rintro rfl
    rcases he with z | z
    ·exact nown c b hc z
    ·rw[hc] at z; cases z; exact hb rfl
end
structure Un(fs ex:List Addr)(H H':Hp)(h h':Heap):Prop where
 keep:∀b o,h.get? b=some o->H b=none->b∉fs->b∉ex->h'.get? b=some o
 slot:∀b o,h.get? b=some o->H b=none->b∈fs->b∉ex->∃sl,h'.get? b=some { o with slots:=sl }
 free:∀b o,h.get? b=some o->H b=none->b∉ex->H' b=none
 there:∀b o,h.get? b=some o->b∉ex->∃o',h'.get? b=some o'
 tups:∀b xs,H b=some (.tup xs)->H' b=some (.tup xs)
 frzs:∀b o u,H b=some (.frz o u)->H' b=some (.frz o u)
 tbls:∀b ps,H b=some (.tbl ps)->∃more,H' b=some (.tbl (ps++more))
section
variable{fs fs' ex ex':List Addr}{H H1 H2:Hp}{h h1 h2 h':Heap}{a x e:Addr}{o:HO}
theorem Un.any(u:Un fs ex H H1 h h1){b:Addr}{ob:Obj}(q:h.get? b=some ob)(n:H b=none)(hx:b∉ex):∃sl,h1.get? b=some { ob with slots:=sl }:=by
 by_cases hb:b∈fs
 ·exact u.slot b ob q n hb hx
 ·exact ⟨ob.slots,u.keep b ob q n hb hx⟩
theorem Un.kept(k:∀b u,h.get? b=some u->h'.get? b=some u):Un fs ex H H h h' :=
 ⟨λb ob q _ _ _=>k b ob q,λb ob q _ _ _=>⟨ob.slots,k b ob q⟩,λ_ _ _ n _=>n,λb ob q _=>⟨ob,k b ob q⟩,λ_ _ q=>q,λ_ _ _ q=>q,λ_ ps q=>⟨#[],by rw[q]; simp⟩⟩
theorem Un.refl:Un fs ex H H h h:=Un.kept λ_ _ q=>q
theorem Un.laid(k:∀b u,h.get? b=some u->h'.get? b=some u)(hp:h.objs.size<=a)(hn:H a=none):Un fs ex H (upd H a o) h h' where
 keep:=λb u q _ _ _=>k b u q
 slot:=λb u q _ _ _=>⟨u.slots,k b u q⟩
 free:=λb u q n _=>by rw[Dr (Cp (Bp (Bc q) hp))]; exact n
 there:=λb u q _=>⟨u,k b u q⟩
 tups:=λb xs q=>by rw[Dr (Ez q hn)]; exact q
 frzs:=λb u xs q=>by rw[Dr (Ez q hn)]; exact q
 tbls:=λb ps q=>⟨#[],by rw[Dr (Ez q hn),q]; simp⟩
theorem Un.write(mu:O8 (H x))(he:e=x\/H e=some (.own x))(k:∀b u,b≠e->h.get? b=some u->h'.get? b=some u)(heo:∃u,h'.get? e=some u):Un fs ex H (upd H x o) h h':=by
 have hx:∀b,H b=none->b≠x:=λb n z=>by subst z; rw[n] at mu; exact mu
 have hb:∀b,H b=none->b≠e:=λb n z=>by
  subst z
  rcases he with r | r
  ·exact hx b n r
  ·rw[n] at r; cases r
 have hm:∀b u,H b=some u->¬ O8 (some u)->b≠x:=λb u q nm z=>by subst z; rw[q] at mu; exact nm mu
 refine ⟨λb u q n _ _=>k b u (hb b n) q,λb u q n _ _=>⟨u.slots,k b u (hb b n) q⟩,λb u q n _=>by rw[Dr (hx b n)]; exact n,λb u q _=>?_,
  λb xs q=>by rw[Dr (hm b _ q λz=>z)]; exact q,λb u xs q=>by rw[Dr (hm b _ q λz=>z)]; exact q,λb ps q=>⟨#[],by rw[Dr (hm b _ q λz=>z),q]; simp⟩⟩
 by_cases hbe:b=e
 ·subst hbe; exact heo
 ·exact ⟨u,k b u hbe q⟩
end
def P1(h:Heap)(H:Hp):List Addr:=(Br h.objs.size).filter λa=>(H a).isSome
def Zm(h:Heap)(H:Hp):Heap:=PySem.W.hideAll h (P1 h H)
theorem mZ(h:Heap)(H:Hp):(Zm h H).objs.size=h.objs.size:=PySem.W.hideAll_size _ _
theorem rB{h:Heap}{H:Hp}{b:Addr}{o:Obj}(e:h.get? b=some o)(n:H b=none):(Zm h H).get? b=some o :=
 PySem.W.hideAll_get _ e λhm=>by
  have q:(H b).isSome=true:=(List.mem_filter.mp hm).2
  rw[n] at q; simp at q
theorem wX{h:Heap}{H:Hp}{b:Addr}{o:Obj}(e:(Zm h H).get? b=some o):h.get? b=some o/\H b=none:=by
 have e':h.get? b=some o:=PySem.W.of_hideAll (P1 h H) e
 refine ⟨e',?_⟩
 cases q:H b with
 | none=>rfl
 | some x =>
  have hm:b∈P1 h H:=List.mem_filter.mpr ⟨El.mpr (Bc e'),by simp [q]⟩
  have z:(Zm h H).get? b=none:=PySem.W.hideAll_none (P1 h H) hm
  rw[z] at e; cases e
def uW(g h:Heap)(L:Addr):List (Addr×Obj):=(Br h.objs.size).filterMap λa=>if a=L\/(g.get? a).isSome=true then none else (h.get? a).map λo=>(a,o)
def Ic(g h:Heap)(L d:Addr):List (Addr×Obj):=(uW g h L).filter λp=>decide (p.1≠d)
structure Mod(K:PySem.W.Frag)(mg:Str->Option Value)(base:Heap):Prop where
 kin:K.In base
 glob:base.Ns Ce mg
 blt:∃mb,base.Ns Sd mb/\∀x:Str,x ≠ "__name__" -> mb x=Ho x
 nolimit:base.NoLimit
def Sr:List Str:=["often", "cut_by"]
def zB(x:Str):Str:=x ++ ".<locals>." ++ "<lambda>"
def xV(H:Hp)(P:Addr)(q:Str):Prop:=∃(ps:Array Value) (t0:Tok),H P=some (.tbl ps)/\ps[0]? = some (.str q t0)
def rO(K:PySem.W.Frag)(mg:Str->Option Value)(base:Heap)(H:Hp):Prop:=∀x∈Sr,∀c P,PySem.W.tabIn K x=some (c,P)->PySem.W.CodeHd base c P/\base.BuiltinsAt mg P/\xV H P (zB x)
theorem rO.un{K:PySem.W.Frag}{mg:Str->Option Value}{base:Heap}{fs ex:List Addr}{H H':Hp}{h h':Heap}(t:rO K mg base H)(u:Un fs ex H H' h h'):rO K mg base H':=λx hx c P e=>by
 obtain ⟨h1,h2,ps,t0,h3,h4⟩:=t x hx c P e
 obtain ⟨more,h5⟩:=u.tbls P ps h3
 refine ⟨h1,h2,ps++more,t0,h5,?_⟩
 have hl:0<ps.size:=by
  rcases Nat.eq_zero_or_pos ps.size with z | z
  ·rw[Ov (by omega)] at h4; cases h4
  ·exact z
 rw[Array.getElem?_append_left hl]
 exact h4
structure Cx where
 prog:Bu
 w:World
 K:PySem.W.Frag
 mg:Str->Option Value
 base:Heap
 A:Df
 N:List Str
 s₀:Aj
 H₀:Hp
 env:Env
 outer:List Env
 stack:List Env
 ex:List Addr
 fn:Str->Bool
 calm:Bool
 pn:List (Addr×Obj)
 xe:Value->Aj->Prop
def mU(l:List Env):List Addr:=l.filterMap (·.frame)
abbrev Cx.fs(X:Cx):List Addr:=mU X.outer
def P0(sc:Scope)(x:Str):Prop:=sc.names.lookup x=some .local\/sc.names.lookup x=some .cell\/sc.names.lookup x=some .free
def Loc(sc:Scope)(x:Str):Prop:=sc.names.lookup x=some .local\/sc.names.lookup x=some .cell
def U0(env:Env)(h:Heap)(m:Str->Option Value)(x:Str)(u:Value):Prop :=
 (env.kindOf x=some .local/\m x=some u)\/((env.kindOf x=some .cell\/env.kindOf x=some .free)/\∃c,env.cells.lookup x=some c/\h.IsCell c (some u))
structure Cx.Ok(X:Cx):Prop where
 mod:Mod X.K X.mg X.base
 kind:X.env.scope.kind=.function
 glob:X.env.globals=Ce
 blt:X.env.builtins=Sd
 above:X.s₀.heap.objs.size<=X.env.locals
 inj:∀x y c,X.env.cells.lookup x=some c->X.env.cells.lookup y=some c->x=y
 has:∀x,(X.env.kindOf x=some .cell\/X.env.kindOf x=some .free)->∃c,X.env.cells.lookup x=some c
 cab:∀x c,X.fn x=true->X.env.cells.lookup x=some c->X.s₀.heap.objs.size<=c
 hd:X.calm=true->X.A.handled=none
 frames:X.A.frames=some X.stack
 stk:X.stack=X.outer\/(X.stack=X.env::X.outer/\X.env.frame=some X.env.locals)
 exf:∀b∈X.ex,b≠X.env.locals/\∀x c,X.env.cells.lookup x=some c->c≠b
 bs:∀b o,X.base.get? b=some o->X.s₀.heap.get? b=some o/\X.H₀ b=none
 bsz:X.base.objs.size<=X.s₀.heap.objs.size
 noex:∀b o,X.base.get? b=some o->b∉X.ex
 exfs:∀b∈X.ex,b∉X.fs
 funs:X.s₀.heap.FunFrames X.base X.outer
 frf:∀b∈X.fs,X.H₀ b=none
 tab:rO X.K X.mg X.base X.H₀
structure Inv(X:Cx)(pins:List (Addr×Obj))(σ:List (Option V))(H:Hp)(s:Aj):Prop where
 ok:X.Ok
 os:s.os=X.s₀.os
 bare:Py s.gens
 base:Un X.fs X.ex X.H₀ H X.s₀.heap s.heap
 loc:∃m,s.heap.Ns X.env.locals m/\∀(i:Nat) (x:Str) (v:V),X.N[i]? = some x->σ[i]? = some (some v)->P0 X.env.scope x->∃u,RelV v u/\U0 X.env s.heap m x u
 cell:∀x c,X.env.cells.lookup x=some c->∃v,s.heap.IsCell c v
 free:H X.env.locals=none
 freeC:∀x c,X.env.cells.lookup x=some c->H c=none
 pin:∀p∈X.pn++pins,s.heap.get? p.1=some p.2/\H p.1=none/\p.1≠X.env.locals/\p.1∉X.fs/\∀v,p.2.data≠.cell v
 hok:Xz X.prog X.w H s.heap
 len:σ.length=X.N.length
section
variable{X:Cx}{pins:List (Addr×Obj)}{σ:List (Option V)}{H H':Hp}{s:Aj}{h':Heap}
theorem Cx.Ok.nofr(ok:X.Ok){b:Addr}{o:Obj}(e:X.base.get? b=some o):b∉X.fs:=λhb=>by
 have:=(ok.funs.mem hb).1
 rw[e] at this; cases this
theorem Inv.bs(I:Inv X pins σ H s):∀b o,X.base.get? b=some o->s.heap.get? b=some o/\H b=none:=λb o e =>
 ⟨I.base.keep b o (I.ok.bs b o e).1 (I.ok.bs b o e).2 (I.ok.nofr e) (I.ok.noex b o e),I.base.free b o (I.ok.bs b o e).1 (I.ok.bs b o e).2 (I.ok.noex b o e)⟩
theorem Inv.bk(I:Inv X pins σ H s):∀b o,X.base.get? b=some o->s.heap.get? b=some o:=λb o e=>(I.bs b o e).1
theorem Inv.mod(I:Inv X pins σ H s):Mod X.K X.mg X.base:=I.ok.mod
theorem Inv.kIn(I:Inv X pins σ H s):X.K.In s.heap:=I.ok.mod.kin.keeps I.bk
theorem Inv.lt(I:Inv X pins σ H s):X.env.locals<s.heap.objs.size:=let ⟨_,hn,_⟩:=I.loc; hn.lt
theorem Inv.sz(I:Inv X pins σ H s):X.s₀.heap.objs.size<=s.heap.objs.size:=Bm I.ok.above (Iq I.lt)
theorem Inv.nofs(I:Inv X pins σ H s){a:Addr}(h:s.heap.objs.size<=a):a∉X.fs:=λhb=>by
 obtain ⟨_,o,ho,_⟩:=I.ok.funs.mem hb
 exact absurd (Bp (Bc ho) (Bm I.sz h)) (Gj _)
theorem Inv.cne(I:Inv X pins σ H s):∀x c,X.env.cells.lookup x=some c->c≠X.env.locals:=λx c e z=>by
 obtain ⟨v,o,ho,hd⟩:=I.cell x c e
 obtain ⟨m,⟨o',es,ep,ho',hd',_⟩,_⟩:=I.loc
 rw[z,ho'] at ho; cases ho; rw[hd'] at hd; cases hd
theorem Inv.funs(I:Inv X pins σ H s):s.heap.FunFrames X.base X.outer:=by
 have all:∀(l:List Env),(∀b∈mU l,b∈X.fs)->X.s₀.heap.FunFrames X.base l->s.heap.FunFrames X.base l:=by
  intro l
  induction l with
  | nil=>intro _ _; trivial
  | cons env r ih =>
   intro hs hl
   obtain ⟨hk,⟨L,o,hf,hn,ho,hd⟩,hr⟩:=hl
   have hL:L∈X.fs:=hs L (by unfold mU; rw[Gp,hf]; exact Aa)
   obtain ⟨sl,e⟩:=I.base.slot L o ho (I.ok.frf L hL) hL λz=>I.ok.exfs L z hL
   exact ⟨hk,⟨L,_,hf,hn,e,hd⟩,ih (λb hb=>hs b (by unfold mU; rw[Gp,hf]; exact Ab _ hb)) hr⟩
 exact all X.outer (λ_ hb=>hb) I.ok.funs
theorem Inv.stack(I:Inv X pins σ H s):s.heap.FunFrames X.base X.stack:=by
 rcases I.ok.stk with e | ⟨e,hf⟩
 ·rw[e]; exact I.funs
 ·rw[e]
  obtain ⟨m,hn,_⟩:=I.loc
  refine .cons (by rw[I.ok.kind]; decide) hf hn ?_ I.funs
  exact Heap.get?_none_of_le (Bm I.ok.bsz I.ok.above)
theorem Inv.stkSub(I:Inv X pins σ H s):∀b∈mU X.stack,b∈X.env.locals::X.fs:=λb hb=>by
 rcases I.ok.stk with e | ⟨e,hf⟩
 ·rw[e] at hb; exact Ab _ hb
 ·rw[e] at hb
  unfold mU at hb
  rw[Gp,hf] at hb
  exact hb
theorem Inv.stkFree(I:Inv X pins σ H s):∀b∈mU X.stack,H b=none:=λb hb=>by
 rcases Ai.mp (I.stkSub b hb) with e | hb
 ·rw[e]; exact I.free
 ·obtain ⟨_,o,ho,_⟩:=I.ok.funs.mem hb
  exact I.base.free b o ho (I.ok.frf b hb) λz=>I.ok.exfs b z hb
theorem Inv.step{g':Array GenState}{t':Nat}{d':Drawn}{ch:List Addr}(I:Inv X pins σ H s)(hch:∀b∈ch,(b∈X.ex\/X.s₀.heap.objs.size<=b)/\b≠X.env.locals/\(∀x c,X.env.cells.lookup x=some c->c≠b)/\∀p∈X.pn++pins,p.1≠b)(keep:∀b o,b≠X.env.locals->b∉X.fs->b∉ch->s.heap.get? b=some o->H b=none->h'.get? b=some o)(slot:∀b o,b≠X.env.locals->b∈X.fs->b∉ch->s.heap.get? b=some o->H b=none->∃sl,h'.get? b=some { o with slots:=sl })(free:∀b o,b∉ch->s.heap.get? b=some o->H b=none->H' b=none)(there:∀b o,b∉ch->s.heap.get? b=some o->∃o',h'.get? b=some o')(tups:∀b xs,H b=some (.tup xs)->H' b=some (.tup xs))(frzs:∀b o u,H b=some (.frz o u)->H' b=some (.frz o u))(tbls:∀b ps,H b=some (.tbl ps)->∃more,H' b=some (.tbl (ps++more)))(ns:∀m,s.heap.Ns X.env.locals m->h'.Ns X.env.locals m)(hok:Xz X.prog X.w H' h')(hg:Py g'):Inv X pins σ H' { s with heap:=h',gens:=g',drawn:=d',toks:=t' }:=by
 have neL:∀b o,X.s₀.heap.get? b=some o->b≠X.env.locals:=λb o e=>Cp (Bp (Bc e) I.ok.above)
 have neC:∀b o,X.s₀.heap.get? b=some o->b∉X.ex->b∉ch:=λb o e hx hb=>by
  rcases (hch b hb).1 with z | z
  ·exact hx z
  ·exact absurd (Bp (Bc e) z) (Gj _)
 have cellK:∀x c,X.env.cells.lookup x=some c->∀v,s.heap.IsCell c v->h'.IsCell c v:=λx c e v ⟨o,ho,hd⟩=>by
  have nch:c∉ch:=λz=>(hch c z).2.2.1 x c e rfl
  by_cases hc:c∈X.fs
  ·obtain ⟨sl,q⟩:=slot c o (I.cne x c e) hc nch ho (I.freeC x c e)
   exact ⟨_,q,hd⟩
  ·exact ⟨o,keep c o (I.cne x c e) hc nch ho (I.freeC x c e),hd⟩
 refine ⟨I.ok,I.os,hg,⟨λb o e n hb hx=>?_,λb o e n hb hx=>?_,λb o e n hx=>?_,λb o e hx=>?_,λb xs e=>tups b xs (I.base.tups b xs e),λb o xs e=>frzs b o xs (I.base.frzs b o xs e),λb ps e=>?_⟩,?_,λx c e=>?_,?_,λx c e=>?_,λp hp=>?_,hok,I.len⟩
 ·exact keep b o (neL b o e) hb (neC b o e hx) (I.base.keep b o e n hb hx) (I.base.free b o e n hx)
 ·obtain ⟨sl,e1⟩:=I.base.slot b o e n hb hx
  obtain ⟨sl',e2⟩:=slot b _ (neL b o e) hb (neC b o e hx) e1 (I.base.free b o e n hx)
  exact ⟨sl',e2⟩
 ·obtain ⟨o',e1⟩:=I.base.there b o e hx
  exact free b o' (neC b o e hx) e1 (I.base.free b o e n hx)
 ·obtain ⟨o',e1⟩:=I.base.there b o e hx
  exact there b o' (neC b o e hx) e1
 ·obtain ⟨m1,e1⟩:=I.base.tbls b ps e
  obtain ⟨m2,e2⟩:=tbls b _ e1
  exact ⟨m1++m2,by rw[e2,Array.append_assoc]⟩
 ·obtain ⟨m,hn,hl⟩:=I.loc
  refine ⟨m,ns m hn,λi x v e1 e2 e3=>?_⟩
  obtain ⟨u,r,l⟩:=hl i x v e1 e2 e3
  refine ⟨u,r,?_⟩
  rcases l with l | ⟨k,c,e,z⟩
  ·exact .inl l
  ·exact .inr ⟨k,c,e,cellK x c e _ z⟩
 ·obtain ⟨v,z⟩:=I.cell x c e
  exact ⟨v,cellK x c e v z⟩
 ·obtain ⟨m,⟨o,_,_,ho,_⟩,_⟩:=I.loc
  exact free _ o (λz=>(hch _ z).2.1 rfl) ho I.free
 ·obtain ⟨v,o,ho,hd⟩:=I.cell x c e
  exact free c o (λz=>(hch c z).2.2.1 x c e rfl) ho (I.freeC x c e)
 ·obtain ⟨e,n,ne,nf,d⟩:=I.pin p hp
  have nch:p.1∉ch:=λz=>(hch p.1 z).2.2.2 p hp rfl
  exact ⟨keep p.1 p.2 ne nf nch e n,free p.1 p.2 nch e n,ne,nf,d⟩
theorem Inv.un{t':Nat}(I:Inv X pins σ H s)(u:Un X.fs [] H H' s.heap h')(hok:Xz X.prog X.w H' h'):Inv X pins σ H' { s with heap:=h',toks:=t' }:=by
 obtain ⟨m,⟨o,es,ep,ho,r⟩,_⟩:=id I.loc
 obtain ⟨sl,hL⟩:=u.any ho I.free (by simp)
 exact I.step (g':=s.gens) (d':=s.drawn) (ch:=[]) (λ_ z=>nomatch z) (λb o _ hb _ e n=>u.keep b o e n hb (by simp)) (λb o _ hb _ e n=>u.slot b o e n hb (by simp)) (λb o _ e n=>u.free b o e n (by simp)) (λb o _ e=>u.there b o e (by simp)) u.tups u.frzs u.tbls (λm' hm=>by
  obtain ⟨o',es',ep',ho',r'⟩:=hm
  rw[ho] at ho'; cases ho'
  exact ⟨_,es',ep',hL,r'⟩) hok I.bare
theorem Inv.call{g':Array GenState}{t':Nat}{d':Drawn}{ch:List Addr}(I:Inv X pins σ H s)(u:Un (mU X.stack) ch H H' s.heap h')(hok:Xz X.prog X.w H' h')(hg:Py g')(hch:∀b∈ch,(b∈X.ex\/X.s₀.heap.objs.size<=b)/\b≠X.env.locals/\(∀x c,X.env.cells.lookup x=some c->c≠b)/\∀p∈X.pn++pins,p.1≠b):Inv X pins σ H' { s with heap:=h',gens:=g',drawn:=d',toks:=t' }:=by
 obtain ⟨m,⟨o,es,ep,ho,r⟩,_⟩:=id I.loc
 obtain ⟨sl,hL⟩:=u.any ho I.free λz=>(hch _ z).2.1 rfl
 exact I.step (ch:=ch) hch (λb o hL hb hc e n=>u.keep b o e n (λz=>(Ai.mp (I.stkSub b z)).elim hL hb) hc) (λb o _ _ hc e n=>u.any e n hc) (λb o hc e n=>u.free b o e n hc) (λb o hc e=>u.there b o e hc) u.tups u.frzs u.tbls (λm' hm=>by
  obtain ⟨o',es',ep',ho',r'⟩:=hm
  rw[ho] at ho'; cases ho'
  exact ⟨_,es',ep',hL,r'⟩) hok hg
theorem Inv.turned{t':Nat}{it:Addr}(I:Inv X pins σ H s)(k:∀b o,b≠it->s.heap.get? b=some o->h'.get? b=some o)(hn:H it=none)(hL:it≠X.env.locals)(h1:it∈X.ex\/X.s₀.heap.objs.size<=it)(h2:∀x c,X.env.cells.lookup x=some c->c≠it)(h3:∀p∈X.pn++pins,p.1≠it):Inv X pins σ H { s with heap:=h',toks:=t' }:=by
 have nit:∀b u,H b=some u->b≠it:=λb u e z=>by rw[z,hn] at e; cases e
 refine I.step (g':=s.gens) (d':=s.drawn) (ch:=[it]) (λb hb=>?_) (λb o _ _ hc e _=>k b o (λz=>hc (by simp [z])) e) (λb o _ _ hc e _=>⟨o.slots,k b o (λz=>hc (by simp [z])) e⟩) (λ_ _ _ _ n=>n)
  (λb o hc e=>⟨o,k b o (λz=>hc (by simp [z])) e⟩) (λ_ _ e=>e) (λ_ _ _ e=>e) (λb ps e=>⟨#[],by rw[e]; simp⟩) (λm hm=>?_) (λb u e=>?_) I.bare
 ·have e:b=it:=by simpa using hb
  subst e
  exact ⟨h1,hL,h2,h3⟩
 ·obtain ⟨o,es,ep,ho,r⟩:=hm
  exact ⟨o,es,ep,k _ o (Lo hL) ho,r⟩
 ·refine (I.hok b u e).stay (λc v hc q=>k c v ?_ q) (λ_ q=>q) λ_ _ q=>q
  rcases hc with z | z
  ·rw[z]; exact nit b u e
  ·exact nit c _ z
theorem Inv.tok(I:Inv X pins σ H s)(t:Nat):Inv X pins σ H { s with toks:=t }:=I.un (h':=s.heap) (t':=t) Un.refl I.hok
theorem Inv.kept{t':Nat}(I:Inv X pins σ H s)(k:∀b u,s.heap.get? b=some u->h'.get? b=some u):Inv X pins σ H { s with heap:=h',toks:=t' }:=I.un (Un.kept k) (I.hok.kept k)
theorem Inv.laid{a:Addr}{o:HO}{t':Nat}(I:Inv X pins σ H s)(k:∀b u,s.heap.get? b=some u->h'.get? b=some u)(hp:s.heap.objs.size<=a)(new:Hu X.prog X.w (upd H a o) h' a o):Inv X pins σ (upd H a o) { s with heap:=h',toks:=t' }:=I.un (Un.laid k hp (I.hok.fresh hp)) (I.hok.laid k hp new)
theorem Inv.write{x e:Addr}{o:HO}{t':Nat}(I:Inv X pins σ H s)(mu:O8 (H x))(he:e=x\/H e=some (.own x))(k:∀b u,b≠e->s.heap.get? b=some u->h'.get? b=some u)(heo:∃u,h'.get? e=some u)(new:Hu X.prog X.w (upd H x o) h' x o):Inv X pins σ (upd H x o) { s with heap:=h',toks:=t' }:=I.un (Un.write mu he k heo) (I.hok.write mu he k heo new)
theorem Inv.pins_of{pins':List (Addr×Obj)}(I:Inv X pins σ H s)(h:∀p∈pins',s.heap.get? p.1=some p.2/\H p.1=none/\p.1≠X.env.locals/\p.1∉X.fs/\∀v,p.2.data≠.cell v):Inv X pins' σ H s :=
 ⟨I.ok,I.os,I.bare,I.base,I.loc,I.cell,I.free,I.freeC,λp hp=>(Bg.mp hp).elim (λz=>I.pin p (An _ z)) (h p),I.hok,I.len⟩
theorem eL{N:List Str}(hN:N.Nodup){i j:Nat}{x:Str}(a:N[i]? = some x)(b:N[j]? = some x):i=j:=by
 obtain ⟨h1,e1⟩:=Aq.mp a
 obtain ⟨h2,e2⟩:=Aq.mp b
 exact (List.getElem_inj hN).mp (e1.trans e2.symm)
theorem nV{M:Model}{A:Df}{E:Value->Aj->Prop}{i:Nat}{x:Str}{v:V}{u:Value}{Q:Unit->Aj->Prop}(I:Inv X pins σ H s)(hN:X.N.Nodup)(hi:X.N[i]? = some x)(hx:Loc X.env.scope x)(r:RelV v u)(h:∀s',Inv X pins (σ.set i (some v)) H s'->(∃a,Gd a s.heap s'.heap/\(a=X.env.locals\/X.env.cells.lookup x=some a))->Q () s')(hf:X.fn x=true\/X.env.scope.names.lookup x=some .local:=by first | exact .inl rfl | exact .inr rfl | assumption):wpAny M A (storeName X.env x u) Q E s:=by
 obtain ⟨m,hn,hl⟩:=id I.loc
 have hcls:(X.env.scope.kind == .class || (X.env.scope.kind == .module && X.env.locals != X.env.globals))=false:=by rw[I.ok.kind]; rfl
 have hiσ:i<σ.length:=by rw[I.len]; exact (Aq.mp hi).1
 have cne:=I.cne
 have tracked:∀{a:Addr} {h':Heap},(∃o,s.heap.get? a=some o/\H a=none)->Gd a s.heap h'->Xz X.prog X.w H h':=λ{a h'} ha hs b ob e=>by
  obtain ⟨_,_,hfree⟩:=ha
  refine (I.hok b ob e).stay (λc w' hc q=>(hs.2 c ?_).trans q) (λ_ q=>q) λ_ _ q=>q
  rintro rfl
  rcases hc with rfl | hc
  ·rw[hfree] at e; cases e
  ·rw[hfree] at hc; cases hc
 rcases hx with hk | hk
 ·refine wpAny_storeName_local hk hn (λh' hn' hs=>?_) hcls
  obtain ⟨oL,_,_,hoL,_⟩:=id hn
  refine h _ ⟨I.ok,I.os,I.bare,⟨λb o e n hb hx=>?_,λb o e n hb hx=>?_,I.base.free,λb o e hx=>?_,I.base.tups,I.base.frzs,I.base.tbls⟩,⟨_,hn',λj y v' e1 e2 e3=>?_⟩,λy c e=>?_,I.free,I.freeC,λp hp=>?_,tracked ⟨oL,hoL,I.free⟩ hs,by simpa using I.len⟩ ⟨_,hs,.inl rfl⟩
  ·exact (hs.2 b (Cp (Bp (Bc e) I.ok.above))).trans (I.base.keep b o e n hb hx)
  ·obtain ⟨sl,e1⟩:=I.base.slot b o e n hb hx
   exact ⟨sl,(hs.2 b (Cp (Bp (Bc e) I.ok.above))).trans e1⟩
  ·obtain ⟨o',e1⟩:=I.base.there b o e hx
   exact ⟨o',(hs.2 b (Cp (Bp (Bc e) I.ok.above))).trans e1⟩
  ·by_cases hj:j=i
   ·subst hj
    rw[hi] at e1; cases e1
    rw[Ka hiσ] at e2
    cases e2
    exact ⟨u,r,.inl ⟨hk,by simp⟩⟩
   ·rw[Rz (Lo hj)] at e2
    obtain ⟨u',r',q⟩:=hl j y v' e1 e2 e3
    refine ⟨u',r',?_⟩
    rcases q with ⟨k,e⟩ | ⟨k,c,e,z⟩
    ·refine .inl ⟨k,?_⟩
     have : y≠x:=λe=>hj (eL hN e1 (e▸hi))
     simp [this,e]
    ·exact .inr ⟨k,c,e,z.sameBut hs (cne y c e)⟩
  ·obtain ⟨w',z⟩:=I.cell y c e
   exact ⟨w',z.sameBut hs (cne y c e)⟩
  ·obtain ⟨e,n,ne,nf,d⟩:=I.pin p hp
   exact ⟨(hs.2 p.1 ne).trans e,n,ne,nf,d⟩
 ·have hfn:X.fn x=true:=by
   rcases hf with z | z
   ·exact z
   ·rw[z] at hk; cases hk
  obtain ⟨c,hc⟩:=I.ok.has x (.inl hk)
  obtain ⟨w',z⟩:=I.cell x c hc
  refine wpAny_storeName_cell I.ok.kind hk hc z (λh' hc' hs=>?_)
  obtain ⟨oc,hoc,hocd⟩:=id z
  refine h { s with heap:=h' } ⟨I.ok,I.os,I.bare,⟨λb o e n hb hx=>?_,λb o e n hb hx=>?_,I.base.free,λb o e hx=>?_,I.base.tups,I.base.frzs,I.base.tbls⟩,⟨m,hn.sameBut hs (Lo (cne x c hc)),λj y v' e1 e2 e3=>?_⟩,λy c' e=>?_,I.free,I.freeC,λp hp=>?_,tracked ⟨oc,hoc,I.freeC x c hc⟩ hs,by simpa using I.len⟩ ⟨c,hs,.inr hc⟩
  ·exact (hs.2 b (Cp (Bp (Bc e) (I.ok.cab x c hfn hc)))).trans (I.base.keep b o e n hb hx)
  ·obtain ⟨sl,e1⟩:=I.base.slot b o e n hb hx
   exact ⟨sl,(hs.2 b (Cp (Bp (Bc e) (I.ok.cab x c hfn hc)))).trans e1⟩
  ·obtain ⟨o',e1⟩:=I.base.there b o e hx
   exact ⟨o',(hs.2 b (Cp (Bp (Bc e) (I.ok.cab x c hfn hc)))).trans e1⟩
  ·by_cases hj:j=i
   ·subst hj
    rw[hi] at e1; cases e1
    rw[Ka hiσ] at e2
    cases e2
    exact ⟨u,r,.inr ⟨.inl hk,c,hc,hc'⟩⟩
   ·rw[Rz (Lo hj)] at e2
    obtain ⟨u',r',q⟩:=hl j y v' e1 e2 e3
    refine ⟨u',r',?_⟩
    rcases q with q | ⟨k,c',e,z'⟩
    ·exact .inl q
    ·refine .inr ⟨k,c',e,z'.sameBut hs ?_⟩
     rintro rfl
     exact hj (eL hN e1 (I.ok.inj _ _ _ e hc▸hi))
  ·by_cases hcc:c'=c
   ·subst hcc; exact ⟨_,hc'⟩
   ·obtain ⟨w2,z2⟩:=I.cell y c' e
    exact ⟨w2,z2.sameBut hs hcc⟩
  ·obtain ⟨e,n,ne,nf,d⟩:=I.pin p hp
   refine ⟨(hs.2 p.1 ?_).trans e,n,ne,nf,d⟩
   intro q
   rw[q,hoc] at e
   have q':oc=p.2:=Ca e
   exact d w' (by rw[<- q']; exact hocd)
theorem eR{M:Model}{A:Df}{E:Value->Aj->Prop}{i:Nat}{x:Str}{v:V}{u:Value}{Q:Unit->Aj->Prop}(I:Inv X pins σ H s)(hN:X.N.Nodup)(hi:X.N[i]? = some x)(hx:Loc X.env.scope x)(r:RelV v u)(h:∀s',Inv X pins (σ.set i (some v)) H s'->Q () s')(hf:X.fn x=true\/X.env.scope.names.lookup x=some .local:=by first | exact .inl rfl | exact .inr rfl | assumption):wpAny M A (storeName X.env x u) Q E s :=
 nV I hN hi hx r (λs' I' _=>h s' I') hf
theorem Inv.call'{s':Aj}{ch:List Addr}(I:Inv X pins σ H s)(ho:s'.os=s.os)(u:Un (mU X.stack) ch H H' s.heap s'.heap)(hok:Xz X.prog X.w H' s'.heap)(hg:Py s'.gens)(hch:∀b∈ch,(b∈X.ex\/X.s₀.heap.objs.size<=b)/\b≠X.env.locals/\(∀x c,X.env.cells.lookup x=some c->c≠b)/\∀p∈X.pn++pins,p.1≠b):Inv X pins σ H' s':=by
 obtain ⟨h',g',d',t',o'⟩:=s'
 have e:o'=s.os:=ho
 subst e
 exact I.call (g':=g') (t':=t') (d':=d') u hok hg hch
end
abbrev XK:=Value->Option Addr->Hp->Prop
abbrev St:=List (Option V)
abbrev VK:=V->Hp->Prop
abbrev TE:=St->Hp->VK->Prop
abbrev TT:=St->Hp->(Bool->Hp->Prop)->Prop
abbrev TA:=St->Hp->(List V->Hp->Prop)->Prop
structure Ends where
 nx:St->Hp->Prop
 rt:VK
 bk:St->Hp->Prop:=λ_ _=>False
 ct:St->Hp->Prop:=λ_ _=>False
abbrev TS:=Ends->St->Hp->Prop
def EP(X:Cx)(pins:List (Addr×Obj))(σ:St)(Q:VK)(u:Value)(s':Aj):Prop:=∃v H',Inv X pins σ H' s'/\RelV v u/\Q v H'
def TP(X:Cx)(pins:List (Addr×Obj))(σ:St)(Q:Bool->Hp->Prop)(b:Bool)(s':Aj):Prop:=∃H',Inv X pins σ H' s'/\Q b H'
def AP(X:Cx)(pins:List (Addr×Obj))(σ:St)(Q:List V->Hp->Prop)(us:List Value)(s':Aj):Prop:=∃vs H',Inv X pins σ H' s'/\Ek vs us/\Q vs H'
def SP(X:Cx)(pins:List (Addr×Obj))(D:Ends)(f:Flow)(s':Aj):Prop :=
 match f with
 | .next=>∃σ' H',Inv X pins σ' H' s'/\D.nx σ' H'
 | .brk=>∃σ' H',Inv X pins σ' H' s'/\D.bk σ' H'
 | .cont=>∃σ' H',Inv X pins σ' H' s'/\D.ct σ' H'
 | .ret u=>∃v σ' H',Inv X pins σ' H' s'/\RelV v u/\D.rt v H'
def PE(X:Cx)(e:Expr)(t:TE):Prop :=
 ∀(pins:List (Addr×Obj)) (s:Aj) (σ:St) (H:Hp) (Q:VK),Inv X pins σ H s->t σ H Q->wpAny (model X.prog X.w) X.A (eval e X.env) (EP X pins σ Q) X.xe s
def PT(X:Cx)(e:Expr)(t:TT):Prop :=
 ∀(pins:List (Addr×Obj)) (s:Aj) (σ:St) (H:Hp) (Q:Bool->Hp->Prop),Inv X pins σ H s->t σ H Q->wpAny (model X.prog X.w) X.A (isTrue e X.env (eval e X.env)) (TP X pins σ Q) X.xe s
def PW(X:Cx)(e:Expr)(t:TT):Prop :=
 ∀(whole:Sem Value) (pins:List (Addr×Obj)) (s:Aj) (σ:St) (H:Hp) (Q:Bool->Hp->Prop),Inv X pins σ H s->t σ H Q->wpAny (model X.prog X.w) X.A (isTrue e X.env whole) (TP X pins σ Q) X.xe s
theorem PW.pt{X:Cx}{e:Expr}{t:TT}(h:PW X e t):PT X e t:=h _
def PA(X:Cx)(es:List Expr)(t:TA):Prop :=
 ∀(pos:Pos) (pins:List (Addr×Obj)) (s:Aj) (σ:St) (H:Hp) (Q:List V->Hp->Prop),Inv X pins σ H s->t σ H Q->wpAny (model X.prog X.w) X.A (spliced (Gc pos (Bd es X.env))) (AP X pins σ Q) X.xe s
def PS(X:Cx)(st:Stmt)(t:TS):Prop :=
 ∀(pins:List (Addr×Obj)) (s:Aj) (σ:St) (H:Hp) (D:Ends),Inv X pins σ H s->t D σ H->wpAny (model X.prog X.w) X.A (exec st X.env) (SP X pins D) X.xe s
def jI(X:Cx)(st:List Stmt)(t:TS):Prop :=
 ∀(pins:List (Addr×Obj)) (s:Aj) (σ:St) (H:Hp) (D:Ends),Inv X pins σ H s->t D σ H->wpAny (model X.prog X.w) X.A (execs st X.env) (SP X pins D) X.xe s
theorem Hb{α:Type}{t:Sem α}{Q Q':α->Aj->Prop}{M:Model}{A:Df}{E:Value->Aj->Prop}{s:Aj}(h:wpAny M A t Q E s)(hQ:∀a s,Q a s->Q' a s):wpAny M A t Q' E s:=Iy h hQ λ_ _ x=>x
section
variable{X:Cx}
theorem X0{a b:Expr}{ta tb:TE}(ha:PE X a ta)(hb:PE X b tb){pins:List (Addr×Obj)}{s:Aj}{σ:St}{H:Hp}{R:V->V->Hp->Prop}(I:Inv X pins σ H s)(h:ta σ H λx H1=>tb σ H1 λy H2=>R x y H2){α:Type}{Q:α->Aj->Prop}{f:Value->Value->Sem α}(hf:∀v u s2 x y H2,Inv X pins σ H2 s2->RelV x v->RelV y u->R x y H2->wpAny (model X.prog X.w) X.A (f v u) Q X.xe s2):wpAny (model X.prog X.w) X.A (eval a X.env) (λv s₁=>wpAny (model X.prog X.w) X.A (eval b X.env) (λu s₂=>wpAny (model X.prog X.w) X.A (f v u) Q X.xe s₂) X.xe s₁) X.xe s:=by
 refine Hb (ha pins s σ H _ I h) λv s1 q0_ => ?_
 obtain ⟨x,H1,I1,r1,q1⟩ := q0_
 refine Hb (hb pins s1 σ H1 _ I1 q1) λu s2 q0_ => ?_
 obtain ⟨y,H2,I2,r2,q2⟩ := q0_
 exact hf v u s2 x y H2 I2 r1 r2 q2
def Ud(i:Nat):TE:=λσ H Q=>∃v,σ[i]? = some (some v)/\Q v H
def tC(v:V):TE:=λ_ H Q=>Q v H
theorem i8{i:Nat}{x:Str}{pos:Pos}(hN:X.N[i]? = some x)(hv:P0 X.env.scope x)(hd:(x == ("__debug__" : Str))=false:=by decide)(hcd:(x == ("__classdict__" : Str))=false:=by decide):PE X (.Name x pos) (Ud i):=by
 intro pins s σ H Q I h
 obtain ⟨v,e,h⟩:=h
 obtain ⟨m,hn,hl⟩:=I.loc
 obtain ⟨u,r,l⟩:=hl i x v hN e hv
 have fin:EP X pins σ Q u s:=⟨v,H,I,r,h⟩
 rcases l with ⟨hk,hm⟩ | ⟨hk,c,hc,hcell⟩
 ·exact wpAny_Name (wpAny_loadName_local I.ok.kind hk hn hm fin) hd
 ·rcases hk with hk | hk
  ·exact wpAny_Name (wpAny_loadName_cell I.ok.kind hk hc hcell fin) hd
  ·exact wpAny_Name (wpAny_loadName_free I.ok.kind hk hc hcell fin hcd) hd
theorem Ey{i j pos}:PE X (.Constant (.int i) j pos) (tC (.int i)):=λ_ _ _ H _ I h=>wpAny_Constant_int ⟨.int i,H,I.tok _,⟨_,rfl⟩,h⟩
theorem yN{b j pos}:PE X (.Constant (.bool b) j pos) (tC (.bl b)):=λ_ _ _ H _ I h=>Constant_bool ⟨.bl b,H,I,rfl,h⟩
theorem zR{j pos}:PE X (.Constant .none j pos) (tC .non):=λ_ _ _ H _ I h=>Constant_none ⟨.non,H,I,rfl,h⟩
theorem A8{x j pos}:PE X (.Constant (.str x) j pos) (tC (.str x)):=λ_ _ _ H _ I h=>Calls.Constant_str ⟨.str x,H,I.tok _,⟨_,rfl⟩,h⟩
def Gl(X:Cx)(x:Str):Prop:=X.env.kindOf x=some .globalImplicit
theorem cZ{E:Value->Aj->Prop}{pins:List (Addr×Obj)}{s:Aj}{σ:St}{H:Hp}{x:Str}{u:Value}{pos:Pos}{Q:Value->Aj->Prop}(I:Inv X pins σ H s)(hg:Gl X x)(hm:X.mg x=some u)(h:Q u s)(hd:(x == ("__debug__" : Str))=false:=by decide):wpAny (model X.prog X.w) X.A (eval (.Name x pos) X.env) Q E s :=
 aX I.ok.kind hg (Calls.loadGlobal_global (by rw[I.ok.glob]; exact I.mod.glob.keeps I.bk) hm h) hd
theorem Xi{E:Value->Aj->Prop}{pins:List (Addr×Obj)}{s:Aj}{σ:St}{H:Hp}{x:Str}{u:Value}{pos:Pos}{Q:Value->Aj->Prop}(I:Inv X pins σ H s)(hg:Gl X x)(hm:X.mg x=none)(hv:Ho x=some u)(h:Q u s)(hn:x ≠ "__name__" := by decide)(hd:(x == ("__debug__" : Str))=false:=by decide):wpAny (model X.prog X.w) X.A (eval (.Name x pos) X.env) Q E s:=by
 obtain ⟨mb,h1,h2⟩:=I.mod.blt
 exact aX I.ok.kind hg (Calls.loadGlobal_builtin (by rw[I.ok.glob]; exact I.mod.glob.keeps I.bk) hm (by rw[I.ok.blt]; exact h1.keeps I.bk) ((h2 x hn).trans hv) h) hd
theorem mJ{x:Str}{v:V}{u:Value}{pos:Pos}(hg:Gl X x)(hm:X.mg x=some u)(r:RelV v u)(hd:(x == ("__debug__" : Str))=false:=by decide):PE X (.Name x pos) (tC v) :=
 λ_ _ _ H _ I h=>cZ I hg hm ⟨v,H,I,r,h⟩ hd
theorem wD{x:Str}{v:V}{u:Value}{pos:Pos}(hg:Gl X x)(hm:X.mg x=none)(hv:Ho x=some u)(r:RelV v u)(hn:x ≠ "__name__" := by decide)(hd:(x == ("__debug__" : Str))=false:=by decide):PE X (.Name x pos) (tC v) :=
 λ_ _ _ H _ I h=>Xi I hg hm hv ⟨v,H,I,r,h⟩ hn hd
variable{a b:Expr}{ta tb:TE}{pos:Pos}
def PC(X:Cx)(op:CmpOp)(a b:Expr)(t:TE):Prop :=
 ∀(pins:List (Addr×Obj)) (s:Aj) (σ:St) (H:Hp) (Q:VK),Inv X pins σ H s->t σ H Q ->
  wpAny (model X.prog X.w) X.A (eval a X.env) (λv s₁=>wpAny (model X.prog X.w) X.A (eval b X.env) (λu s₂=>wpAny (model X.prog X.w) X.A (Hf op v u) (EP X pins σ Q) X.xe s₂) X.xe s₁) X.xe s
theorem tH(b:Expr){op:CmpOp}(h:op≠.In)(h2:op≠.NotIn):Ff op b=false:=by
 have e1:(op == CmpOp.In)=false:=by cases op <;> first | rfl | exact absurd rfl h
 have e2:(op == CmpOp.NotIn)=false:=by cases op <;> first | rfl | exact absurd rfl h2
 cases b <;> simp [Ff,e1,e2]
def tB(t:TE):TT:=λσ H Q=>t σ H λx H1=>∃c,x=.bl c/\Q c H1
theorem T9{op:CmpOp}{t:TE}(h:PC X op a b t)(h1:Ff op b=false:=by first | exact tH _ (by decide) (by decide) | rfl):PT X (.Compare a [op] [b] pos) (tB t):=by
 intro pins s σ H Q I hw
 refine wpAny_isTrue_Compare1 (Hb (h pins s σ H _ I hw) λv s1 h1=>Hb h1 λu s2 h2=>Hb h2 λc s3 ⟨x,H1,I1,r1,q1⟩=>?_) h1
 obtain ⟨d,rfl,q⟩:=q1
 cases r1
 exact Gm ⟨H1,I1,q⟩
theorem jA{e:Expr}{t:TE}(h:PE X e t)(he:∀whole,isTrue e X.env whole=(do let v <- whole; standAt e.pos; Lc [v] (truthy v)):=by intro _; rfl):PT X e (tB t):=by
 intro pins s σ H Q I hw
 refine isTrue_plain (Hb (h pins s σ H _ I hw) λv s1 ⟨x,H1,I1,r1,q1⟩=>?_) (he _)
 obtain ⟨d,rfl,q⟩:=q1
 cases r1
 exact Gm ⟨H1,I1,q⟩
variable{tA tB':TT}{Ic:List Expr}
def U2(t u:TT):TT:=λσ H Q=>t σ H λc H1=>if c=true then u σ H1 Q else Q false H1
def W4(t u:TT):TT:=λσ H Q=>t σ H λc H1=>if c=true then Q true H1 else u σ H1 Q
def T2(t:TT):TT:=λσ H Q=>t σ H λc H1=>Q (!c) H1
theorem uP(ha:PT X a tA):PW X (.BoolOp .And [a] pos) tA:=by
 intro wh pins s σ H Q I h
 refine isTrue_and (Hb (ha pins s σ H Q I h) λc s1 e=>?_)
 cases c with
 | true=>exact isTrue_and_nil e
 | false=>exact e
theorem A7(ha:PT X a tA):PW X (.BoolOp .Or [a] pos) tA:=by
 intro wh pins s σ H Q I h
 refine isTrue_or (Hb (ha pins s σ H Q I h) λc s1 e=>?_)
 cases c with
 | false=>exact isTrue_or_nil e
 | true=>exact e
theorem i6(ha:PT X a tA)(hb:PW X (.BoolOp .And (b::Ic) pos) tB'):PW X (.BoolOp .And (a::b::Ic) pos) (U2 tA tB'):=by
 intro wh pins s σ H Q I h
 refine isTrue_and (Hb (ha pins s σ H _ I h) λc s1 q0_ => ?_)
 obtain ⟨H1,I1,q1⟩ := q0_
 cases c with
 | true=>exact hb wh pins s1 σ H1 Q I1 q1
 | false=>exact ⟨H1,I1,q1⟩
theorem J5(ha:PT X a tA)(hb:PW X (.BoolOp .Or (b::Ic) pos) tB'):PW X (.BoolOp .Or (a::b::Ic) pos) (W4 tA tB'):=by
 intro wh pins s σ H Q I h
 refine isTrue_or (Hb (ha pins s σ H _ I h) λc s1 q0_ => ?_)
 obtain ⟨H1,I1,q1⟩ := q0_
 cases c with
 | true=>exact ⟨H1,I1,q1⟩
 | false=>exact hb wh pins s1 σ H1 Q I1 q1
theorem pH(ha:PT X a tA):PT X (.UnaryOp .Not a pos) (T2 tA):=by
 intro pins s σ H Q I h
 exact isTrue_not (ha pins s σ H (λc H1=>Q (!c) H1) I h)
def K1(ta tb:TE):TE:=λσ H Q=>ta σ H λx H1=>∃c,x=.bl c/\if c=true then tb σ H1 Q else Q (.bl false) H1
def L0(ta:TE):TE:=λσ H Q=>ta σ H λx H1=>∃c,x=.bl c/\Q (.bl (!c)) H1
theorem p8{op}{t:TE}(h:PE X a t):PE X (.BoolOp op [a] pos) t:=λpins s σ H Q I hw=>BoolOp_one (h pins s σ H Q I hw)
theorem p7(ha:PE X a ta)(hb:PE X (.BoolOp .And (b::Ic) pos) tb):PE X (.BoolOp .And (a::b::Ic) pos) (K1 ta tb):=by
 intro pins s σ H Q I h
 refine BoolOp_and (Hb (ha pins s σ H _ I h) λv s1 q0_ => ?_)
 obtain ⟨x,H1,I1,r1,q1⟩ := q0_
 obtain ⟨c,rfl,q1⟩:=q1
 cases r1
 refine Gm ?_
 cases c with
 | true=>exact hb pins s1 σ H1 Q I1 q1
 | false=>exact ⟨.bl false,H1,I1,rfl,q1⟩
theorem A5(ha:PE X a ta):PE X (.UnaryOp .Not a pos) (L0 ta):=by
 intro pins s σ H Q I h
 refine UnaryOp_ (Hb (ha pins s σ H _ I h) λv s1 q0_ => ?_)
 obtain ⟨x,H1,I1,r1,q1⟩ := q0_
 obtain ⟨c,rfl,q1⟩:=q1
 cases r1
 exact not_of (Gm ⟨.bl (!c),H1,I1,rfl,q1⟩)
def V8(t:TT)(ta tb:TE):TE:=λσ H Q=>t σ H λc H1=>if c=true then ta σ H1 Q else tb σ H1 Q
theorem pU{c:Expr}(hc:PT X c tA)(ha:PE X a ta)(hb:PE X b tb):PE X (.IfExp c a b pos) (V8 tA ta tb):=by
 intro pins s σ H Q I h
 refine wpAny_IfExp (Hb (hc pins s σ H _ I h) λd s1 q0_ => ?_)
 obtain ⟨H1,I1,q1⟩ := q0_
 cases d with
 | true=>exact ha pins s1 σ H1 Q I1 q1
 | false=>exact hb pins s1 σ H1 Q I1 q1
end
def Oy(K:PySem.W.Frag)(H:Hp)(a:Addr)(xs:List V):Prop :=
 Rd H a (.lst xs) \/
  ∃(o:Obj) (its:Array Value) (n:Nat),K.lookup a=some o/\o.cls=.type "list" /\ o.dict=none/\o.data=.seq its n/\its.size<=Aw/\Ek xs its.toList
def To(K:PySem.W.Frag)(H:Hp)(a:Addr)(xs:List V):Prop :=
 Rd H a (.tup xs) \/
  ∃(o:Obj) (its:Array Value) (n:Nat),K.lookup a=some o/\o.cls=.type "tuple" /\ o.data=.seq its n/\its.size<=Aw/\Ek xs its.toList
def S9:Value->Option V
 | .none=>some .non
 | .bool b=>some (.bl b)
 | .int i _=>some (.int i)
 | .str x _=>some (.str x)
 | .bytes b _=>some (.byt b)
 | .float b _=>some (.flt b)
 | .ref a=>some (.ref a)
 | .type n=>some (.ty n)
 | _=>none
theorem RelV.abs{x:V}{u:Value}(r:RelV x u):S9 u=some x:=by
 cases x with
 | non=>cases r; rfl
 | bl _=>cases r; rfl
 | int _=>obtain ⟨t,rfl⟩:=r; rfl
 | str _=>obtain ⟨t,rfl⟩:=r; rfl
 | byt _=>obtain ⟨t,rfl⟩:=r; rfl
 | flt _=>obtain ⟨t,rfl⟩:=r; rfl
 | ref _=>cases r; rfl
 | ty _=>cases r; rfl
theorem RelV.inj{x y:V}{u:Value}(r:RelV x u)(q:RelV y u):x=y:=Ca (r.abs.symm.trans q.abs)
theorem Ek.inj:∀{xs ys:List V} {us:List Value},Ek xs us->Ek ys us->xs=ys
 | _,_,_,.nil,.nil=>rfl
 | _,_,_,.cons r t,.cons r' t'=>by rw[r.inj r',Ek.inj t t']
section
variable{X:Cx}{pins:List (Addr×Obj)}{σ:St}{H:Hp}{s:Aj}{a:Addr}{xs ys:List V}
theorem Oy.of{K:PySem.W.Frag}(h:H a=some (.lst xs)):Oy K H a xs:=.inl (.inl h)
theorem To.of{K:PySem.W.Frag}(h:H a=some (.tup xs)):To K H a xs:=.inl (.inl h)
theorem Inv.list(I:Inv X pins σ H s)(h:Oy X.K H a xs):∃its:List Value,Ek xs its/\PlainL s.heap a its.toArray/\xs.length<=Aw:=by
 rcases h with h | ⟨o,its,n,hk,hc,hd,hs,hz,r⟩
 ·obtain ⟨z,its,n,r,e⟩:=h.ok I.hok
  exact ⟨its,r,⟨_,n,e,rfl,rfl,rfl⟩,z⟩
 ·refine ⟨its.toList,r,⟨o,n,I.kIn a o hk,hc,hd,by simpa using hs⟩,?_⟩
  have e:=r.length
  simp only[Af] at e
  omega
theorem Inv.tuple(I:Inv X pins σ H s)(h:To X.K H a xs):∃its:List Value,Ek xs its/\IsTup s.heap a its.toArray/\xs.length<=Aw:=by
 rcases h with h | ⟨o,its,n,hk,hc,hs,hz,r⟩
 ·obtain ⟨z,its,r,p⟩:=h.ok I.hok
  exact ⟨its,r,p,z⟩
 ·refine ⟨its.toList,r,⟨o,I.kIn a o hk,hc,n,by simpa using hs⟩,?_⟩
  have e:=r.length
  simp only[Af] at e
  omega
theorem Inv.list_inj(I:Inv X pins σ H s)(h:Oy X.K H a xs)(h':Oy X.K H a ys):xs=ys:=by
 obtain ⟨its,r,⟨o,n,e,_,_,d⟩,_⟩:=I.list h
 obtain ⟨its',r',⟨o',n',e',_,_,d'⟩,_⟩:=I.list h'
 rw[e] at e'; cases e'
 rw[d] at d'
 injection d' with d1 _
 have : its=its':=by simpa using congrArg Array.toList d1
 subst this
 exact r.inj r'
theorem Inv.tuple_inj(I:Inv X pins σ H s)(h:To X.K H a xs)(h':To X.K H a ys):xs=ys:=by
 obtain ⟨its,r,⟨o,e,_,n,d⟩,_⟩:=I.tuple h
 obtain ⟨its',r',⟨o',e',_,n',d'⟩,_⟩:=I.tuple h'
 rw[e] at e'; cases e'
 rw[d] at d'
 injection d' with d1 _
 have : its=its':=by simpa using congrArg Array.toList d1
 subst this
 exact r.inj r'
end
abbrev Cx.wish(X:Cx)(E:Value->Aj->Prop):Cx:={ X with xe:=E }
abbrev Cx.nox(X:Cx):Cx:=X.wish λ_ _=>False
theorem Cx.Ok.wish{X:Cx}(ok:X.Ok)(E:Value->Aj->Prop):(X.wish E).Ok :=
 ⟨ok.mod,ok.kind,ok.glob,ok.blt,ok.above,ok.inj,ok.has,ok.cab,ok.hd,ok.frames,ok.stk,ok.exf,ok.bs,ok.bsz,ok.noex,ok.exfs,ok.funs,ok.frf,ok.tab⟩
theorem Cx.Ok.unwish{X:Cx}{E:Value->Aj->Prop}(ok:(X.wish E).Ok):X.Ok :=
 ⟨ok.mod,ok.kind,ok.glob,ok.blt,ok.above,ok.inj,ok.has,ok.cab,ok.hd,ok.frames,ok.stk,ok.exf,ok.bs,ok.bsz,ok.noex,ok.exfs,ok.funs,ok.frf,ok.tab⟩
section
variable{X:Cx}{pins:List (Addr×Obj)}{σ:St}{H:Hp}{s:Aj}{E:Value->Aj->Prop}
theorem Inv.wish(I:Inv X pins σ H s)(E:Value->Aj->Prop):Inv (X.wish E) pins σ H s:=⟨I.ok.wish E,I.os,I.bare,I.base,I.loc,I.cell,I.free,I.freeC,I.pin,I.hok,I.len⟩
theorem Inv.unwish(I:Inv (X.wish E) pins σ H s):Inv X pins σ H s:=⟨I.ok.unwish,I.os,I.bare,I.base,I.loc,I.cell,I.free,I.freeC,I.pin,I.hok,I.len⟩
theorem SP.unwish{D:Ends}{f:Flow}{s':Aj}(h:SP (X.wish E) pins D f s'):SP X pins D f s':=by
 cases f with
 | next=>obtain ⟨σ',H',I,q⟩:=h; exact ⟨σ',H',I.unwish,q⟩
 | brk=>obtain ⟨σ',H',I,q⟩:=h; exact ⟨σ',H',I.unwish,q⟩
 | cont=>obtain ⟨σ',H',I,q⟩:=h; exact ⟨σ',H',I.unwish,q⟩
 | ret u=>obtain ⟨v,σ',H',I,r,q⟩:=h; exact ⟨v,σ',H',I.unwish,r,q⟩
theorem jI.nox{st:List Stmt}{t:TS}(h:jI X.nox st t):jI X st t:=λpins s σ H D I hw =>
 Iy (h pins s σ H D (I.wish _) hw) (λ_ _ q=>q.unwish) λ_ _ z=>Hw z
end
section
variable{X:Cx}{st:Stmt}{Ic:List Stmt}{t u:TS}{e:Expr}{te:TE}{pos:Pos}
def L1:TS:=λD σ H=>D.nx σ H
def P4(t u:TS):TS:=λD σ H=>t { D with nx:=u D } σ H
theorem bK:jI X [] L1:=λ_ _ σ H _ I h=>wpAny_execs_nil ⟨σ,H,I,h⟩
theorem Je(h1:PS X st t)(h2:jI X Ic u):jI X (st::Ic) (P4 t u):=by
 intro pins s σ H D I h
 refine wpAny_execs_cons (Hb (h1 pins s σ H { D with nx:=u D } I h) λf s1 q=>?_)
 cases f with
 | next =>
  obtain ⟨σ',H',I',q⟩:=q
  exact h2 pins s1 σ' H' D I' q
 | ret v=>exact q
 | brk=>exact q
 | cont=>exact q
theorem Qb(h1:PS X st t):jI X [st] t:=by
 intro pins s σ H D I h
 refine wpAny_execs_cons (Hb (h1 pins s σ H D I h) λf s1 q=>?_)
 cases f with
 | next=>exact wpAny_execs_nil q
 | ret v=>exact q
 | brk=>exact q
 | cont=>exact q
theorem Inv.quiet{pins:List (Addr×Obj)}{σ:St}{H:Hp}{s:Aj}(I:Inv X pins σ H s):interactive X.env=false:=by simp [interactive,I.ok.kind]
def M7(te:TE):TS:=λD σ H=>te σ H λ_ H1=>D.nx σ H1
theorem Vu(he:PE X e te)(hs:Oh e none pos.line X.env=pure false:=by rfl):PS X (.Expr e pos) (M7 te):=by
 intro pins s σ H D I h
 exact wpAny_Expr_any (Hb (he pins s σ H _ I h) λv s1 ⟨x,H1,I1,r1,q1⟩=>⟨σ,H1,I1,q1⟩) I.quiet hs
def Q4(te:TE):TS:=λD σ H=>te σ H D.rt
theorem Ym(he:PE X e te):PS X (.Return (some e) pos) (Q4 te):=by
 intro pins s σ H D I h
 exact wpAny_Return_some (Hb (he pins s σ H _ I h) λv s1 ⟨x,H1,I1,r1,q1⟩=>⟨x,σ,H1,I1,r1,q1⟩)
def S8(c:TT)(t u:TS):TS:=λD σ H=>c σ H λb H1=>if b=true then t D σ H1 else u D σ H1
theorem qZ{c:Expr}{a b:List Stmt}{tc:TT}(hc:PT X c tc)(ha:jI X a t)(hb:jI X b u):PS X (.If c a b pos) (S8 tc t u):=by
 intro pins s σ H D I h
 refine wpAny_If (Hb (hc pins s σ H _ I h) λd s1 q0_ => ?_)
 obtain ⟨H1,I1,q1⟩ := q0_
 cases d with
 | true=>exact ha pins s1 σ H1 D I1 q1
 | false=>exact hb pins s1 σ H1 D I1 q1
def x8:TS:=λ_ _ _=>False
theorem sD:PS X st x8:=λ_ _ _ _ _ _ h=>h.elim
end
abbrev TG:=V->St->Hp->(St->Hp->Prop)->Prop
abbrev vJ:=List V->St->Hp->(St->Hp->Prop)->Prop
def PG(X:Cx)(target:Expr)(t:TG):Prop :=
 ∀(pins:List (Addr×Obj)) (s:Aj) (σ:St) (H:Hp) (v:V) (u:Value) (Q:St->Hp->Prop),Inv X pins σ H s->RelV v u->t v σ H Q ->
  wpAny (model X.prog X.w) X.A (assign target X.env u) (λ_ s'=>∃σ' H',Inv X pins σ' H' s'/\Q σ' H') X.xe s
def i7(X:Cx)(ts:List Expr)(t:vJ):Prop :=
 ∀(pins:List (Addr×Obj)) (s:Aj) (σ:St) (H:Hp) (vs:List V) (us:List Value) (Q:St->Hp->Prop),Inv X pins σ H s->Ek vs us->t vs σ H Q ->
  wpAny (model X.prog X.w) X.A (assignInOrder ((Fq ts X.env).map (·.2)) us) (λ_ s'=>∃σ' H',Inv X pins σ' H' s'/\Q σ' H') X.xe s
abbrev o5:=V->V->V->Hp->(Hp->Prop)->Prop
def N7(X:Cx)(t:o5):Prop :=
 ∀(pins:List (Addr×Obj)) (s:Aj) (σ:St) (H:Hp) (o i v:V) (ov iv u:Value) (Q:Hp->Prop),Inv X pins σ H s->RelV o ov->RelV i iv->RelV v u->t o i v H Q ->
  wpAny (model X.prog X.w) X.A (setItem ov iv u) (λ_ s'=>∃H',Inv X pins σ H' s'/\Q H') X.xe s
section
variable{X:Cx}{pos:Pos}
def aA(i:Nat):TG:=λv σ H Q=>Q (σ.set i (some v)) H
theorem Qi{i:Nat}{x:Str}(hN:X.N.Nodup)(hi:X.N[i]? = some x)(hx:Loc X.env.scope x)(hf:X.fn x=true\/X.env.scope.names.lookup x=some .local:=by first | exact .inl rfl | exact .inr rfl | assumption):PG X (.Name x pos) (aA i):=by
 intro pins s σ H v u Q I r h
 exact wpAny_assign_Name (eR I hN hi hx r (λs' I'=>⟨_,H,I',h⟩) hf)
def K4:vJ:=λvs σ H Q=>vs=[]/\Q σ H
def tI(t:TG)(u:vJ):vJ:=λvs σ H Q=>∃v r,vs=v::r/\t v σ H λσ' H'=>u r σ' H' Q
theorem cK:i7 X [] K4:=by
 intro pins s σ H vs us Q I r h
 obtain ⟨e,h⟩:=h
 subst e
 cases r
 exact assignInOrder_nil ⟨σ,H,I,h⟩
theorem Ow{e:Expr}{es:List Expr}{t:TG}{u:vJ}(h1:PG X e t)(h2:i7 X es u)(hs:(Fq (e::es) X.env).map (·.2)=assign e X.env::(Fq es X.env).map (·.2):=by rfl):i7 X (e::es) (tI t u):=by
 intro pins s σ H vs us Q I r h
 obtain ⟨v,vr,e1,h⟩:=h
 subst e1
 cases r with
 | cons r rr =>
  rw[hs]
  refine assignInOrder_cons (Hb (h1 pins s σ H _ _ _ I r h) λ_ s1 q0_ => ?_)
  obtain ⟨σ1,H1,I1,q1⟩ := q0_
  exact h2 pins s1 σ1 H1 _ _ Q I1 rr q1
def J1(K:PySem.W.Frag)(n:Nat)(t:vJ):TG:=λv σ H Q=>∃a xs,v=.ref a/\To K H a xs/\xs.length=n/\t xs σ H Q
theorem iS{es:List Expr}{k:Nat}{t:vJ}{n:Nat}(hc:X.calm=true)(h:i7 X es t)(hn:(Fq es X.env).length=n:=by rfl)(hst:(Fq es X.env).findIdx? (·.1)=none:=by rfl):PG X (.Tuple es k pos) (J1 X.K n t):=by
 intro pins s σ H v u Q I r hw
 obtain ⟨a,xs,e1,hq,hl,hw⟩:=hw
 subst e1
 cases r
 obtain ⟨its,rv,ht,hz⟩:=I.tuple hq
 refine assign_Tuple_tuple (I.ok.hd hc) ht (by simp [hn,<- hl,rv.length]) hst λh' hx=>?_
 have I1:Inv X pins σ H { s with heap:=h' }:=I.kept (t':=s.toks) λb o e=>hx b o (Cp (Bc e)) e
 exact h pins _ σ H xs _ Q I1 (by simpa using rv) hw
def R1(to ti:TE)(t:o5):TG:=λv σ H Q=>to σ H λo H1=>ti σ H1 λi H2=>t o i v H2 λH3=>Q σ H3
theorem iZ{o i:Expr}{to ti:TE}{t:o5}(ho:PE X o to)(hi:PE X i ti)(hs:N7 X t)
  (ha:∀v,assign (.Subscript o i pos) X.env v=(do
   let ov <- Lc [v] (eval o X.env)
   let iv <- Lc [v,ov] (eval i X.env)
   standAt pos
   Lc [v,ov,iv] (setItem ov iv v)
   release [v,ov,iv] []):=by intro _; rfl):PG X (.Subscript o i pos) (R1 to ti t):=by
 intro pins s σ H v u Q I r h
 rw[ha]
 refine Ac (Ef (Hb (ho pins s σ H _ I h) λov s1 q0_ => ?_))
 obtain ⟨x,H1,I1,r1,q1⟩ := q0_
 refine Ac (Ef (Hb (hi pins s1 σ H1 _ I1 q1) λiv s2 q0_ => ?_))
 obtain ⟨y,H2,I2,r2,q2⟩ := q0_
 refine Ac (wpAny_standAt (Ac (Ef (Hb (hs pins s2 σ H2 x y v ov iv u _ I2 r1 r2 r q2) λ_ s3 q0_ => ?_))))
 obtain ⟨H3,I3,q3⟩ := q0_
 exact wpAny_release ⟨σ,H3,I3,q3⟩
def w4(te:TE)(g:TG):TS:=λD σ H=>te σ H λx H1=>g x σ H1 D.nx
theorem aZ{tg e:Expr}{te:TE}{g:TG}(he:PE X e te)(hg:PG X tg g)(hs:swapsWithSole [tg] e pos.line X.env=pure false:=by rfl)(hw:swappedStores [tg] e X.env=pure none:=by rfl)(h1:(Fq [tg] X.env).map (·.2)=[assign tg X.env]:=by rfl):PS X (.Assign [tg] e pos) (w4 te g):=by
 intro pins s σ H D I h
 refine wpAny_Assign_stores (Hb (he pins s σ H _ I h) λv s1 ⟨x,H1,I1,r1,q1⟩=>?_) hs hw
 rw[h1]
 exact Hb (hg pins s1 σ H1 x v _ I1 r1 q1) λ_ s2 q=>q
theorem Uu{i:Nat}{x:Str}{e:Expr}{te:TE}{pos':Pos}(hN:X.N.Nodup)(hi:X.N[i]? = some x)(hx:Loc X.env.scope x)(he:PE X e te)(hs:Oh e (some (.Name x pos')) pos.line X.env=pure false:=by rfl)(hf:X.fn x=true\/X.env.scope.names.lookup x=some .local:=by first | exact .inl rfl | exact .inr rfl | assumption):PS X (.Assign [.Name x pos'] e pos) (w4 te (aA i)):=by
 intro pins s σ H D I h
 refine wpAny_Assign_Name (Hb (he pins s σ H _ I h) λv s1 ⟨y,H1,I1,r1,q1⟩=>?_) hs
 exact eR I1 hN hi hx r1 (λs2 I2=>⟨_,H1,I2,q1⟩) hf
end
structure It where
 go:Nat->Hp->Prop
 yld:Nat->Hp->V->Hp->Prop
 stop:Nat->Hp->Prop
def Pr(X:Cx)(pins:List (Addr×Obj))(H:Hp)(b:Addr):Prop :=
 H b=none/\b≠X.env.locals/\b∉X.fs/\(b∈X.ex\/X.s₀.heap.objs.size<=b)/\(∀x c,X.env.cells.lookup x=some c->c≠b)/\∀p∈X.pn++pins,p.1≠b
theorem Inv.fpOk{X:Cx}{pins:List (Addr×Obj)}{σ:St}{H H':Hp}{s:Aj}{b:Addr}(I:Inv X pins σ H s)(hb:s.heap.objs.size<=b)(hn:H' b=none):Pr X pins H' b:=by
 refine ⟨hn,Nat.ne_of_gt (Bp I.lt hb),I.nofs hb,.inr (Bm I.sz hb),λx c e z=>?_,λp hp z=>?_⟩
 ·obtain ⟨v,q⟩:=I.cell x c e
  exact absurd (Bp q.lt (by rw[z]; exact hb)) (Gj _)
 ·exact absurd (Bp (Bc (I.pin p hp).1) (by rw[z]; exact hb)) (Gj _)
structure Turn(P:Bu)(w:World)(K:PySem.W.Frag)(tg:Expr)(J:It)(fp:List Addr)(it:Addr)(tn:Nat->Heap->Prop):Prop where
 mem:it∈fp
 obj:∀i h,tn i h->∀b∈fp,∃o,h.get? b=some o/\∀v,o.data≠.cell v
 keep:∀i h h',tn i h->(∀b∈fp,∀o,h.get? b=some o->h'.get? b=some o)->tn i h'
 item:∀(X:Cx),X.prog=P->X.w=w->X.K=K->X.calm=true->∀(i:Nat) (pins:List (Addr×Obj)) (s:Aj) (σ:St) (H:Hp) (E:Value->Aj->Prop),Inv X pins σ H s->(∀b∈fp,Pr X pins H b)->tn i s.heap->J.go i H ->
  wpAny (model P w) X.A (Sb (.ref it)) (λr s1=>∃u,r=some u /\
   wpAny (model P w) X.A (Tf tg (.ref it) u) (λ_ s2=>∃x H',Inv X pins σ H' s2/\RelV x u/\J.yld i H x H'/\tn (i+1) s2.heap/\∀b∈fp,H' b=none) E s1) E s
 done:∀(X:Cx),X.prog=P->X.w=w->X.K=K->X.calm=true->∀(i:Nat) (pins:List (Addr×Obj)) (s:Aj) (σ:St) (H:Hp) (E:Value->Aj->Prop),Inv X pins σ H s->(∀b∈fp,Pr X pins H b)->tn i s.heap->J.stop i H ->
  wpAny (model P w) X.A (Sb (.ref it)) (λr s1=>r=none/\Inv X pins σ H s1) E s
 self:∀(A:Df) (i:Nat) (s:Aj) (Q:Value->Aj->Prop) (E:Value->Aj->Prop),tn i s.heap->Q (.ref it) s->wpAny (model P w) A (pyIter (.ref it)) Q E s
abbrev TI:=St->Hp->(It->Hp->Prop)->Prop
def U9(X:Cx)(pins:List (Addr×Obj))(σ:St)(tg:Expr)(R:It->Hp->Prop)(itv:Value)(s2:Aj):Prop :=
 ∃(it:Addr) (fp:List Addr) (tn:Nat->Heap->Prop) (J:It) (H':Hp),itv=.ref it/\Inv X pins σ H' s2/\Turn X.prog X.w X.K tg J fp it tn/\tn 0 s2.heap/\(∀b∈fp,Pr X pins H' b)/\R J H'
def PI(X:Cx)(tg iter:Expr)(wi:TI):Prop :=
 ∀(pins:List (Addr×Obj)) (s:Aj) (σ:St) (H:Hp) (R:It->Hp->Prop),Inv X pins σ H s->wi σ H R ->
  wpAny (model X.prog X.w) X.A (eval iter X.env) (λv s1=>wpAny (model X.prog X.w) X.A (pyIter v) (U9 X pins σ tg R) X.xe s1) X.xe s
theorem kQ{M:Model}{A:Df}{E:Value->Aj->Prop}{s:Aj}{tg:Expr}{it:Addr}{u:Value}{o:Obj}{n:String}{vs:Array Value}{Q:Unit->Aj->Prop}(ho:s.heap.get? it=some o)(hc:o.cls=.type n)(hd:o.data=.fields vs)(hn:["enumerate", "zip", "dict_itemiterator", "dict_reverseitemiterator", "odict_iterator", "itertools.zip_longest", "itertools.pairwise"].contains n=false)(hQ:Q () s):wpAny M A (Tf tg (.ref it) u) Q E s:=by
  unfold Tf
  cases tg <;> first
    | exact Al hQ
    | (cases u <;> first
        | exact Al hQ
        | (refine Ac (wpAny_load ho ?_)
           rw[hc,hd]
           show wpAny M A (if (["enumerate", "zip", "dict_itemiterator", "dict_reverseitemiterator", "odict_iterator", "itertools.zip_longest", "itertools.pairwise"].contains n && vs[0]? == some (La _))=true then _ else _) Q E s
           rw[if_neg (by intro h; rw[hn,Bool.false_and] at h; cases h)]
           exact Al hQ))
def T1(K:PySem.W.Frag)(a:Addr):It :=
 ⟨λi H=>∃xs x,Oy K H a xs/\xs[i]? = some x,λi H x H'=>H'=H/\∀xs,Oy K H a xs->xs[i]? = some x,λi H=>∃xs,Oy K H a xs/\xs.length<=i⟩
def S7(K:PySem.W.Frag)(a:Addr):It :=
 ⟨λi H=>∃xs x,To K H a xs/\xs[i]? = some x,λi H x H'=>H'=H/\∀xs,To K H a xs->xs[i]? = some x,λi H=>∃xs,To K H a xs/\xs.length<=i⟩
def E5(lo:Int)(n:Nat):It:=⟨λi _=>i<n,λi H x H'=>H'=H/\x=.int (lo+i),λi _=>n<=i⟩
theorem mT{P:Bu}{w:World}{K:PySem.W.Frag}{tg:Expr}(a it:Addr):Turn P w K tg (T1 K a) [it] it (λi h=>h.IsListIter it a i) where
 mem:=by simp
 obj:=λi h st b hb=>by
  have e:b=it:=by simpa using hb
  subst e
  obtain ⟨o,e,c,d⟩:=st
  exact ⟨o,e,λv z=>by rw[d] at z; cases z⟩
 keep:=λi h h' st k=>st.at λo e=>k it (by simp) o e
 item:=by
  intro X hP hw hK hc i pins s σ H E I hf st hg
  subst hP hw hK
  obtain ⟨xs,x,hq,hx⟩:=hg
  obtain ⟨its,rv,p,hz⟩:=I.list hq
  obtain ⟨u,hu,ru⟩:=rv.get hx
  obtain ⟨f0,f1,f2,f3,f4,f5⟩:=hf it (by simp)
  refine uM st p.isList (x:=u) (by simpa using hu) λh' st' sb=>?_
  have I1:Inv X pins σ H { s with heap:=h' }:=I.turned (t':=s.toks) (λb o hb e=>(sb.2 b hb).trans e) f0 f1 f3 f4 f5
  obtain ⟨o,e,c,d⟩:=id st'
  exact ⟨u,rfl,kQ (s:={ s with heap:=h' }) e c d (by decide) ⟨x,H,I1,ru,⟨rfl,λys hy=>by rw[I.list_inj hy hq]; exact hx⟩,st',λb hb=>(hf b hb).1⟩⟩
 done:=by
  intro X hP hw hK hc i pins s σ H E I hf st hg
  subst hP hw hK
  obtain ⟨xs,hq,hx⟩:=hg
  obtain ⟨its,rv,p,hz⟩:=I.list hq
  obtain ⟨f0,f1,f2,f3,f4,f5⟩:=hf it (by simp)
  have hl:=rv.length
  exact wpAny_pyNext_list_end (I.ok.hd hc) st p.isList (by simp; omega) λh' eb=>⟨rfl,I.turned (t':=s.toks) (λb o hb e=>eb b o hb e) f0 f1 f3 f4 f5⟩
 self:=λ_ _ _ _ _ st h=>wpAny_pyIter_listiter st h
theorem jO{P:Bu}{w:World}{K:PySem.W.Frag}{tg:Expr}(a it:Addr):Turn P w K tg (S7 K a) [it] it (λi h=>h.IsTupleIter it a i) where
 mem:=by simp
 obj:=λi h st b hb=>by
  have e:b=it:=by simpa using hb
  subst e
  obtain ⟨o,e,c,d⟩:=st
  exact ⟨o,e,λv z=>by rw[d] at z; cases z⟩
 keep:=λi h h' st k=>st.at λo e=>k it (by simp) o e
 item:=by
  intro X hP hw hK hc i pins s σ H E I hf st hg
  subst hP hw hK
  obtain ⟨xs,x,hq,hx⟩:=hg
  obtain ⟨its,rv,p,hz⟩:=I.tuple hq
  obtain ⟨u,hu,ru⟩:=rv.get hx
  obtain ⟨f0,f1,f2,f3,f4,f5⟩:=hf it (by simp)
  refine uD st (show s.heap.IsTuple a its.toArray from p) (x:=u) (by simpa using hu) λh' st' sb=>?_
  have I1:Inv X pins σ H { s with heap:=h' }:=I.turned (t':=s.toks) (λb o hb e=>(sb.2 b hb).trans e) f0 f1 f3 f4 f5
  obtain ⟨o,e,c,d⟩:=id st'
  exact ⟨u,rfl,kQ (s:={ s with heap:=h' }) e c d (by decide) ⟨x,H,I1,ru,⟨rfl,λys hy=>by rw[I.tuple_inj hy hq]; exact hx⟩,st',λb hb=>(hf b hb).1⟩⟩
 done:=by
  intro X hP hw hK hc i pins s σ H E I hf st hg
  subst hP hw hK
  obtain ⟨xs,hq,hx⟩:=hg
  obtain ⟨its,rv,p,hz⟩:=I.tuple hq
  obtain ⟨f0,f1,f2,f3,f4,f5⟩:=hf it (by simp)
  have hl:=rv.length
  exact uL (I.ok.hd hc) st (show s.heap.IsTuple a its.toArray from p) (by simp; omega) λh' eb=>⟨rfl,I.turned (t':=s.toks) (λb o hb e=>eb b o hb e) f0 f1 f3 f4 f5⟩
 self:=λ_ _ _ _ _ st h=>wpAny_pyIter_tupleiter st h
theorem iM{P:Bu}{w:World}{K:PySem.W.Frag}{tg:Expr}(it:Addr)(lo:Int)(n:Nat):Turn P w K tg (E5 lo n) [it] it (λi h=>IsRangeIter h it (lo+(i:Nat) * 1) ((n:Int) - (i:Nat)) 1) where
 mem:=by simp
 obj:=λi h st b hb=>by
  have e:b=it:=by simpa using hb
  subst e
  exact ⟨_,st,λv z=>by
   have z':Data.fields _=Data.cell v:=z
   cases z'⟩
 keep:=λi h h' st k=>k it (by simp) _ st
 item:=by
  intro X hP hw hK hc i pins s σ H E I hf st hg
  subst hP hw hK
  obtain ⟨f0,f1,f2,f3,f4,f5⟩:=hf it (by simp)
  have W:=Walks.range (prog:=X.prog) (w:=X.w) (I.ok.hd hc) it lo 1 n
  refine W.item i s _ _ hg st λv h' tk hv st' kk=>?_
  obtain ⟨t,rfl⟩:=hv
  have I1:Inv X pins σ H { s with heap:=h',toks:=tk }:=I.turned (λb o hb e=>kk b o (by simpa using hb) e) f0 f1 f3 f4 f5
  refine ⟨_,rfl,kQ (s:={ s with heap:=h',toks:=tk }) (n := "range_iterator") st' rfl rfl (by decide) ⟨.int (lo+i),H,I1,⟨t,?_⟩,⟨rfl,rfl⟩,st',λb hb=>(hf b hb).1⟩⟩
  rw[Int.mul_one]
 done:=by
  intro X hP hw hK hc i pins s σ H E I hf st hg
  subst hP hw hK
  obtain ⟨f0,f1,f2,f3,f4,f5⟩:=hf it (by simp)
  exact wpAny_pyNext_range_end (I.ok.hd hc) st (by have : n<=i:=hg; omega) λh' eb=>⟨rfl,I.turned (t':=s.toks) (λb o hb e=>eb b o hb e) f0 f1 f3 f4 f5⟩
 self:=λ_ _ _ _ _ st h=>wpAny_pyIter_rangeiter st h
section
variable{X:Cx}{tg:Expr}
def J3(K:PySem.W.Frag)(tl:TE):TI:=λσ H R=>tl σ H λx H1=>∃a,x=.ref a/\(∃xs,Oy K H1 a xs)/\R (T1 K a) H1
def R9(K:PySem.W.Frag)(tl:TE):TI:=λσ H R=>tl σ H λx H1=>∃a,x=.ref a/\(∃xs,To K H1 a xs)/\R (S7 K a) H1
theorem vT{l:Expr}{tl:TE}(hl:PE X l tl):PI X tg l (J3 X.K tl):=by
 intro pins s σ H R I h
 refine Hb (hl pins s σ H _ I h) λv s1 q0_ => ?_
 obtain ⟨x,H1,I1,r1,q1⟩ := q0_
 obtain ⟨a,e,⟨xs,hq⟩,q⟩:=q1
 subst e
 cases r1
 obtain ⟨its,rv,p,hz⟩:=I1.list hq
 refine aU p.isList ?_
 refine ⟨s1.heap.objs.size,[s1.heap.objs.size],_,_,H1,rfl,I1.kept (t':=s1.toks) λb o e=>Ag _ e,mT a _,⟨_,Ay _ rfl,rfl,rfl⟩,λb hb=>?_,q⟩
 have e:b=s1.heap.objs.size:=by simpa using hb
 subst e
 exact I1.fpOk (Ah _) (I1.hok.fresh (Ah _))
theorem d0{l:Expr}{tl:TE}(hl:PE X l tl):PI X tg l (R9 X.K tl):=by
 intro pins s σ H R I h
 refine Hb (hl pins s σ H _ I h) λv s1 q0_ => ?_
 obtain ⟨x,H1,I1,r1,q1⟩ := q0_
 obtain ⟨a,e,⟨xs,hq⟩,q⟩:=q1
 subst e
 cases r1
 obtain ⟨its,rv,p,hz⟩:=I1.tuple hq
 refine wpAny_pyIter_tuple (show s1.heap.IsTuple a its.toArray from p) ?_
 refine ⟨s1.heap.objs.size,[s1.heap.objs.size],_,_,H1,rfl,I1.kept (t':=s1.toks) λb o e=>Ag _ e,jO a _,⟨_,Ay _ rfl,rfl,rfl⟩,λb hb=>?_,q⟩
 have e:b=s1.heap.objs.size:=by simpa using hb
 subst e
 exact I1.fpOk (Ah _) (I1.hok.fresh (Ah _))
theorem pW{pins:List (Addr×Obj)}{σ:St}{H:Hp}{s:Aj}{R:It->Hp->Prop}{E:Value->Aj->Prop}{lo hi:Int}{t u v:Tok}{tk:Nat}(I:Inv X pins σ H s)(h1:-(2 ^ 62)<=lo)(h2:lo<2 ^ 62)(h3:-(2 ^ 62)<=hi)(h4:hi<2 ^ 62)(q:R (E5 lo (hi - lo).toNat) H):wpAny (model X.prog X.w) X.A (pyIter (.ref s.heap.objs.size)) (U9 X pins σ tg R) E { s with heap:=s.heap.push { cls:=.type "range",data:=.fields #[.int lo t,.int hi u,.int 1 v] },toks:=tk }:=by
 refine wpAny_pyIter_range (IsRange.new ..) (small_one h1 h2 h3 h4) ?_
 have I1:Inv X pins σ H { s with heap:=s.heap.push { cls:=.type "range",data:=.fields #[.int lo t,.int hi u,.int 1 v] },toks:=tk }:=I.kept λb o e=>Ag _ e
 refine ⟨(s.heap.push { cls:=.type "range",data:=.fields #[.int lo t,.int hi u,.int 1 v] }).objs.size,[(s.heap.push { cls:=.type "range",data:=.fields #[.int lo t,.int hi u,.int 1 v] }).objs.size],_,_,H,rfl,
  I1.kept (t':=tk) λb o e=>Ag _ e,iM _ lo (hi - lo).toNat,?_,λb hb=>?_,q⟩
 ·have e1:lo+((0:Nat):Int) * 1=lo:=by simp
  have e2:(((hi - lo).toNat:Nat):Int) - ((0:Nat):Int)=Hz lo hi 1:=by rw[rangeSize_one]; split <;> omega
  show IsRangeIter _ _ (lo+((0:Nat):Int) * 1) ((((hi - lo).toNat:Nat):Int) - ((0:Nat):Int)) 1
  rw[e1,e2]
  exact Ay _ rfl
 ·have e:b=(s.heap.push { cls:=.type "range",data:=.fields #[.int lo t,.int hi u,.int 1 v] }).objs.size:=by simpa using hb
  subst e
  exact I1.fpOk (Ah _) (I1.hok.fresh (Ah _))
def G4(ta:TA):TI:=λσ H R=>ta σ H λvs H1=>∃j:Int,vs=[.int j] /\ -(2 ^ 62)<=j/\j<2 ^ 62/\R (E5 0 j.toNat) H1
theorem pB{a:Expr}{ta:TA}{p pos:Pos}(hg:Gl X "range")(hm:X.mg "range" = none)(ha:PA X [a] ta)(hs:Bd [a] X.env=[(false,eval a X.env)]:=by rfl):PI X tg (.Call (.Name "range" p) [a] [] pos) (G4 ta):=by
 intro pins s σ H R I h
 refine Call_ (Xi I hg hm boot_range (Kq (Hb (ha pos pins s σ H _ I h) λus s1 ⟨vs,H1,I1,r1,q1⟩=>?_) hs rfl))
 obtain ⟨j,e,q1,q2,q⟩:=q1
 subst e
 cases r1 with
 | cons r rr =>
  cases rr
  obtain ⟨t,rfl⟩:=r
  exact call_range_1 (pW I1 (by omega) (by omega) q1 q2 (by simpa using q))
def Q6(wi:TI)(g:TG)(tb:TS):TS:=λD σ H=>wi σ H λJ H1=>∃W:Nat->Nat->St->Hp->Prop,(∃m,W 0 m σ H1)/\∀i m σ H,W i m σ H ->
 (J.stop i H/\D.nx σ H)\/(J.go i H/\∃N:St->Hp->Prop,(∀σ' H',N σ' H'->∃m',m'<m/\W (i+1) m' σ' H')/\∀x H',J.yld i H x H'->g x σ H' λσ2 H2=>tb { D with nx:=N,ct:=N,bk:=D.nx } σ2 H2)
def Tx(fp:List Addr)(h:Heap):List (Addr×Obj):=fp.filterMap λb=>(h.get? b).map λo=>(b,o)
theorem Jt{fp:List Addr}{h:Heap}{b:Addr}{o:Obj}(hb:b∈fp)(e:h.get? b=some o):(b,o)∈Tx fp h:=Ha.mpr ⟨b,hb,by rw[e]; rfl⟩
theorem mV{fp:List Addr}{h:Heap}{p:Addr×Obj}(hp:p∈Tx fp h):p.1∈fp/\h.get? p.1=some p.2:=by
 obtain ⟨b,hb,e⟩:=Ha.mp hp
 cases q:h.get? b with
 | none=>rw[q] at e; cases e
 | some o =>
  rw[q] at e
  have e':(b,o)=p:=Ca e
  subst e'
  exact ⟨hb,q⟩
theorem Inv.pinned{pins:List (Addr×Obj)}{σ:St}{H:Hp}{s:Aj}{fp:List Addr}(I:Inv X pins σ H s)(hf:∀b∈fp,Pr X pins H b)(ho:∀b∈fp,∃o,s.heap.get? b=some o/\∀v,o.data≠.cell v):Inv X (pins++Tx fp s.heap) σ H s :=
 I.pins_of λp hp=>(Bg.mp hp).elim (λz=>I.pin p (Ap _ z)) λz=>by
  obtain ⟨hb,e⟩:=mV z
  obtain ⟨f0,f1,f2,_⟩:=hf p.1 hb
  obtain ⟨o,e',d⟩:=ho p.1 hb
  rw[e] at e'; cases e'
  exact ⟨e,f0,f1,f2,d⟩
theorem Inv.unpinned{pins pl:List (Addr×Obj)}{σ:St}{H:Hp}{s:Aj}(I:Inv X (pins++pl) σ H s):Inv X pins σ H s:=I.pins_of λp hp=>I.pin p (Ap _ (An _ hp))
theorem qR{iter:Expr}{body:List Stmt}{wi:TI}{g:TG}{tb:TS}{pos:Pos}(hp:PassesOwn (model X.prog X.w) X.A X.env X.xe)(hc:X.calm=true)(hi:PI X tg iter wi)(hg:PG X tg g)(hb:jI X body tb)(hs:∀x,Gn iter X.env x=pure x:=by intro _; rfl):PS X (.For tg iter body [] pos) (Q6 wi g tb):=by
 intro pins s σ H D I h
 refine wpAny_For (Hb (hi pins s σ H _ I h) λv s1 h1=>Hb h1 λitv s2 h2=>?_) hs
 obtain ⟨it,fp,tn,J,H2,e,I2,T,st2,f2,W,⟨m0,w0⟩,turn⟩:=h2
 subst e
 -- what stays true of the iterator's objects through the loop
 have stat:∀{H':Hp},(∀b∈fp,H' b=none)->∀b∈fp,Pr X pins H' b:=λhn b hb=>⟨hn b hb,(f2 b hb).2⟩
 refine codeAny_forLoop_any (λn s'=>∃i σ' H',Inv X pins σ' H' s'/\tn i s'.heap/\(∀b∈fp,H' b=none)/\W i n σ' H') ?_ m0 ⟨0,σ,H2,I2,st2,λb hb=>(f2 b hb).1,w0⟩
 (intro n s3 q_; obtain ⟨i,σ3,H3,I3,uG,fr3,w3⟩ := q_)
 rcases turn i n σ3 H3 w3 with ⟨stop,qn⟩ | ⟨go,N,hN,step⟩
 ·refine Nb hp (Hb (T.done X rfl rfl rfl hc i pins s3 σ3 H3 X.xe I3 (stat fr3) uG stop) λr s4 q0_ => ?_)
  obtain ⟨hr,I4⟩ := q0_
  subst hr
  exact wpAny_execs_nil ⟨σ3,H3,I4,qn⟩
 ·refine Nb hp (Hb (T.item X rfl rfl rfl hc i pins s3 σ3 H3 X.xe I3 (stat fr3) uG go) λr s4 q0_ => ?_)
  obtain ⟨u,hr,h4⟩ := q0_
  subst hr
  refine Nb hp (Hb h4 λ_ s5 q0_ => ?_)
  obtain ⟨x,H5,I5,r5,y5,st5,fr5⟩ := q0_
  have I5':=I5.pinned (stat fr5) (T.obj _ _ st5)
  refine Nb hp (Hb (hg _ s5 σ3 H5 x u _ I5' r5 (step x H5 y5)) λ_ s6 q0_ => ?_)
  obtain ⟨σ6,H6,I6,q6⟩ := q0_
  refine Nb hp (Hb (hb _ s6 σ6 H6 _ I6 q6) λf s7 q7=>?_)
  have again:∀{σ7:St} {H7:Hp},Inv X (pins++Tx fp s5.heap) σ7 H7 s7->N σ7 H7->∃m,m<n/\∃i σ' H',Inv X pins σ' H' s7/\tn i s7.heap/\(∀b∈fp,H' b=none)/\W i m σ' H':=λ{σ7 H7} I7 n7=>by
   obtain ⟨m',hm,w7⟩:=hN σ7 H7 n7
   refine ⟨m',hm,i+1,σ7,H7,I7.unpinned,T.keep _ _ _ st5 λb hb o e=>(I7.pin (b,o) (Ap _ (Ap _ (Jt hb e)))).1,λb hb=>?_,w7⟩
   obtain ⟨o,e,d⟩:=T.obj _ _ st5 b hb
   exact (I7.pin (b,o) (Ap _ (Ap _ (Jt hb e)))).2.1
  cases f with
  | next=>obtain ⟨σ7,H7,I7,n7⟩:=q7; exact again I7 n7
  | cont=>obtain ⟨σ7,H7,I7,n7⟩:=q7; exact again I7 n7
  | brk=>obtain ⟨σ7,H7,I7,q7⟩:=q7; exact ⟨σ7,H7,I7.unpinned,q7⟩
  | ret v=>obtain ⟨x7,σ7,H7,I7,r7,q7⟩:=q7; exact ⟨x7,σ7,H7,I7.unpinned,r7,q7⟩
end
abbrev R2:=V->V->Hp->VK->Prop
def Uj(X:Cx)(f:Value->Value->Sem Value)(r:R2):Prop :=
 ∀(pins:List (Addr×Obj)) (s:Aj) (σ:St) (H:Hp) (x y:V) (v u:Value) (Q:VK),Inv X pins σ H s->RelV x v->RelV y u->r x y H Q ->
  wpAny (model X.prog X.w) X.A (f v u) (EP X pins σ Q) X.xe s
def Jn(X:Cx)(f:Value)(r:List V->Hp->VK->Prop):Prop :=
 ∀(pins:List (Addr×Obj)) (s:Aj) (σ:St) (H:Hp) (xs:List V) (us:List Value) (Q:VK),Inv X pins σ H s->Ek xs us->r xs H Q ->
  wpAny (model X.prog X.w) X.A (call f us) (EP X pins σ Q) X.xe s
def Q3(X:Cx)(r:V->Hp->(Bool->Hp->Prop)->Prop):Prop :=
 ∀(pins:List (Addr×Obj)) (s:Aj) (σ:St) (H:Hp) (x:V) (v:Value) (Q:Bool->Hp->Prop),Inv X pins σ H s->RelV x v->r x H Q ->
  wpAny (model X.prog X.w) X.A (truthy v) (TP X pins σ Q) X.xe s
def L4(r:R2)(ta tb:TE):TE:=λσ H Q=>ta σ H λx H1=>tb σ H1 λy H2=>r x y H2 Q
def rI(C:Int->Int->Prop)(g:Int->Int->V):R2:=λx y H Q=>∃i j,x=.int i/\y=.int j/\C i j/\Q (g i j) H
def xO(g:Int->Int->V):R2:=λx y H Q=>∃i j,x=.int i/\y=.int j/\Q (g i j) H
section
variable{X:Cx}{a b c:Expr}{ta tb tc:TE}{pos:Pos}
theorem w8(ha:PE X a ta)(hb:PE X b tb){pins:List (Addr×Obj)}{s:Aj}{σ:St}{H:Hp}{R:V->V->Hp->Prop}(I:Inv X pins σ H s)(h:ta σ H λx H1=>tb σ H1 λy H2=>R x y H2){Q:Value->Aj->Prop}{f:Value->Value->Sem Value}(hf:∀v u s2 x y H2,Inv X pins σ H2 s2->RelV x v->RelV y u->R x y H2->wpAny (model X.prog X.w) X.A (f v u) Q X.xe s2):wpAny (model X.prog X.w) X.A (eval a X.env) (λv s₁=>wpAny (model X.prog X.w) X.A (eval b X.env) (λu s₂=>wpAny (model X.prog X.w) X.A (f v u) Q X.xe s₂) X.xe s₁) X.xe s:=by
 refine Hb (ha pins s σ H _ I h) λv s1 q0_ => ?_
 obtain ⟨x,H1,I1,r1,q1⟩ := q0_
 refine Hb (hb pins s1 σ H1 _ I1 q1) λu s2 q0_ => ?_
 obtain ⟨y,H2,I2,r2,q2⟩ := q0_
 exact hf v u s2 x y H2 I2 r1 r2 q2
theorem Iu{op:Operator}{r:R2}(ho:Uj X (Iz op) r)(ha:PE X a ta)(hb:PE X b tb):PE X (.BinOp a op b pos) (L4 r ta tb):=by
 intro pins s σ H Q I h
 exact wpAny_BinOp (w8 ha hb I h λv u s2 x y H2 I2 rx ry q=>ho pins s2 σ H2 x y v u Q I2 rx ry q)
theorem O9{f:Value->Value->Sem Value}{C:Int->Int->Prop}{g:Int->Int->Int}(rule:∀(i j:Int) (t u:Tok) (s:Aj) (Q:Value->Aj->Prop) (E:Value->Aj->Prop),C i j->Q (.int (g i j) s.toks) { s with toks:=s.toks+1 }->wpAny (model X.prog X.w) X.A (f (.int i t) (.int j u)) Q E s):Uj X f (rI C λi j=>.int (g i j)):=by
 intro pins s σ H x y v u Q I rx ry h
 obtain ⟨i,j,rfl,rfl,hc,q⟩:=h
 obtain ⟨t,rfl⟩:=rx
 obtain ⟨t',rfl⟩:=ry
 exact rule i j t t' s _ _ hc ⟨.int (g i j),H,I.tok _,⟨_,rfl⟩,q⟩
theorem G9{f:Value->Value->Sem Value}{g:Int->Int->Int}(rule:∀(i j:Int) (t u:Tok) (s:Aj) (Q:Value->Aj->Prop) (E:Value->Aj->Prop),Q (.int (g i j) s.toks) { s with toks:=s.toks+1 }->wpAny (model X.prog X.w) X.A (f (.int i t) (.int j u)) Q E s):Uj X f (xO λi j=>.int (g i j)):=by
 intro pins s σ H x y v u Q I rx ry h
 obtain ⟨i,j,rfl,rfl,q⟩:=h
 obtain ⟨t,rfl⟩:=rx
 obtain ⟨t',rfl⟩:=ry
 exact rule i j t t' s _ _ ⟨.int (g i j),H,I.tok _,⟨_,rfl⟩,q⟩
theorem q8{f:Value->Value->Sem Value}{g:Int->Int->Bool}(rule:∀(i j:Int) (t u:Tok) (s:Aj) (Q:Value->Aj->Prop) (E:Value->Aj->Prop),Q (.bool (g i j)) s->wpAny (model X.prog X.w) X.A (f (.int i t) (.int j u)) Q E s):Uj X f (xO λi j=>.bl (g i j)):=by
 intro pins s σ H x y v u Q I rx ry h
 obtain ⟨i,j,rfl,rfl,q⟩:=h
 obtain ⟨t,rfl⟩:=rx
 obtain ⟨t',rfl⟩:=ry
 exact rule i j t t' s _ _ ⟨.bl (g i j),H,I,rfl,q⟩
def x5(i j:Int):Prop:=0<j/\j<1073741824
def P5(i j:Int):Prop:=0<=j/\j<=1000000/\i.natAbs<2 ^ 64
def K9(i j:Int):Prop:=(-(2 ^ 64)<i/\i<2 ^ 64)\/(-(2 ^ 64)<j/\j<2 ^ 64)
theorem K9.ok{i j:Int}(h:K9 i j):IntMulOk i j:=by
 rcases h with ⟨h1,h2⟩ | ⟨h1,h2⟩
 ·exact .of_left (intBits_le_64 h1 h2)
 ·exact .of_right (intBits_le_64 h1 h2)
theorem Wt:Uj X (Iz .Add) (xO λi j=>.int (i+j)):=G9 λ_ _ _ _ _ _ _ q=>add_int q
theorem h9:Uj X (Iz .Sub) (xO λi j=>.int (i - j)):=G9 λ_ _ _ _ _ _ _ q=>sub_int q
theorem Yo:Uj X (Iz .Mult) (rI K9 λi j=>.int (i * j)):=O9 λ_ _ _ _ _ _ _ hc q=>mul_int q hc.ok
theorem bT:Uj X (Iz .FloorDiv) (rI x5 λi j=>.int (i / j)):=O9 λi j _ _ _ _ _ hc q=>by
 have h1:(0:Int)<j:=hc.1
 have h2:j<1073741824:=hc.2
 exact floordiv_int (by omega) (by rw[Int.fdiv_eq_ediv_of_nonneg i (by omega)]; exact q) (.inl (PyProof.noPylong_small (by omega)))
theorem Uk:Uj X (Iz .Mod) (rI (λ_ j=>0<j) λi j=>.int (i % j)):=O9 λi j _ _ _ _ _ hc q=>by
 have h1:(0:Int)<j:=hc
 exact mod_int' (by omega) (by rw[Int.fmod_eq_emod_of_nonneg i (by omega)]; exact q)
theorem jB:Uj X (Iz .Pow) (rI P5 λi j=>.int (i ^ j.toNat)):=O9 λ_ _ _ _ _ _ _ hc q=>pow_int_small hc.1 hc.2.1 hc.2.2 q
end
section
variable{X:Cx}{a b c:Expr}{ta tb tc:TE}{pos:Pos}
theorem e8{pins:List (Addr×Obj)}{σ:St}{H:Hp}{s:Aj}{Q:VK}{k k':Bool}(I:Inv X pins σ H s)(q:Q (.bl k) H)(e:k=k'):EP X pins σ Q (.bool k') s:=by
 subst e
 exact ⟨.bl k,H,I,rfl,q⟩
theorem N9:Uj X (Hf .Lt) (xO λi j=>.bl (decide (i<j))):=q8 λ_ _ _ _ _ _ _ q=>lt_int q
theorem K6:Uj X (Hf .Gt) (xO λi j=>.bl (decide (j<i))):=q8 λ_ _ _ _ _ _ _ q=>gt_int q
theorem yI:Uj X (Hf .GtE) (xO λi j=>.bl (decide (j<=i))):=q8 λ_ _ _ _ _ _ _ q=>ge_int q
theorem oK:Uj X (Hf .In) (λx y H Q=>∃i j,x=.str i/\y=.str j/\Q (.bl (!(Bf j i 0 j.length 1).isEmpty)) H):=by
 intro pins s σ H x y v u Q I rx ry h
 obtain ⟨i,j,rfl,rfl,q⟩:=h
 obtain ⟨t,rfl⟩:=rx
 obtain ⟨t',rfl⟩:=ry
 exact in_str (e8 I q rfl)
theorem Ul(b:Expr){op:CmpOp}(h:op≠.In:=by decide)(h2:op≠.NotIn:=by decide):Ff op b=false:=by
 have e1:(op == CmpOp.In)=false:=by cases op <;> first | rfl | exact absurd rfl h
 have e2:(op == CmpOp.NotIn)=false:=by cases op <;> first | rfl | exact absurd rfl h2
 cases b <;> simp [Ff,e1,e2]
theorem mL{op:CmpOp}{r:R2}(ho:Uj X (Hf op) r)(ha:PE X a ta)(hb:PE X b tb)(hm:Ff op b=false):PE X (.Compare a [op] [b] pos) (L4 r ta tb):=by
 intro pins s σ H Q I h
 exact wpAny_Compare1 (w8 ha hb I h λv u s2 x y H2 I2 rx ry q=>ho pins s2 σ H2 x y v u Q I2 rx ry q) hm
def J9(t:TE):TT:=λσ H Q=>t σ H λx H'=>∃k,x=.bl k/\Q k H'
theorem uS{op:CmpOp}{r:R2}(ho:Uj X (Hf op) r)(ha:PE X a ta)(hb:PE X b tb)(hm:Ff op b=false):PT X (.Compare a [op] [b] pos) (J9 (L4 r ta tb)):=by
 intro pins s σ H Q I h
 refine wpAny_isTrue_Compare1 (Hb (ha pins s σ H _ I h) λv s1 ⟨x,H1,I1,r1,q1⟩=>Hb (hb pins s1 σ H1 _ I1 q1) λu s2 ⟨y,H2,I2,r2,q2⟩ =>
  Hb (ho pins s2 σ H2 x y v u _ I2 r1 r2 q2) λc s3 ⟨z,H3,I3,r3,k,e,q3⟩=>?_) hm
 subst e
 cases r3
 exact Gm ⟨H3,I3,q3⟩
def vA(K:PySem.W.Frag)(x:V)(H:Hp)(k:Bool):Prop :=
 match x with
 | .non=>k=false
 | .bl b=>k=b
 | .int i=>k=(i != 0)
 | .str y=>y.length<=Aw/\k=((y.length:Int) != 0)
 | .byt y=>y.size<=Aw/\k=((y.size:Int) != 0)
 | .ref p=>(∃xs,Oy K H p xs/\k = !xs.isEmpty)\/(∃xs,To K H p xs/\k = !xs.isEmpty)\/∃kvs,H p=some (.dK kvs)/\k = !kvs.isEmpty
 | _=>False
theorem iT{κ:Type}{kvs:List (κ×V)}{vs:List (κ×Value)}(r:KV kvs vs):(!vs.isEmpty) = !kvs.isEmpty:=by
 cases r <;> rfl
theorem Yq{xs:List V}{its:List Value}(r:Ek xs its):(!its.toArray.isEmpty) = !xs.isEmpty:=by
 cases r <;> simp
theorem Up:(Aw:Nat)<2 ^ 63:=by rw[Hm]; decide
theorem zP:Q3 X (λx H Q=>∃k,vA X.K x H k/\Q k H):=by
 intro pins s σ H x v Q I rx h
 obtain ⟨k,e,q⟩:=h
 have hl:=Up
 have hs:Aw=16777216:=Hm
 cases x with
 | non =>
  cases rx
  have e':k=false:=e
  subst e'
  exact truthy_none ⟨H,I,q⟩
 | bl b =>
  cases rx
  have e':k=b:=e
  subst e'
  exact Gm ⟨H,I,q⟩
 | int i =>
  obtain ⟨t,rfl⟩:=rx
  have e':k=(i != 0):=e
  subst e'
  exact PySem.P.truthy_int ⟨H,I,q⟩
 | str y =>
  obtain ⟨t,rfl⟩:=rx
  obtain ⟨hy,e'⟩ : y.length<=Aw/\k=((y.length:Int) != 0):=e
  subst e'
  exact PySem.P.truthy_str (by omega) ⟨H,I.tok _,q⟩
 | byt y =>
  obtain ⟨t,rfl⟩:=rx
  obtain ⟨hy,e'⟩ : y.size<=Aw/\k=((y.size:Int) != 0):=e
  subst e'
  exact PySem.W.truthy_bytes (by omega) ⟨H,I.tok _,q⟩
 | ref p =>
  cases rx
  have e':(∃xs,Oy X.K H p xs/\k = !xs.isEmpty)\/(∃xs,To X.K H p xs/\k = !xs.isEmpty)\/∃kvs,H p=some (.dK kvs)/\k = !kvs.isEmpty:=e
  rcases e' with ⟨xs,hx,e'⟩ | ⟨xs,hx,e'⟩ | ⟨kvs,hx,e'⟩
  ·subst e'
   obtain ⟨its,r,pl,hz⟩:=I.list hx
   have hlen:=r.length
   exact wpAny_truthy_list pl.isList (by simp only[Ao]; omega) ⟨H,I.tok _,by rw[Yq r]; exact q⟩
  ·subst e'
   obtain ⟨its,r,pl,hz⟩:=I.tuple hx
   have hlen:=r.length
   exact truthy_tuple pl (by simp only[Ao]; omega) ⟨H,I.tok _,by rw[Yq r]; exact q⟩
  ·subst e'
   obtain ⟨hz,hS,vs,r,m⟩ : kvs.length<=Aw/\(p == sysModules)=false/\∃vs,KV kvs vs/\s.heap.DictOf (bH X.prog X.w) p vs:=I.hok p _ hx
   have hlen:kvs.length=vs.length:=Paired.length r
   exact wpAny_truthy_dict hS m (by omega) ⟨H,I.tok _,by rw[iT r]; exact q⟩
 | _=>exact (show False from e).elim
theorem qD(ha:PE X a ta)(he:∀whole,isTrue a X.env whole=(do let v <- whole; standAt a.pos; Lc [v] (truthy v))) :
  PT X a (λσ H Q=>ta σ H λx H'=>∃k,vA X.K x H' k/\Q k H'):=by
 intro pins s σ H Q I h
 exact isTrue_plain (Hb (ha pins s σ H _ I h) λv s1 ⟨x,H1,I1,r1,q1⟩=>zP pins s1 σ H1 x v Q I1 r1 q1) (he _)
theorem jZ:Uj X (Iz .Add) (λx y H Q=>∃i j,x=.str i/\y=.str j/\i.length+j.length<=Aw/\Q (.str (i++j)) H):=by
 intro pins s σ H x y v u Q I rx ry h
 obtain ⟨i,j,rfl,rfl,hz,q⟩:=h
 obtain ⟨t,rfl⟩:=rx
 obtain ⟨t',rfl⟩:=ry
 exact add_str (λt' tk=>⟨.str (i++j),H,I.tok _,⟨_,rfl⟩,q⟩) hz
theorem vals1{x:V}{us:List Value}(r:Ek [x] us):∃u,us=[u]/\RelV x u:=by
 cases r with
 | cons r1 r2=>cases r2; exact ⟨_,rfl,r1⟩
theorem vals2{x y:V}{us:List Value}(r:Ek [x,y] us):∃u w',us=[u,w']/\RelV x u/\RelV y w':=by
 cases r with
 | cons r1 r2 =>
  cases r2 with
  | cons r3 r4=>cases r4; exact ⟨_,_,rfl,r1,r3⟩
def F4(K:PySem.W.Frag)(x:V)(H:Hp)(n:Nat):Prop :=
 match x with
 | .str y=>y.length<=Aw/\n=y.length
 | .byt y=>y.size<=Aw/\n=y.size
 | .ref p=>(∃xs,Oy K H p xs/\n=xs.length)\/∃xs,To K H p xs/\n=xs.length
 | _=>False
theorem Pg:Jn X (.builtin "len") (λxs H Q=>∃x n,xs=[x]/\F4 X.K x H n/\Q (.int n) H):=by
 intro pins s σ H xs us Q I r h
 obtain ⟨x,n,rfl,e,q⟩:=h
 obtain ⟨u,rfl,rx⟩:=vals1 r
 have hl:=Up
 have hs:Aw=16777216:=Hm
 cases x with
 | str y =>
  obtain ⟨t,rfl⟩:=rx
  obtain ⟨hy,e'⟩ : y.length<=Aw/\n=y.length:=e
  subst e'
  exact len_str (by omega) ⟨.int _,H,I.tok _,⟨_,rfl⟩,q⟩
 | byt y =>
  obtain ⟨t,rfl⟩:=rx
  obtain ⟨hy,e'⟩ : y.size<=Aw/\n=y.size:=e
  subst e'
  exact PySem.W.len_bytes (by omega) ⟨.int _,H,I.tok _,⟨_,rfl⟩,q⟩
 | ref p =>
  cases rx
  have e':(∃xs,Oy X.K H p xs/\n=xs.length)\/∃xs,To X.K H p xs/\n=xs.length:=e
  rcases e' with ⟨xs,hx,e'⟩ | ⟨xs,hx,e'⟩
  ·subst e'
   obtain ⟨its,r',pl,hz⟩:=I.list hx
   have hlen:=r'.length
   exact Calls.call_len_list pl.isList (by simp only[Ao]; omega) ⟨.int xs.length,H,I.tok _,⟨_,by simp only[Ao]; rw[hlen]⟩,q⟩
  ·subst e'
   obtain ⟨its,r',pl,hz⟩:=I.tuple hx
   have hlen:=r'.length
   exact len_tuple pl (by simp only[Ao]; omega) ⟨.int xs.length,H,I.tok _,⟨_,by simp only[Ao]; rw[hlen]⟩,q⟩
 | _=>exact (show False from e).elim
end
structure ObjM(h:Heap)(x dx C:Addr)(mA:Str->Option Value):Prop where
 obj:h.get? x=some (PySem.W.instObj C dx)
 ns:h.Ns1 dx mA
 ne:dx≠x
theorem oX{h:Heap}{dx:Addr}{mA:Str->Option Value}(n:h.Ns1 dx mA):∃od,h.get? dx=some od/\∀name,PySem.W.lookIn name od=some (mA name):=by
 obtain ⟨o,es,ep,ho,hd,hk,_,hm⟩:=n
 refine ⟨o,ho,λname=>?_⟩
 have e:=hm name
 unfold nsFind findBy at e
 rw[<- Array.find?_toList] at e
 unfold PySem.W.lookIn
 rw[hd]
 dsimp only
 split
 ·rename_i y q
  rw[q] at e
  exact congrArg some e
 ·rename_i q
  rw[q] at e
  have a:es.toList.any (·.refKey)=false:=by
   rw[List.any_eq_false]
   intro y hy
   obtain ⟨z,t,hkey⟩:=hk y (Array.mem_toList_iff.mp hy)
   simp [DictEntry.refKey,hkey]
  have a':¬ es.toList.any (·.refKey)=true:=by rw[a]; exact Jj
  rw[if_neg a']
  exact congrArg some e
theorem ObjM.look{h:Heap}{x dx C:Addr}{mA:Str->Option Value}(I:ObjM h x dx C mA):∃od,PySem.W.InstAt h x (PySem.W.instObj C dx) C (some od)/\∀name,PySem.W.lookIn name od=some (mA name) :=
 let ⟨od,ho,hl⟩:=oX I.ns
 ⟨od,⟨I.obj,rfl,rfl,ho⟩,hl⟩
section
variable{P:Bu}{w:World}{H H':Hp}{h h':Heap}{a C dx:Addr}{fs fs':List (Str×V)}
theorem vF(hok:Xz P w H h)(e:H a=some (.ins C dx fs)):∃mA,ObjM h a dx C mA/\(∀f,x3 (fs.lookup f) (mA f))/\PySem.Within mA (fs.map (·.1))/\fs.length<=1000/\H dx=some (.own a):=by
 obtain ⟨d,z,ne,ob,mA,n,r,q⟩:=(show Hu P w H h a (.ins C dx fs) from hok a _ e)
 exact ⟨mA,⟨ob,n,ne⟩,r,q,z,d⟩
end
structure Cls(K:PySem.W.Frag)(C:Addr):Prop where
 pg:PySem.W.plainGet K C Str.empty=true
 hd:PySem.W.hasDictIn K C=true
 po:PySem.W.plainOver K C=true
 sa:PySem.W.findIn K (.ref C) "__setattr__" = some (some (.builtin "object.__setattr__"))
theorem Cls.get{K:PySem.W.Frag}{C:Addr}(c:Cls K C)(f:Str):PySem.W.plainGet K C f=true:=c.pg
section
variable{X:Cx}{pins:List (Addr×Obj)}{σ:St}{H:Hp}{s:Aj}{A:Df}{E:Value->Aj->Prop}{Q:Value->Aj->Prop}{c:Value}{b:Bool}
inductive TyOf (K:PySem.W.Frag) (H:Hp):V->Value->Prop where
 | non:TyOf K H .non (.type "NoneType")
 | bl (x:Bool):TyOf K H (.bl x) (.type "bool")
 | int (i:Int):TyOf K H (.int i) (.type "int")
 | str (x:Str):TyOf K H (.str x) (.type "str")
 | flt (x:UInt64):TyOf K H (.flt x) (.type "float")
 | lst {a:Addr} {xs:List V} (e:H a=some (.lst xs)):TyOf K H (.ref a) (.type "list")
 | frz {a:Addr} {o:Obj} {xs:List V} (e:H a=some (.frz o (.lst xs))):TyOf K H (.ref a) (.type "list")
 | tup {a:Addr} {xs:List V} (e:H a=some (.tup xs)):TyOf K H (.ref a) (.type "tuple")
 | dK {a:Addr} {kvs:List (Wf×V)} (e:H a=some (.dK kvs)):TyOf K H (.ref a) (.type "dict")
 | dT {a:Addr} {kvs:List (List Wf×V)} (e:H a=some (.dT kvs)):TyOf K H (.ref a) (.type "dict")
 | ins {a C dx:Addr} {fs:List (Str×V)} (e:H a=some (.ins C dx fs)) (cl:Cls K C) (ha:PySem.W.findIn K (.ref C) "__class__" = some (some (.builtin "object.__class__")))
   (hn:PySem.W.specialIn K (.builtin "object.__class__") "__get__" = some (some (.builtin "getset_descriptor.__get__"))) (htk:PySem.W.takesIn K (.builtin "object.__class__")=some true)
   (hm:PySem.W.mroIn K C (.type "object")=some true):TyOf K H (.ref a) (.ref C)
theorem oV{x:V}{u t:Value}(I:Inv X pins σ H s)(rx:RelV x u)(ty:TyOf X.K H x t)(e:PySem.W.kitOne X.K t c=some b)(h:∀tk,Q (.bool b) { s with toks:=tk }):wpAny (model X.prog X.w) A (call (.builtin "isinstance") [u,c]) Q E s:=by
 cases ty with
 | non=>cases (show u=Ot from rx); exact PySem.W.kia_one PySem.W.kitx_none I.kIn Uw e (λz=>nomatch z) h
 | bl y=>cases (show u=Value.bool y from rx); exact PySem.W.kia_one PySem.W.kitx_bool I.kIn Uw e (λz=>nomatch z) h
 | int i=>obtain ⟨t,q⟩:=(show ∃t,u=Oo i t from rx); cases q; exact PySem.W.kia_one PySem.W.kitx_int I.kIn Uw e (λz=>nomatch z) h
 | str y=>obtain ⟨t,q⟩:=(show ∃t,u=Value.str y t from rx); cases q; exact PySem.W.kia_one PySem.W.kitx_str I.kIn Uw e (λz=>nomatch z) h
 | flt y=>obtain ⟨t,q⟩:=(show ∃t,u=Value.float y t from rx); cases q; exact PySem.W.kia_one PySem.W.kitx_float I.kIn Uw e (λz=>nomatch z) h
 | @lst a xs ea =>
  cases (show u=Cr a from rx)
  obtain ⟨_,_,n,_,h1⟩:=(show Hu X.prog X.w H s.heap a (.lst xs) from I.hok a _ ea)
  exact PySem.W.kia_one PySem.W.kitx_list I.kIn ⟨_,h1,rfl⟩ e (λz=>nomatch z) h
 | @frz a ob xs ea =>
  cases (show u=Cr a from rx)
  obtain ⟨_,_,_,n,_,h1⟩:=(show Hu X.prog X.w H s.heap a (.frz ob (.lst xs)) from I.hok a _ ea)
  exact PySem.W.kia_one PySem.W.kitx_list I.kIn ⟨_,h1,rfl⟩ e (λz=>nomatch z) h
 | @tup a xs ea =>
  cases (show u=Cr a from rx)
  obtain ⟨_,_,_,p⟩:=(show Hu X.prog X.w H s.heap a (.tup xs) from I.hok a _ ea)
  obtain ⟨o,h1,h2,_⟩:=p
  exact PySem.W.kia_one PySem.W.kitx_tuple I.kIn ⟨o,h1,h2⟩ e (λz=>nomatch z) h
 | @dK a kvs ea =>
  cases (show u=Cr a from rx)
  obtain ⟨_,_,vs,_,p⟩:=(show Hu X.prog X.w H s.heap a (.dK kvs) from I.hok a _ ea)
  obtain ⟨o,es,ep,h1,h2,_⟩:=p
  exact PySem.W.kia_one PySem.W.kitx_dict I.kIn ⟨o,h1,h2.1⟩ e (λz=>nomatch z) h
 | @dT a kvs ea =>
  cases (show u=Cr a from rx)
  obtain ⟨_,_,xs,_,o,es,ep,h1,h2,_⟩:=(show Hu X.prog X.w H s.heap a (.dT kvs) from I.hok a _ ea)
  exact PySem.W.kia_one PySem.W.kitx_dict I.kIn ⟨o,h1,h2.1⟩ e (λz=>nomatch z) h
 | @ins a C dx fs ea cl ha hn htk hm =>
  cases (show u=Cr a from rx)
  obtain ⟨mA,O,_⟩:=vF I.hok ea
  obtain ⟨od,J,_⟩:=O.look
  exact PySem.W.kia_one (PySem.W.kitx_own (cl.get _) cl.hd ha hn htk hm) I.kIn J e (λz=>nomatch z) h
end
structure Room(k:Nat)(A:Df):Prop where
 hd:A.handled=none
 dp:A.depth+3 * k+5<recursionLimit
 un:A.units+16 * k+200<cLine
 gd:A.guards=some []
theorem Room.mono{j k:Nat}{A:Df}(r:Room k A)(h:j<=k):Room j A:=⟨r.hd,by have:=r.dp; omega,by have:=r.un; omega,r.gd⟩
theorem Room.deeper{k:Nat}{A:Df}(r:Room (k+1) A)(env:Env):Room k (A.deeper env) :=
 ⟨r.hd,by have:=r.dp; show A.depth+1+3 * k+5<_; omega,by have:=r.un; show A.units+3+16 * k+200<_; omega,r.gd⟩
theorem Room.depth{k:Nat}{A:Df}(r:Room k A):A.depth<recursionLimit:=by have:=r.dp; omega
theorem Room.units{k:Nat}{A:Df}(r:Room k A):A.units+64<cLine:=by have:=r.un; omega
def M5:TA:=λ_ H Q=>Q [] H
def N0(ta:TE)(tr:TA):TA:=λσ H Q=>ta σ H λx H1=>tr σ H1 λxs H2=>Q (x::xs) H2
section
variable{X:Cx}{e:Expr}{es:List Expr}{te:TE}{t:TA}{pos:Pos}
theorem Jd:PA X [] M5:=λ_ _ _ _ H Q I h=>Calls.spliced_nil ⟨[],H,I,.nil,h⟩
theorem Fh(ha:PE X e te)(hr:PA X es t)(hs:Bd (e::es) X.env=(false,eval e X.env)::Bd es X.env:=by rfl):PA X (e::es) (N0 te t):=by
 intro pos pins s σ H Q I h
 rw[hs]
 show wpAny _ _ (spliced ((false,eval e X.env)::Gc pos (Bd es X.env))) _ _ s
 refine Calls.spliced_cons (Hb (ha pins s σ H _ I h) λu s1 q0_ => ?_)
 obtain ⟨x,H1,I1,r1,q1⟩ := q0_
 exact Hb (hr pos pins s1 σ H1 _ I1 q1) λus s2 ⟨xs,H2,I2,r2,q2⟩=>⟨x::xs,H2,I2,.cons r1 r2,q2⟩
def Q1(t:TA):TE:=λσ H Q=>t σ H λxs H1=>xs.length<=Aw/\∀p,H1 p=none->Q (.ref p) (upd H1 p (.tup xs))
def T5(t:TA):TE:=λσ H Q=>t σ H λxs H1=>xs.length<=Aw/\∀p,H1 p=none->Q (.ref p) (upd H1 p (.lst xs))
theorem zW{x1}(h:PA X es t):PE X (.Tuple es x1 pos) (Q1 t):=by
 intro pins s σ H Q I hq
 refine wpAny_Tuple_spliced (Hb (h pos pins s σ H _ I hq) λus s1 ⟨xs,H1,I1,r,z,q⟩=>⟨by rw[<- r.length]; exact z,?_⟩)
 have hf:H1 s1.heap.objs.size=none:=I1.hok.fresh (Ah _)
 refine ⟨.ref s1.heap.objs.size,upd H1 s1.heap.objs.size (.tup xs),I1.laid (t':=s1.toks) (λb u e=>Ag _ e) (Ah _) ?_,rfl,q _ hf⟩
 exact ⟨z,us,r,⟨_,Ay _ rfl,rfl,_,rfl⟩⟩
theorem qU(h:PA X es t):PE X (.List es pos) (T5 t):=by
 intro pins s σ H Q I hq
 refine wpAny_List_spliced (Hb (h pos pins s σ H _ I hq) λus s1 ⟨xs,H1,I1,r,z,q⟩=>⟨by rw[<- r.length]; exact z,?_⟩)
 have hf:H1 s1.heap.objs.size=none:=I1.hok.fresh (Ah _)
 refine ⟨.ref s1.heap.objs.size,upd H1 s1.heap.objs.size (.lst xs),I1.laid (t':=s1.toks) (λb u e=>Ag _ e) (Ah _) ?_,rfl,q _ hf⟩
 exact ⟨z,us,0,r,Ay _ rfl⟩
end
abbrev Sp:=List V->Hp->VK->XK->Prop
abbrev pD:=List Env->Hp->Aj->XK->Value->Aj->Prop
structure Env0(P:Bu)(w:World)(K:PySem.W.Frag)(mg:Str->Option Value)(base:Heap)(A:Df)(outer:List Env)(s:Aj)(H:Hp):Prop where
 frames:A.frames=some outer
 mod:Mod K mg base
 bs:∀b o,base.get? b=some o->s.heap.get? b=some o/\H b=none
 bsz:base.objs.size<=s.heap.objs.size
 funs:s.heap.FunFrames base outer
 frf:∀b∈mU outer,H b=none
 hok:Xz P w H s.heap
 bare:Py s.gens
 tab:rO K mg base H
def CE(outer:List Env)(P:Bu)(w:World)(H:Hp)(s:Aj)(Q:VK)(u:Value)(s':Aj):Prop :=
 ∃v H',s'.os=s.os/\Py s'.gens/\Un (mU outer) [] H H' s.heap s'.heap/\Xz P w H' s'.heap/\RelV v u/\Q v H'
def CR(CX:pD)(outer:List Env)(P:Bu)(w:World)(H:Hp)(s:Aj)(Q:VK)(E:XK)(r:Result)(s':Aj):Prop :=
 match r with
 | .ok (.ret u)=>CE outer P w H s Q u s'
 | .ok _=>False
 | .error e=>CX outer H s E e s'
structure FnOk(P:Bu)(w:World)(K:PySem.W.Frag)(mg:Str->Option Value)(base:Heap)(CX:pD)(k:Nat)(f:Addr)(fd:Cb)(ps:List Str)(sp:Sp):Prop where
 len:∀vs H Q E,sp vs H Q E->vs.length=ps.length
 run:∀(A:Df) (outer:List Env) (s:Aj) (H:Hp) (args:Args) (us:List Value) (vs:List V) (Q:VK) (E:XK),Room k A->Env0 P w K mg base A outer s H->BindsTo s fd args (ps.zip us)->Ek vs us->sp vs H Q E ->
  Ld (model P w) A (.call (.ref f) args) (CR CX outer P w H s Q E) s
theorem FnOk.imp{P:Bu}{w:World}{K:PySem.W.Frag}{mg:Str->Option Value}{base:Heap}{CX:pD}{k:Nat}{f:Addr}{fd:Cb}{ps:List Str}{sp sp':Sp}(F:FnOk P w K mg base CX k f fd ps sp)(h:∀vs H Q E,sp' vs H Q E->sp vs H Q E):FnOk P w K mg base CX k f fd ps sp' :=
 ⟨λvs H Q E q=>F.len vs H Q E (h _ _ _ _ q),λA outer s H args us vs Q E hr he hb hv hs=>F.run A outer s H args us vs Q E hr he hb hv (h _ _ _ _ hs)⟩
section
variable{X:Cx}{pins:List (Addr×Obj)}{σ:St}{H:Hp}{s s':Aj}
theorem Inv.env0(I:Inv X pins σ H s):Env0 X.prog X.w X.K X.mg X.base X.A X.stack s H :=
 ⟨I.ok.frames,I.ok.mod,I.bs,Bm I.ok.bsz I.sz,I.stack,I.stkFree,I.hok,I.bare,I.ok.tab.un I.base⟩
theorem Inv.after{Q:VK}{u:Value}(I:Inv X pins σ H s)(h:CE X.stack X.prog X.w H s Q u s'):EP X pins σ Q u s':=by
 obtain ⟨v,H',os,bare,un,hok,r,q⟩:=h
 obtain ⟨hh,g,d,t,os'⟩:=s'
 obtain rfl:os'=s.os:=os
 exact ⟨v,H',I.call (h':=hh) (g':=g) (d':=d) (t':=t) (ch:=[]) un hok bare (λb z=>absurd z (by simp)),r,q⟩
end
def yF(sp:Sp)(dvs:List V)(E:XK)(t:TA):TE:=λσ H Q=>t σ H λvs H1=>sp (vs++dvs) H1 Q E
def Binds(K:PySem.W.Frag)(fd:Cb)(ps:List Str)(ds:List Value):Prop :=
 ∀(s:Aj) (us:List Value),K.In s.heap->(us++ds).length=ps.length->BindsTo s fd ⟨us,[]⟩ (ps.zip (us++ds))
theorem Binds.all{K:PySem.W.Frag}{fd:Cb}{ps:List Str}(h:∀us:List Value,us.length=ps.length->bindArgs fd ⟨us,[]⟩=pure (ps.zip us)):Binds K fd ps []:=λs us _ hl=>by
 rw[Fi] at hl ⊢
 exact .of_eq (h us hl)
def Pp(CX:pD)(X:Cx)(E:XK):Prop:=∀(pins:List (Addr×Obj)) (σ:St) (H:Hp) (s:Aj) (e:Value) (s':Aj),Inv X pins σ H s->CX X.stack H s E e s'->X.xe e s'
section
variable{X:Cx}{CX:pD}{k:Nat}{f C:Addr}{fd:Cb}{ps:List Str}{sp:Sp}{dvs:List V}{ds:List Value}{E:XK}{x m:Str}{p pos apos:Pos}{e o:Expr}{es:List Expr}{ta:TE}{t:TA}
theorem qC{pins:List (Addr×Obj)}{σ:St}{H:Hp}{s:Aj}{Q:VK}{us:List Value}{vs:List V}(F:FnOk X.prog X.w X.K X.mg X.base CX k f fd ps sp)(hr:Room k X.A)(hb:Binds X.K fd ps ds)(hd:Ek dvs ds)(hx:Pp CX X E)(I:Inv X pins σ H s)(r:Ek vs us)(h:sp (vs++dvs) H Q E):wpAny (model X.prog X.w) X.A (call (.ref f) us) (EP X pins σ Q) X.xe s:=by
 have r2:Ek (vs++dvs) (us++ds):=r.append hd
 have hl:(us++ds).length=ps.length:=by rw[<- r2.length]; exact F.len _ _ _ _ h
 refine wpAny_call (Jb (F.run X.A X.stack s H ⟨us,[]⟩ (us++ds) (vs++dvs) Q E hr I.env0 (hb s us I.kIn hl) r2 h) λr s' hq=>?_)
 cases r with
 | error e=>exact hx pins σ H s e s' I hq
 | ok fl =>
  cases fl with
  | ret u=>exact I.after hq
  | next=>exact Hw hq
  | brk=>exact Hw hq
  | cont=>exact Hw hq
theorem Wd(F:FnOk X.prog X.w X.K X.mg X.base CX k f fd ps sp)(hr:Room k X.A)(hg:Gl X x)(hm:X.mg x=some (.ref f))(hk:PySem.W.keepIn X.K (.ref f)=true)(hb:Binds X.K fd ps ds)(hd:Ek dvs ds)(hx:Pp CX X E)(ha:PA X (e::es) t)(hdb:(x == ("__debug__" : Str))=false:=by decide)(he:Bd (e::es) X.env=(false,eval e X.env)::Bd es X.env:=by rfl)(hpl:(Gc pos (Bd es X.env)).any (·.1)=false:=by rfl):PE X (.Call (.Name x p) (e::es) [] pos) (yF sp dvs E t):=by
 intro pins s σ H Q I h
 refine Om (cZ I hg hm ?_ hdb)
 refine PySem.W.callWith_K (h₀:=X.base) I.ok.mod.kin hk (Hb (ha pos pins s σ H _ I h) λus s1 ⟨vs,H1,I1,r,q⟩=>⟨I1.kIn,?_⟩) he hpl
 exact qC F hr hb hd hx I1 r q
theorem tP(F:FnOk X.prog X.w X.K X.mg X.base CX k f fd ps sp)(hr:Room k X.A)(hg:Gl X x)(hm:X.mg x=some (.ref f))(hk:PySem.W.keepIn X.K (.ref f)=true)(hb:Binds X.K fd ps ds)(hd:Ek dvs ds)(hx:Pp CX X E)(hdb:(x == ("__debug__" : Str))=false:=by decide):PE X (.Call (.Name x p) [] [] pos) (yF sp dvs E M5):=by
 intro pins s σ H Q I h
 refine Om (cZ I hg hm ?_ hdb)
 exact PySem.W.callWith_K0 I.kIn hk (qC (us:=[]) F hr hb hd hx I .nil h)
end
structure FnScope(N P:List Str)(sc:Scope):Prop where
 kind:sc.kind=.function
 co:sc.isCoroutine=false
 gen:sc.isGenerator=false
 nd:N.Nodup
 pre:N.take P.length=P
 par:∀x∈P,sc.names.lookup x=some .local\/sc.names.lookup x=some .cell
 nofree:∀y∈sc.names,y.2≠.free
theorem Zs{kindOf:Str->Option Mx}{x:Str}:∀{binds:List (Str×Value)} {m:Str->Option Value},(∀v,(x,v)∉binds)->bindL kindOf binds m x=m x
 | [],_,_=>rfl
 | (n,v)::r,m,h=>by
  unfold bindL
  rw[Zs λw hw=>h w (Ab _ hw)]
  split
  ·have : x≠n:=by rintro rfl; exact h v Aa
   simp [this]
  ·rfl
theorem aR{kindOf:Str->Option Mx}{x:Str}:∀{binds:List (Str×Value)} {m:Str->Option Value},(∀v,(x,v)∉binds)->bindC kindOf binds m x=m x
 | [],_,_=>rfl
 | (n,v)::r,m,h=>by
  unfold bindC
  rw[aR λw hw=>h w (Ab _ hw)]
  split
  ·rfl
  ·have : x≠n:=by rintro rfl; exact h v Aa
   simp [this]
theorem aC{kindOf:Str->Option Mx}{x:Str}{v:Value}:∀{P:List Str} {vs:List Value} {i:Nat} {m:Str->Option Value},P.Nodup->P[i]? = some x->vs[i]? = some v->kindOf x=some .local->bindL kindOf (P.zip vs) m x=some v
 | [],_,_,_,_,h,_,_=>by simp at h
 | _::_,[],_,_,_,_,h,_=>by simp at h
 | p::P,w::vs,0,m,nd,h1,h2,hk=>by
  simp at h1 h2; subst h1; subst h2
  show bindL kindOf ((p,w)::P.zip vs) m p=_
  unfold bindL
  rw[Zs λv hv=>(Bt.mp nd).1 (List.of_mem_zip hv).1,if_pos hk]
  simp
 | p::P,w::vs,i+1,m,nd,h1,h2,hk=>by
  show bindL kindOf ((p,w)::P.zip vs) m x=_
  unfold bindL
  exact aC (i:=i) (Bt.mp nd).2 (by simpa using h1) (by simpa using h2) hk
theorem Zv{kindOf:Str->Option Mx}{x:Str}{v:Value}:∀{P:List Str} {vs:List Value} {i:Nat} {m:Str->Option Value},P.Nodup->P[i]? = some x->vs[i]? = some v->kindOf x≠some .local->bindC kindOf (P.zip vs) m x=some v
 | [],_,_,_,_,h,_,_=>by simp at h
 | _::_,[],_,_,_,_,h,_=>by simp at h
 | p::P,w::vs,0,m,nd,h1,h2,hk=>by
  simp at h1 h2; subst h1; subst h2
  show bindC kindOf ((p,w)::P.zip vs) m p=_
  unfold bindC
  rw[aR λv hv=>(Bt.mp nd).1 (List.of_mem_zip hv).1,if_neg hk]
  simp
 | p::P,w::vs,i+1,m,nd,h1,h2,hk=>by
  show bindC kindOf ((p,w)::P.zip vs) m x=_
  unfold bindC
  exact Zv (i:=i) (Bt.mp nd).2 (by simpa using h1) (by simpa using h2) hk
def start(N:List Str)(vs:List V):St:=vs.map some++Gu (N.length - vs.length) none
def Ku(CX:pD)(P:Bu)(w:World)(K:PySem.W.Frag)(mg:Str->Option Value)(base:Heap)(N:List Str)(qual:Str)(scope:Scope)(f:Addr)(cd:Value)(A:Df)(outer:List Env)(s:Aj)(H:Hp)(E:XK):Cx where
 prog:=P
 w:=w
 K:=K
 mg:=mg
 base:=base
 A:=A.deeper (Qx qual scope s.heap.objs.size f cd)
 N:=N
 s₀:=s
 H₀:=H
 env:=Qx qual scope s.heap.objs.size f cd
 outer:=outer
 stack:=Qx qual scope s.heap.objs.size f cd::outer
 ex:=[]
 calm:=true
 fn:=λ_=>true
 pn:=[]
 xe:=λe s'=>wpAny (model P w) (A.deeper (Qx qual scope s.heap.objs.size f cd)) (leaving (Qx qual scope s.heap.objs.size f cd) e) (λ_ s''=>CX outer H s E e s'') (λe' s''=>CX outer H s E e' s'') s'
theorem gC{sc:Scope}{n:Nat}{x:Str}(h:sc.names.lookup x=some .cell):∃c,(Dz n sc.names []).lookup x=some c:=by
 have q:=PySem.W.cellsFrom_some sc.names n [] (.inl h)
 exact Nr.mp q
theorem nJ{CX:pD}{P:Bu}{w:World}{K:PySem.W.Frag}{mg:Str->Option Value}{base:Heap}{N ps:List Str}{qual:Str}{scope:Scope}{f:Addr}{cd:Value}{A:Df}{outer:List Env}{s s1:Aj}{H:Hp}{E:XK}{us:List Value}{vs:List V}(S:FnScope N ps scope)(hd:A.handled=none)(e0:Env0 P w K mg base A outer s H)(hl:vs.length=ps.length)(r:Ek vs us)(x:InCallC s s.heap.objs.size (bindL (Qx qual scope s.heap.objs.size f cd).kindOf (ps.zip us) λ_=>none) (Dz (s.heap.objs.size+1) scope.names []) (bindC (Qx qual scope s.heap.objs.size f cd).kindOf (ps.zip us) λ_=>none) s1):Inv (Ku CX P w K mg base N qual scope f cd A outer s H E) [] (start N vs) H s1:=by
 have hpl:ps.length<=N.length:=by have:=congrArg Lk S.pre; rw[Ig] at this; omega
 obtain ⟨h1,tk,rfl,hk⟩:=x.done
 have noA:∀b:Addr,b∉(Ku CX P w K mg base N qual scope f cd A outer s H E).ex:=λb z=>absurd (show b∈([]:List Addr) from z) (by simp)
 refine ⟨⟨e0.mod,S.kind,rfl,rfl,Ah _,λy z c h1 h2=>?_,λy hy=>?_,λy c _ h=>?_,λ_=>hd,Around.frames_deeper e0.frames,.inr ⟨rfl,rfl⟩,λb z=>absurd z (noA b),e0.bs,e0.bsz,λb _ _=>noA b,λb z=>absurd z (noA b),e0.funs,e0.frf,e0.tab⟩,
  rfl,e0.bare,Un.kept hk,⟨_,x.toInCall.ns,λi y v h1 h2 h3=>?_⟩,λy c h=>⟨_,x.cell y c h⟩,e0.hok.fresh (Ah _),λy c h=>?_,λp hp=>absurd (show p∈([]:List (Addr×Obj)) from hp) (by simp),e0.hok.kept hk,?_⟩
 ·exact name_of_addr x.apart (PySem.mem_of_lookup h1) (PySem.mem_of_lookup h2)
 ·have hy:scope.names.lookup y=some .cell\/scope.names.lookup y=some .free:=hy
  rcases hy with hy | hy
  ·exact gC hy
  ·exact absurd rfl (S.nofree _ (PySem.mem_of_lookup hy))
 ·exact Iq (x.above y c (PySem.mem_of_lookup h))
 ·have hi:i<vs.length:=by
   unfold start at h2
   by_cases hi:i<vs.length
   ·exact hi
   ·rw[Hx (by simpa using hi)] at h2
    rw[List.getElem?_replicate] at h2
    split at h2 <;> cases h2
  have ha:vs[i]? = some v:=by
   unfold start at h2
   rw[Gb (by simpa using hi),Cf] at h2
   cases e:vs[i]? with
   | none=>rw[e] at h2; cases h2
   | some a=>rw[e] at h2; cases h2; rfl
  obtain ⟨u,hu,rv⟩:=r.get ha
  have hp:ps[i]? = some y:=by
   rw[<- S.pre,iH (by omega)]; exact h1
  have ndP:ps.Nodup:=by rw[<- S.pre]; exact S.nd.sublist (Hq _ _)
  refine ⟨u,rv,?_⟩
  rcases S.par y (Be hp) with k | k
  ·exact .inl ⟨k,aC ndP hp hu k⟩
  ·obtain ⟨c,e⟩:=gC (n:=s.heap.objs.size+1) k
   refine .inr ⟨.inl k,c,e,?_⟩
   have q:=x.cell y c e
   rw[Zv ndP hp hu (by show scope.names.lookup y≠_; rw[k]; decide)] at q
   exact q
 ·exact e0.hok.fresh (Iq (x.above y c (PySem.mem_of_lookup h)))
 ·unfold start
  show _=N.length
  rw[Bj,Ae,List.length_replicate]
  omega
theorem M3{CX:pD}{P:Bu}{w:World}{K:PySem.W.Frag}{mg:Str->Option Value}{base:Heap}{k:Nat}{f:Addr}{name qual:Str}{params:Arguments}{body:List Stmt}{scope:Scope}{dV kV doc pm cdv ct oc:Value}{an od:Option Addr}{osl:Array (Option Value)}{N ps:List Str}{sp:Sp}(lk:K.lookup f=some ⟨oc,od,.func (PySem.W.fnOf name qual params body scope dV kV doc pm an cdv ct),osl⟩)(hcd:PySem.W.codeIn K cdv qual=true)(S:FnScope N ps scope)(len:∀vs H Q E,sp vs H Q E->vs.length=ps.length)(hbody:∀(A:Df) (outer:List Env) (s:Aj) (H:Hp) (vs:List V) (Q:VK) (E:XK),Room k (A.deeper (Qx qual scope s.heap.objs.size f cdv))->sp vs H Q E->∃t,jI (Ku CX P w K mg base N qual scope f cdv A outer s H E) body t/\t { nx:=λ_ H'=>Q .non H',rt:=Q } (start N vs) H):FnOk P w K mg base CX (k+1) f (PySem.W.fnOf name qual params body scope dV kV doc pm an cdv ct) ps sp:=by
 refine ⟨len,λA outer s H args us vs Q E hr e0 hb r hsp=>?_⟩
 have hl:=len _ _ _ _ hsp
 have KX:K.In s.heap:=e0.mod.kin.keeps λb o e=>(e0.bs b o e).1
 have lim:s.heap.NoLimit:=e0.mod.nolimit.keeps λb o e=>(e0.bs b o e).1
 have hkind:∀y∈ps.zip us,scope.names.lookup y.1=some .local\/(scope.names.lookup y.1=some .cell/\((Dz (s.heap.objs.size+1) scope.names []).lookup y.1).isSome=true):=λ⟨n,v⟩ hy=>by
  rcases S.par n (List.of_mem_zip hy).1 with q | q
  ·exact .inl q
  ·exact .inr ⟨q,PySem.W.cellsFrom_some _ _ _ (.inl q)⟩
 refine codeAny_call_function hr.depth (KX _ _ lk) rfl S.co S.gen rfl (PySem.W.codeRec_of KX hcd) (hb _ _ _ _ ?_)
 refine wpAny_newFunctionEnv_cells S.kind hkind λenv he s1 x=>?_
 subst he
 refine ⟨lim.keeps x.toInCall.keep,codeAny_func ?_⟩
 obtain ⟨t,ht,hq⟩:=hbody A outer s H vs Q E (hr.deeper _) hsp
 have I:Inv (Ku CX P w K mg base N qual scope f cdv A outer s H E) [] (start N vs) H s1:=nJ S hr.hd e0 hl r x
 refine Iy (ht [] s1 (start N vs) H _ I hq) (λfl s' hs=>?_) λe s' hs=>hs
 have fin:∀{σ':St} {H':Hp} {v:V} {u:Value},Inv (Ku CX P w K mg base N qual scope f cdv A outer s H E) [] σ' H' s'->RelV v u->Q v H'->CE outer P w H s Q u s' :=
  λ{σ' H' v u} J rv q=>⟨v,H',J.os,J.bare,J.base,J.hok,rv,q⟩
 cases fl with
 | ret u =>
  obtain ⟨v,σ',H',J,rv,q⟩:=hs
  exact fin J rv q
 | next =>
  obtain ⟨σ',H',J,q⟩:=hs
  exact fin (v:=V.non) (u:=Ot) J rfl q
 | brk =>
  obtain ⟨_,_,_,q⟩:=hs
  exact Hw q
 | cont =>
  obtain ⟨_,_,_,q⟩:=hs
  exact Hw q
section
variable{X:Cx}{x:Str}{p pos:Pos}{e:Expr}{es:List Expr}{t:TA}{id T:String}{r:List V->Hp->VK->Prop}
def P3(r:List V->Hp->VK->Prop)(t:TA):TE:=λσ H Q=>t σ H λvs H1=>r vs H1 Q
theorem Wx(hc:Jn X (.builtin id) r)(hg:Gl X x)(hm:X.mg x=none)(hv:Ho x=some (.builtin id))(ha:PA X (e::es) t)(hn:x ≠ "__name__" := by decide)(hdb:(x == ("__debug__" : Str))=false:=by decide)(he:Bd (e::es) X.env=(false,eval e X.env)::Bd es X.env:=by rfl)(hpl:(Gc pos (Bd es X.env)).any (·.1)=false:=by rfl):PE X (.Call (.Name x p) (e::es) [] pos) (P3 r t):=by
 intro pins s σ H Q I h
 refine Om (Xi I hg hm hv ?_ hn hdb)
 exact PyProof.Rows.callWith_builtin1 (Hb (ha pos pins s σ H _ I h) λus s1 ⟨vs,H1,I1,r1,q1⟩=>hc pins s1 σ H1 vs us Q I1 r1 q1) he hpl
theorem Nq(hc:Jn X (.type T) r)(hg:Gl X x)(hm:X.mg x=none)(hv:Ho x=some (.type T))(ha:PA X (e::es) t)(hn:x ≠ "__name__" := by decide)(hdb:(x == ("__debug__" : Str))=false:=by decide)(he:Bd (e::es) X.env=(false,eval e X.env)::Bd es X.env:=by rfl)(hpl:(Gc pos (Bd es X.env)).any (·.1)=false:=by rfl):PE X (.Call (.Name x p) (e::es) [] pos) (P3 r t):=by
 intro pins s σ H Q I h
 refine Om (Xi I hg hm hv ?_ hn hdb)
 exact Kq (Hb (ha pos pins s σ H _ I h) λus s1 ⟨vs,H1,I1,r1,q1⟩=>hc pins s1 σ H1 vs us Q I1 r1 q1) he hpl
end
end L2
namespace HT
open PySem PyProof.Rows
def lexLt:List Int->List Int->Bool
 | [],[]=>false
 | [],_::_=>true
 | _::_,[]=>false
 | x::xs,y::ys=>if x=y then lexLt xs ys else decide (x<y)
theorem lexLt_cons(x y:Int)(xs ys:List Int):lexLt (x::xs) (y::ys)=if x=y then lexLt xs ys else decide (x<y):=rfl
section
variable{prog:Bu}{w:World}{A:Df}{E:Value->Aj->Prop}{s:Aj}
theorem cat_tup{t b:Addr}{vs ws:List Value}{Q:Value->Aj->Prop}(ht:IsTup s.heap t vs.toArray)(hb:IsTup s.heap b ws.toArray)(hv:vs≠[])(h1:ws=[]->Q (.ref t) s)(h2:ws≠[]->Q (.ref s.heap.objs.size) { s with heap:=s.heap.push { cls:=.type "tuple",data:=.seq (vs++ws).toArray } })(hsz:vs.length+ws.length<=Aw):wpAny (model prog w) A (Iz .Add (.ref t) (.ref b)) Q E s:=by
 obtain ⟨⟨cls,dd,data,sl⟩,ho,hc,n,hd⟩:=id ht
 obtain ⟨⟨cls2,dd2,data2,sl2⟩,ho2,hc2,n2,hd2⟩:=id hb
 simp only at hc hd hc2 hd2
 subst hc hd hc2 hd2
 have e:vs.toArray++ws.toArray=(vs++ws).toArray:=by simp
 by_cases hw:ws=[]
 ·exact concat_meets ⟨_,ho,rfl⟩ ⟨_,ho2,rfl⟩ dX seq_tuple_add PySem.F.slot_tuple_add PySem.F.entry_tuple_add (PySem.F.args_tuple_add_2 _ _)
   (tuple_addW1 t b vs.toArray ws.toArray n n2 dd dd2 sl sl2 (by simpa using hv) (by simp [hw])) ⟨ho,ho2,h1 hw⟩
 ·refine concat_meets ⟨_,ho,rfl⟩ ⟨_,ho2,rfl⟩ dX seq_tuple_add PySem.F.slot_tuple_add PySem.F.entry_tuple_add (PySem.F.args_tuple_add_2 _ _)
   (tuple_addW2 t b vs.toArray ws.toArray n n2 dd dd2 sl sl2 (by simpa using hv) (by simpa using hw) (by rw[Ao,Ao]; exact hsz)) ⟨ho,ho2,?_⟩
  rw[e]
  exact h2 hw
def sIx(n d:Nat):Option Int->Nat
 | none=>d
 | some v=>if v<0 then (v+(n:Int)).toNat else min v.toNat n
theorem sIx_none(n d:Nat):sIx n d none=d:=rfl
theorem sIx_nat(n d k:Nat):sIx n d (some (k:Int))=min k n:=by
 show (if (k:Int)<0 then ((k:Int)+(n:Int)).toNat else min (k:Int).toNat n)=min k n
 rw[if_neg (by omega),Oj]
theorem A0(n d:Nat)(hd:d<=n)(o:Option Int):sIx n d o<=n:=by
 cases o with
 | none=>exact hd
 | some v =>
  show (if v<0 then (v+(n:Int)).toNat else min v.toNat n)<=n
  by_cases hv:v<0
  ·rw[if_pos hv]; omega
  ·rw[if_neg hv]; exact Nat.min_le_right _ _
theorem lK(v:Int)(n d:Nat):(if v<0 then max (v+(n:Int)) 0 else min v (n:Int))=((sIx n d (some v):Nat):Int):=by
 show (if v<0 then max (v+(n:Int)) 0 else min v (n:Int))=(((if v<0 then (v+(n:Int)).toNat else min v.toNat n):Nat):Int)
 by_cases hv:v<0
 ·simp only[if_pos hv]; omega
 ·simp only[if_neg hv]; omega
theorem iX(lo hi:Option Int)(n:Nat):Le lo hi 1 (n:Int)=(((sIx n 0 lo:Nat):Int),((sIx n n hi:Nat):Int)):=by
 have h1:¬ ((1:Int)<0):=by omega
 unfold Le
 simp only[h1,if_false]
 refine Prod.ext ?_ ?_
 ·cases lo with
  | none=>rfl
  | some v=>exact lK v n 0
 ·cases hi with
  | none=>rfl
  | some v=>exact lK v n n
theorem iL(i j:Nat):Hj (i:Int) (j:Int) 1=j - i:=by
 unfold Hj
 have h1:(1:Int) > 0:=by omega
 simp only[h1,if_true,Int.ediv_one]
 split <;> omega
theorem Xo{v:Value}{o:Option Int}{Q:Option Int->Aj->Prop}(p:Vo v o)(h:Q o s):wpAny (model prog w) A (Builtin.Slice.slicePartIndex v) Q E s:=by
 cases p with
 | none=>exact slicePart_none h
 | int i t=>exact slicePart_int h
theorem sliceApplied_gen{sl:Addr}{vl vu:Value}{lo hi:Option Int}{n:Nat}{Q:Int×Int×Nat->Aj->Prop}(hs:s.heap.IsSliceOf sl vl vu .none)(pl:Vo vl lo)(pu:Vo vu hi)(h:Q (((sIx n 0 lo:Nat):Int),1,sIx n n hi - sIx n 0 lo) s):wpAny (model prog w) A (Tv (.ref sl) (pure (n:Int))) Q E s:=by
 obtain ⟨os,hos,hcs,hds⟩:=id hs
 unfold Tv Builtin.Slice.sliceFields
 refine Ac (Ac (wpAny_field hos hds (x:=vl) rfl (Ac (wpAny_field hos hds (x:=vu) rfl (Ac (wpAny_field hos hds (x:=.none) rfl (Al ?_)))))))
 refine Ac (slicePart_none ?_)
 show wpAny _ _ (if ((1:Int) == 0)=true then _ else _) _ _ s
 rw[if_neg (by decide)]
 refine Ac (Xo pl (Ac (Xo pu (Ac (Al ?_)))))
 show wpAny _ _ (match Le lo hi 1 (n:Int) with | (lo,hi)=>pure (lo,(1:Int),Hj lo hi 1)) _ _ s
 rw[iX lo hi n]
 show wpAny _ _ (pure (((sIx n 0 lo:Nat):Int),(1:Int),Hj ((sIx n 0 lo:Nat):Int) ((sIx n n hi:Nat):Int) 1)) _ _ s
 rw[iL]
 exact Al h
theorem rG(xs:Array Value)(i k:Nat):((Br k).filterMap λ(m:Nat)=>xs[((i:Int)+(m:Int) * 1).toNat]?).toArray=((xs.toList.drop i).take k).toArray:=by
 have e:(λ(m:Nat)=>xs[((i:Int)+(m:Int) * 1).toNat]?)=λm=>xs[i+m]?:=by
  funext m
  have : ((i:Int)+(m:Int) * 1).toNat=i+m:=by omega
  rw[this]
 rw[e]
 have:=pick_run xs i k
 rw[List.filterMap_map] at this
 have e2:((λx=>xs[x]?) ∘ λx=>i+x)=λm=>xs[i+m]?:=rfl
 rw[e2] at this
 rw[this]
theorem getItem_tuple_cut{t sl:Addr}{items:Array Value}{vl vu:Value}{lo hi:Option Int}{Q:Value->Aj->Prop}(ht:IsTup s.heap t items)(hs:s.heap.IsSliceOf sl vl vu .none)(pl:Vo vl lo)(pu:Vo vu hi)(hw:¬ (sIx items.size 0 lo=0/\sIx items.size items.size hi=items.size))(h:Q (.ref s.heap.objs.size) { s with heap:=s.heap.push { cls:=.type "tuple",data:=.seq ((items.toList.drop (sIx items.size 0 lo)).take (sIx items.size items.size hi - sIx items.size 0 lo)).toArray } })(hsz:items.size<=Aw):wpAny (model prog w) A (getItem (.ref t) (.ref sl)) Q E s:=by
 have htake:sizeOk (.seq ((items.toList.drop (sIx items.size 0 lo)).take (sIx items.size items.size hi - sIx items.size 0 lo)).toArray):=by
  show ((items.toList.drop (sIx items.size 0 lo)).take (sIx items.size items.size hi - sIx items.size 0 lo)).toArray.size<=Aw
  rw[Ao,Ig,List.length_drop,Af]
  omega
 have hj:sIx items.size items.size hi<=items.size:=A0 _ _ (Ah _) hi
 obtain ⟨os,hos,hcs,hds⟩:=id hs
 have hTs:s.TypeIs (.ref sl) "slice" := ⟨os,hos,hcs⟩
 unfold getItem
 try with_reducible refine Ef ?_
 first | refine Ac (Al ?_) | skip
 refine Ac (wpAny_sequenceKey ht.typeIs (by decide) ?_)
 refine Ac (Ko (name:=Kg "__getitem__") ht.typeIs Dq
  (He Dq ht.typeIs entry_tuple_getitem ?_ (args_tuple_getitem _ _)))
 show wpAny _ _ (Tr (.ref t) >>= _) _ _ s
 refine Ac (tupleItemsOf_ ht ?_)
 refine Ac (Nv hTs ?_)
 rw[if_pos (by decide)]
 refine Ac (sliceApplied_gen hs pl pu ?_)
 have hno:¬ ((((sIx items.size 0 lo:Nat):Int) == 0 && (1:Int) == 1 && (sIx items.size items.size hi - sIx items.size 0 lo) == items.size)=true):=by
  intro q
  rw[Eg,Eg] at q
  have q1:((sIx items.size 0 lo:Nat):Int)=0:=Rf q.1.1
  have q2:sIx items.size items.size hi - sIx items.size 0 lo=items.size:=Rf q.2
  exact hw ⟨by omega,by omega⟩
 show wpAny _ _ (if (((sIx items.size 0 lo:Nat):Int) == 0 && (1:Int) == 1 && (sIx items.size items.size hi - sIx items.size 0 lo) == items.size)=true then _ else _) _ _ s
 rw[if_neg hno,rG]
 first
  | exact Ac (m:=En _) (Du (Al ⟨_,rfl,Al h⟩) htake)
  | exact Ac (m:=En _) (Du (Ac (Al (Al ⟨_,rfl,Al h⟩))) htake)
  | exact Ac (Ac (m:=En _) (Du (Al (Al ⟨_,rfl,Al h⟩)) htake))
  | exact Ac (Ac (m:=En _) (Du (Al ⟨_,rfl,Al h⟩) htake))
end
end HT
namespace L2
open PySem PySem.Spec PyProof.Rows
abbrev TO:=St->Hp->(Option Int->Hp->Prop)->Prop
def PO(X:Cx)(e:Option Expr)(t:TO):Prop :=
 ∀(pins:List (Addr×Obj)) (s:Aj) (σ:St) (H:Hp) (Q:Option Int->Hp->Prop),Inv X pins σ H s->t σ H Q ->
  wpAny (model X.prog X.w) X.A (evalPart e X.env) (λu s'=>∃o H',Inv X pins σ H' s'/\Vo u o/\Q o H') X.xe s
def wL:TO:=λ_ H Q=>Q none H
def F6(t:TE):TO:=λσ H Q=>t σ H λx H1=>∃i,x=.int i/\Q (some i) H1
theorem intsAre_of{ns:List Int}:∀{us:List Value},Ek (ns.map V.int) us->Jc us ns:=by
 induction ns with
 | nil=>intro us r; rw[List.map_nil] at r; cases r; exact .nil
 | cons n ns ih =>
  intro us r
  rw[Au] at r
  cases r with
  | cons r1 r2 =>
   obtain ⟨t,e⟩:=r1
   subst e
   exact .cons n t (ih r2)
section
variable{X:Cx}{e:Expr}{te:TE}{lo hi:Option Expr}{tl th:TO}{pos p2:Pos}
theorem uU:PO X none wL:=by
 intro pins s σ H Q I h
 rw[evalPart_none]
 exact Al ⟨none,H,I,.none,h⟩
theorem uY(h:PE X e te):PO X (some e) (F6 te):=by
 intro pins s σ H Q I hw
 rw[evalPart_some]
 refine Hb (h pins s σ H _ I hw) λu s1 q0_ => ?_
 obtain ⟨x,H1,I1,r1,q1⟩ := q0_
 obtain ⟨i,rfl,q⟩:=q1
 obtain ⟨t,rfl⟩:=r1
 exact ⟨some i,H1,I1,.int i t,q⟩
def B0(X:Cx)(r:V->Option Int->Option Int->Hp->VK->Prop):Prop :=
 ∀(pins:List (Addr×Obj)) (s:Aj) (σ:St) (H:Hp) (x:V) (v vl vu:Value) (lo hi:Option Int) (sl:Addr) (Q:VK),Inv X pins σ H s->RelV x v->s.heap.IsSliceOf sl vl vu .none->Vo vl lo->Vo vu hi->r x lo hi H Q ->
  ∃T id,typeLookup (.type T) "__getitem__" = pure (some (.builtin id))/\s.TypeIs v T/\wpAny (model X.prog X.w) X.A (getItem v (.ref sl)) (EP X pins σ Q) X.xe s
theorem B0.or{r r':V->Option Int->Option Int->Hp->VK->Prop}(h:B0 X r)(h':B0 X r'):B0 X (λx lo hi H Q=>r x lo hi H Q\/r' x lo hi H Q):=by
 intro pins s σ H x v vl vu lo hi sl Q I rx hs pl pu q
 rcases q with q | q
 ·exact h pins s σ H x v vl vu lo hi sl Q I rx hs pl pu q
 ·exact h' pins s σ H x v vl vu lo hi sl Q I rx hs pl pu q
def W7(r:V->Option Int->Option Int->Hp->VK->Prop)(te:TE)(tl th:TO):TE:=λσ H Q=>te σ H λx H1=>tl σ H1 λl H2=>th σ H2 λu H3=>r x l u H3 Q
theorem gP{r:V->Option Int->Option Int->Hp->VK->Prop}(hr:B0 X r)(he:PE X e te)(hl:PO X lo tl)(hu:PO X hi th):PE X (.Subscript e (.Slice lo hi none p2) pos) (W7 r te tl th):=by
 intro pins s σ H Q I h
 refine Subscript_ (Hb (he pins s σ H _ I h) λv s1 q0_ => ?_)
 obtain ⟨x,H1,I1,r1,q1⟩ := q0_
 refine wpAny_Slice (Hb (hl pins s1 σ H1 _ I1 q1) λvl s2 ⟨l,H2,I2,pl,q2⟩=>Hb (hu pins s2 σ H2 _ I2 q2) λvu s3 q0_ => ?_)
 obtain ⟨u,H3,I3,pu,q3⟩ := q0_
 rw[evalPart_none]
 refine Al ?_
 have I4:Inv X pins σ H3 { s3 with heap:=s3.heap.push { cls:=.type "slice",data:=.fields #[vl,vu,.none] } }:=I3.kept (t':=s3.toks) λb ob q=>Ag _ q
 obtain ⟨T,id,hT,ht,hg⟩:=hr pins { s3 with heap:=s3.heap.push { cls:=.type "slice",data:=.fields #[vl,vu,.none] } } σ H3 x v vl vu l u s3.heap.objs.size Q I4 r1 (Heap.IsSliceOf.new ..) pl pu q3
 show wpAny (model X.prog X.w) X.A (subscriptTail e (.Slice lo hi none p2) v (.ref s3.heap.objs.size)) (EP X pins σ Q) X.xe { s3 with heap:=s3.heap.push { cls:=.type "slice",data:=.fields #[vl,vu,.none] } }
 exact tail_any (ops:=[.ref s3.heap.objs.size,v]) ht hT hg (by with_unfolding_all rfl)
def Xc(xs:List V)(lo hi:Option Int):List V:=(xs.drop (HT.sIx xs.length 0 lo)).take (HT.sIx xs.length xs.length hi - HT.sIx xs.length 0 lo)
theorem Vb(xs:List V)(lo hi:Option Int):(Xc xs lo hi).length<=xs.length:=by
 unfold Xc
 rw[Ig,List.length_drop]
 omega
def Q2(K:PySem.W.Frag):V->Option Int->Option Int->Hp->VK->Prop:=λx lo hi H Q=>∃a xs,x=.ref a/\To K H a xs /\
 ¬ (HT.sIx xs.length 0 lo=0/\HT.sIx xs.length xs.length hi=xs.length)/\∀p,H p=none->Q (.ref p) (upd H p (.tup (Xc xs lo hi)))
theorem zG:B0 X (Q2 X.K):=by
 intro pins s σ H x v vl vu lo hi sl Q I rx hs pl pu h
 obtain ⟨a,xs,rfl,hx,hw,q⟩:=h
 cases rx
 obtain ⟨its,r,ht,hz⟩:=I.tuple hx
 have hlen:its.toArray.size=xs.length:=by rw[Ao]; exact r.length.symm
 refine ⟨"tuple",_,Dq.lookup,ht.typeIs,?_⟩
 refine HT.getItem_tuple_cut ht hs pl pu (by rw[hlen]; exact hw) ?_ (by rw[hlen]; exact hz)
 rw[hlen]
 refine ⟨.ref s.heap.objs.size,_,I.laid (t':=s.toks) (o:=.tup (Xc xs lo hi)) (λb ob q=>Ag _ q) (Ah _) ?_,rfl,q _ (I.hok.fresh (Ah _))⟩
 exact ⟨Bm (Vb xs lo hi) hz,_,(r.drop (HT.sIx xs.length 0 lo)).take (HT.sIx xs.length xs.length hi - HT.sIx xs.length 0 lo),IsTup.new _ _⟩
def K8(K:PySem.W.Frag):R2:=λx y H Q=>∃a b xs ys,x=.ref a/\y=.ref b/\To K H a xs/\To K H b ys/\xs≠[]/\xs.length+ys.length<=Aw /\
 (ys=[]->Q (.ref a) H)/\(ys≠[]->∀p,H p=none->Q (.ref p) (upd H p (.tup (xs++ys))))
theorem Ek.nil_iff{xs:List V}{us:List Value}(r:Ek xs us):us=[]↔xs=[]:=by
 cases r with
 | nil=>simp
 | cons _ _=>simp
theorem wR:Uj X (Iz .Add) (K8 X.K):=by
 intro pins s σ H x y v u Q I rx ry h
 obtain ⟨a,b,xs,ys,rfl,rfl,ha,hb,hx,hz,q1,q2⟩:=h
 cases rx
 cases ry
 obtain ⟨its,r1,p1,_⟩:=I.tuple ha
 obtain ⟨its2,r2,p2,_⟩:=I.tuple hb
 refine HT.cat_tup p1 p2 (λz=>hx (r1.nil_iff.mp z)) (λz=>⟨.ref a,H,I,rfl,q1 (r2.nil_iff.mp z)⟩) (λz=>?_) (by rw[<- r1.length,<- r2.length]; exact hz)
 refine ⟨.ref s.heap.objs.size,_,I.laid (t':=s.toks) (o:=.tup (xs++ys)) (λb ob q=>Ag _ q) (Ah _) ?_,rfl,q2 (λw=>z (r2.nil_iff.mpr w)) _ (I.hok.fresh (Ah _))⟩
 exact ⟨by rw[Bj]; exact hz,_,r1.append r2,IsTup.new _ _⟩
end
def pE(n:Nat)(i:Int):Option Nat:=if 0<=i then (if i<n then some i.toNat else none) else if -(n:Int)<=i then some (i+n).toNat else none
def Sm{α:Type}(xs:List α)(i:Int):Option α:=(pE xs.length i).bind λj=>xs[j]?
theorem lN{n:Nat}{i:Int}{j:Nat}(h:pE n i=some j):seqIndex? i n=some j/\j<n /\ -(n:Int)<=i/\i<n:=by
 unfold pE at h
 by_cases h0:0<=i
 ·rw[if_pos h0] at h
  by_cases h1:i<n
  ·rw[if_pos h1] at h
   have e:i.toNat=j:=Ca h
   exact ⟨by rw[seqIndex_of h0 h1,e],by omega,by omega,h1⟩
  ·rw[if_neg h1] at h; cases h
 ·rw[if_neg h0] at h
  by_cases h1:-(n:Int)<=i
  ·rw[if_pos h1] at h
   have e:(i+n).toNat=j:=Ca h
   exact ⟨by rw[seqIndex_neg (by omega) h1,e],by omega,h1,by omega⟩
  ·rw[if_neg h1] at h; cases h
theorem cX{α:Type}{xs:List α}{i:Int}{v:α}(h:Sm xs i=some v):∃j,seqIndex? i xs.length=some j/\xs[j]? = some v/\j<xs.length /\ -(xs.length:Int)<=i/\i<xs.length:=by
 unfold Sm at h
 cases e:pE xs.length i with
 | none=>rw[e] at h; cases h
 | some j =>
  rw[e] at h
  obtain ⟨h1,h2,h3,h4⟩:=lN e
  exact ⟨j,h1,h,h2,h3,h4⟩
theorem dQ{α:Type}{xs:List α}{j:Nat}{v:α}(h:xs[j]? = some v):Sm xs (j:Int)=some v:=by
 have hj:j<xs.length:=(Aq.mp h).1
 have e:pE xs.length (j:Int)=some j:=by
  unfold pE
  rw[if_pos (by omega),if_pos (by omega)]; simp
 unfold Sm; rw[e]; exact h
def bV(b:Expr):Prop:=∀o i,subscripted b false o i=operate [o,i] (getItem o i)
def vN(X:Cx)(r:R2):Prop :=
 ∀(value slice:Expr) (pins:List (Addr×Obj)) (s:Aj) (σ:St) (H:Hp) (x y:V) (v u:Value) (Q:VK),Inv X pins σ H s->RelV x v->RelV y u->r x y H Q ->
  subscripted slice false v u=operate [v,u] (getItem v u)->wpAny (model X.prog X.w) X.A (subscriptTail value slice v u) (EP X pins σ Q) X.xe s
def W0(X:Cx)(id:String)(r:V->List V->Hp->VK->Prop):Prop :=
 ∀(pins:List (Addr×Obj)) (s:Aj) (σ:St) (H:Hp) (x:V) (xs:List V) (v:Value) (us:List Value) (Q:VK),Inv X pins σ H s->RelV x v->Ek xs us->r x xs H Q ->
  wpAny (model X.prog X.w) X.A (call (.builtin id) (v::us)) (EP X pins σ Q) X.xe s
section
variable{X:Cx}{a b:Expr}{ta tb:TE}{pos:Pos}
theorem vN.or{r r':R2}(h:vN X r)(h':vN X r'):vN X (λx y H Q=>r x y H Q\/r' x y H Q):=by
 intro value slice pins s σ H x y v u Q I rx ry q hs
 rcases q with q | q
 ·exact h value slice pins s σ H x y v u Q I rx ry q hs
 ·exact h' value slice pins s σ H x y v u Q I rx ry q hs
theorem Yl{r:R2}(hr:vN X r)(ha:PE X a ta)(hb:PE X b tb)(hs:bV b):PE X (.Subscript a b pos) (L4 r ta tb):=by
 intro pins s σ H Q I h
 exact Subscript_ (w8 ha hb I h λv u s2 x y H2 I2 rx ry q=>hr a b pins s2 σ H2 x y v u Q I2 rx ry q (hs _ _))
def G6(K:PySem.W.Frag):R2:=λx y H Q=>∃p xs i v,x=.ref p/\y=.int i/\Oy K H p xs/\Sm xs i=some v/\Q v H
def N4(K:PySem.W.Frag):R2:=λx y H Q=>∃p xs i v,x=.ref p/\y=.int i/\To K H p xs/\Sm xs i=some v/\Q v H
def N8:R2:=λx y H Q=>∃z i c,x=.str z/\y=.int i/\z.length<=Aw/\Sm z.cps.toList i=some c/\Q (.str ⟨#[c]⟩) H
theorem Qm:vN X (G6 X.K):=by
 intro value slice pins s σ H x y v u Q I rx ry h hs
 obtain ⟨p,xs,i,z,rfl,rfl,hq,he,q⟩:=h
 cases rx
 obtain ⟨t,rfl⟩:=ry
 obtain ⟨its,r,pl,hz⟩:=I.list hq
 obtain ⟨j,h1,h2,h3,h4,h5⟩:=cX he
 obtain ⟨w,ew,rw'⟩:=r.get h2
 have hl:=r.length
 have hn:=Up
 have fin:EP X pins σ Q w s:=⟨z,H,I,rw',q⟩
 by_cases h0:0<=i
 ·have hj:i.toNat=j:=by
   rw[seqIndex_of h0 h5] at h1
   exact Ca h1
  exact item_listR pl.isList h0 (by omega) (by rw[hj]; simpa using ew) fin hs
 ·have hj:(i+(its.toArray.size:Int)).toNat=j:=by
   rw[seqIndex_neg (by omega) h4] at h1
   rw[Ao,<- hl]
   exact Ca h1
  exact uN (x:=w) pl.isList.typeIs O2.lookup
   (wpAny_getItem_list_neg (Q:=λr s'=>r=w/\EP X pins σ Q r s') pl.isList (by omega) (by rw[Ao] <;> omega) (by omega) (by rw[hj]; simpa using ew) ⟨rfl,fin⟩) hs
theorem P8:vN X (N4 X.K):=by
 intro value slice pins s σ H x y v u Q I rx ry h hs
 obtain ⟨p,xs,i,z,rfl,rfl,hq,he,q⟩:=h
 cases rx
 obtain ⟨t,rfl⟩:=ry
 obtain ⟨its,r,pl,hz⟩:=I.tuple hq
 obtain ⟨j,h1,h2,h3,h4,h5⟩:=cX he
 obtain ⟨w,ew,rw'⟩:=r.get h2
 have hl:=r.length
 have hn:=Up
 have fin:EP X pins σ Q w s:=⟨z,H,I,rw',q⟩
 exact uN (x:=w) pl.typeIs slot_tuple_getitem.lookup
  (getItem_tuple (j:=j) (Q:=λr s'=>r=w/\EP X pins σ Q r s') pl (by omega) (by omega) (by rw[Ao,<- hl]; exact h1) (by simpa using ew) ⟨rfl,fin⟩) hs
theorem A3:vN X N8:=by
 intro value slice pins s σ H x y v u Q I rx ry h hs
 obtain ⟨z,i,c,rfl,rfl,hz,he,q⟩:=h
 obtain ⟨t,rfl⟩:=rx
 obtain ⟨t',rfl⟩:=ry
 obtain ⟨j,h1,h2,h3,h4,h5⟩:=cX he
 have hl:z.cps.toList.length=z.length:=by simp [Ex]
 rw[hl] at h1 h4 h5
 have hn:=Up
 exact tail_any (typeIs_str s z t) slot_str_getitem.lookup (getItem_str (c:=c) (by
  have e1:decide (i < -(2 ^ 63:Int))=false:=decide_eq_false (by omega)
  have e2:decide (i ≥ 2 ^ 63)=false:=decide_eq_false (by omega)
  rw[e1,e2,Bool.or_false]) (by rw[h1]; simpa using h2) ⟨.str ⟨#[c]⟩,H,I.tok _,⟨_,rfl⟩,q⟩) hs
def U5(K:PySem.W.Frag):R2:=λx y H Q=>G6 K x y H Q\/N4 K x y H Q\/N8 x y H Q
theorem zX:vN X (U5 X.K):=Qm.or (P8.or A3)
theorem jD(its:List Value)(n j:Nat)(u:Value):Vm (·.setIfInBounds j u) { cls:=.type "list",data:=.seq its.toArray n }={ cls:=.type "list",data:=.seq (its.set j u).toArray n }:=by
 simp [Vm]
theorem Inv.lst{pins:List (Addr×Obj)}{σ:St}{H:Hp}{s:Aj}{p:Addr}{xs:List V}(I:Inv X pins σ H s)(h:H p=some (.lst xs)):∃(its:List Value) (n:Nat),Ek xs its/\s.heap.get? p=some { cls:=.type "list",data:=.seq its.toArray n }/\xs.length<=Aw:=by
 obtain ⟨z,its,n,r,e⟩:=I.hok p _ h
 exact ⟨its,n,r,e,z⟩
theorem Inv.lstUpd{pins:List (Addr×Obj)}{σ:St}{H:Hp}{s:Aj}{p:Addr}{xs ys:List V}{its its':List Value}{n n':Nat}{f:Obj->Obj}(I:Inv X pins σ H s)(h:H p=some (.lst xs))(ho:s.heap.get? p=some { cls:=.type "list",data:=.seq its.toArray n })(hf:f { cls:=.type "list",data:=.seq its.toArray n }={ cls:=.type "list",data:=.seq its'.toArray n' })(r:Ek ys its')(hz:ys.length<=Aw)(t:Nat):Inv X pins σ (upd H p (.lst ys)) { s with heap:=s.heap.update p f,toks:=t }:=by
 have e:(s.heap.update p f).get? p=some { cls:=.type "list",data:=.seq its'.toArray n' }:=by
  rw[Ks f ho (by rw[hf] <;> rfl),hf]
 refine I.write (x:=p) (e:=p) (by rw[h]; trivial) (.inl rfl) (λb u hb q=>(kC _ _ (Lo hb)).trans q) ⟨_,e⟩ ?_
 exact ⟨hz,its',n',r,e⟩
def K3:V->V->V->Hp->(Hp->Prop)->Prop:=λo i v H Q=>∃p xs k j,o=.ref p/\i=.int k/\H p=some (.lst xs)/\pE xs.length k=some j/\Q (upd H p (.lst (xs.set j v)))
theorem Yk:N7 X K3:=by
 intro pins s σ H o i v ov iv u Q I ro ri rv h
 obtain ⟨p,xs,k,j,rfl,rfl,hp,hj,q⟩:=h
 cases ro
 obtain ⟨t,rfl⟩:=ri
 obtain ⟨its,n,r,ho,hz⟩:=I.lst hp
 obtain ⟨h1,h2,h3,h4⟩:=lN hj
 have hl:=r.length
 have hn:=Up
 have I':Inv X pins σ (upd H p (.lst (xs.set j v))) { s with heap:=s.heap.update p (Vm (·.setIfInBounds j u)) } :=
  I.lstUpd hp ho (jD its n j u) (r.set rv j) (by rw[Hi]; exact hz) s.toks
 by_cases h0:0<=k
 ·have hk:k.toNat=j:=by
   rw[seqIndex_of h0 h4] at h1
   exact Ca h1
  exact PySem.W.ki_setAt ho h0 (by omega) (by rw[Ao,<- hl]; exact h4) (by rw[hk]; exact ⟨_,I',q⟩)
 ·have hk:(k+(its.toArray.size:Int)).toNat=j:=by
   rw[seqIndex_neg (by omega) h3] at h1
   rw[Ao,<- hl]
   exact Ca h1
  exact PySem.W.ki_setBack ho (by omega) (by rw[Ao,<- hl]; exact h3) (by omega) (by rw[hk]; exact ⟨_,I',q⟩)
theorem cS(lo hi:Option Int)(n:Nat):(Mr lo hi none n).1=((HT.sIx n 0 lo:Nat):Int)/\(Mr lo hi none n).2.1=((HT.sIx n n hi:Nat):Int)/\(Mr lo hi none n).2.2=1:=by
 refine ⟨?_,?_,rfl⟩
 ·cases lo with
  | none=>simp [Mr,HT.sIx]
  | some i =>
   simp only[Mr,HT.sIx,Option.getD_none,show (1:Int) > 0 by decide,if_true]
   by_cases h:i<0
   ·simp only[h,if_true] <;> omega
   ·simp only[h,if_false] <;> omega
 ·cases hi with
  | none=>simp [Mr,HT.sIx]
  | some i =>
   simp only[Mr,HT.sIx,Option.getD_none,show (1:Int) > 0 by decide,if_true]
   by_cases h:i<0
   ·simp only[h,if_true] <;> omega
   ·simp only[h,if_false] <;> omega
theorem Zi(its:List Value)(lo hi:Option Int):slicePick its.toArray lo hi none=((its.drop (HT.sIx its.length 0 lo)).take (HT.sIx its.length its.length hi - HT.sIx its.length 0 lo)).toArray:=by
 obtain ⟨h1,h2,h3⟩:=cS lo hi its.toArray.size
 unfold slicePick
 rw[h1,h2,h3]
 simp only[sliceRange_one,pick_run,Ao] <;> rfl
def A1(K:PySem.W.Frag):V->Option Int->Option Int->Hp->VK->Prop:=λx lo hi H Q=>∃a xs,x=.ref a/\Oy K H a xs/\∀p,H p=none->Q (.ref p) (upd H p (.lst (Xc xs lo hi)))
theorem vP:B0 X (A1 X.K):=by
 intro pins s σ H x v vl vu lo hi sl Q I rx hs pl pu h
 obtain ⟨a,xs,rfl,hx,q⟩:=h
 cases rx
 obtain ⟨its,r,ht,hz⟩:=I.list hx
 have hlen:=r.length
 refine ⟨"list",_,O2.lookup,ht.isList.typeIs,?_⟩
 refine wpAny_getItem_list_slice ht.isList hs pl pu .none (by simp) ?_ (by rw[Ao] <;> omega)
 rw[Zi,<- hlen]
 refine ⟨.ref s.heap.objs.size,_,I.laid (t':=s.toks) (o:=.lst (Xc xs lo hi)) (λb ob q=>Ag _ q) (Ah _) ?_,rfl,q _ (I.hok.fresh (Ah _))⟩
 exact ⟨Bm (Vb xs lo hi) hz,_,0,(r.drop (HT.sIx xs.length 0 lo)).take (HT.sIx xs.length xs.length hi - HT.sIx xs.length 0 lo),Ay _ rfl⟩
theorem Zb:Jn X (.type "tuple") (λxs H Q=>∃p ys,xs=[.ref p]/\((Oy X.K H p ys/\∀l,H l=none->Q (.ref l) (upd H l (.tup ys)))\/(To X.K H p ys/\Q (.ref p) H))):=by
 intro pins s σ H xs us Q I r h
 obtain ⟨p,ys,rfl,h⟩:=h
 obtain ⟨u,rfl,rx⟩:=vals1 r
 cases rx
 rcases h with ⟨hq,q⟩ | ⟨hq,q⟩
 ·obtain ⟨its,r',pl,hz⟩:=I.list hq
  have hlen:=r'.length
  refine call_tuple_list pl.isList (λh' kp=>?_) (by simp only[Ao] <;> omega)
  have I1:Inv X pins σ H { s with heap:=h' }:=I.kept (t':=s.toks) kp
  have I2:Inv X pins σ (upd H h'.objs.size (.tup ys)) { s with heap:=h'.push { cls:=.type "tuple",data:=.seq its.toArray } } :=
   I1.laid (t':=s.toks) (λb o e=>Ag _ e) (Ah _) (show Hu X.prog X.w _ _ _ (.tup ys) from ⟨hz,its,r',IsTup.new _ _⟩)
  exact ⟨.ref h'.objs.size,_,I2,rfl,q _ (I1.hok.fresh (Ah _))⟩
 ·obtain ⟨its,r',pl,hz⟩:=I.tuple hq
  exact call_tuple_same pl ⟨.ref p,H,I,rfl,q⟩
def V1(K:PySem.W.Frag)(T:String)(x:V)(H:Hp):Prop:=match x with
 | .str _=>T = "str"
 | .int _=>T = "int"
 | .ref p=>(T = "list" /\ ∃xs,Oy K H p xs)\/(T = "tuple" /\ ∃o,K.lookup p=some o/\o.cls=.type "tuple" /\ o.dict=none) \/
   (T = "dict" /\ ((∃kvs,H p=some (.dK kvs))\/∃kvs,H p=some (.dT kvs)))\/(T = "set" /\ ∃S n,H p=some (.set S n))
 | _=>False
theorem t6{pins:List (Addr×Obj)}{σ:St}{H:Hp}{s:Aj}{T:String}{x:V}{v:Value}(I:Inv X pins σ H s)(r:RelV x v)(ty:V1 X.K T x H):s.TypeIs v T/\∀a,v=.ref a->∃ob,s.heap.get? a=some ob/\ob.dict=none:=by
 cases x with
 | str z =>
  obtain ⟨t,rfl⟩:=r
  cases (show T = "str" from ty)
  exact ⟨typeIs_str s z t,λ_ e=>nomatch e⟩
 | int i =>
  obtain ⟨t,rfl⟩:=r
  cases (show T = "int" from ty)
  exact ⟨typeIs_int s i t,λ_ e=>nomatch e⟩
 | ref p =>
  cases r
  rcases ty with ⟨rfl,xs,hq⟩ | ⟨rfl,o,hk,hc,hd⟩ | ⟨rfl,hk⟩ | ⟨rfl,S,n,hk⟩
  ·obtain ⟨its,_,pl,_⟩:=I.list hq
   refine ⟨pl.isList.typeIs,λa e=>?_⟩
   cases e
   obtain ⟨o,n,e,c,hd,_⟩:=pl
   exact ⟨o,e,hd⟩
  ·refine ⟨⟨o,I.kIn p o hk,hc⟩,λa e=>?_⟩
   cases e
   exact ⟨o,I.kIn _ o hk,hd⟩
  ·have z:∃o,s.heap.get? p=some o/\o.ExactDict:=by
    rcases hk with ⟨kvs,hk⟩ | ⟨kvs,hk⟩
    ·obtain ⟨_,_,_,_,o,_,_,e,ex,_⟩:=I.hok p _ hk
     exact ⟨o,e,ex⟩
    ·obtain ⟨_,_,_,_,o,_,_,e,ex,_⟩:=I.hok p _ hk
     exact ⟨o,e,ex⟩
   obtain ⟨o,e,ex⟩:=z
   refine ⟨⟨o,e,ex.1⟩,λa e2=>?_⟩
   cases e2
   exact ⟨o,e,ex.2.1⟩
  ·obtain ⟨o,_,_,_,e,ex,_⟩:=I.hok p _ hk
   refine ⟨⟨o,e,ex.1⟩,λa e2=>?_⟩
   cases e2
   exact ⟨o,e,ex.2.1⟩
 | _=>exact Hw ty
def W2(K:PySem.W.Frag)(T:String)(r:V->List V->Hp->VK->Prop)(to:TE)(t:TA):TE:=λσ H Q=>to σ H λx H1=>V1 K T x H1/\t σ H1 λxs H2=>r x xs H2 Q
variable{o e:Expr}{es:List Expr}{to:TE}{t:TA}{name:Str}{apos cpos:Pos}{T id:String}{r:V->List V->Hp->VK->Prop}
theorem Zr(pa:PlainAttrs T)(slot:Slot T name id)(hty:typeOf (.builtin id)=pure (.type "method_descriptor"))(hm:W0 X id r)(ho:PE X o to)(ha:PA X (e::es) t)
  (hbase:Jp o name X.env (eval o X.env)=eval o X.env:=by rfl)
  (hfew:((Gc cpos (Bd (e::es) X.env)).all (λx=>!x.1) && (Vk cpos (Ms [] X.env)).all (λx=>x.1.isSome)
   && decide ((e::es).length+([]:List Ke).length+(if ([]:List Ke).isEmpty then 0 else 1)<30))=true:=by rfl)
  (hline:(apos.endLine == cpos.line)=true:=by rfl) (hs:Bd (e::es) X.env=(false,eval e X.env)::Bd es X.env:=by rfl) (hplain:(Gc cpos (Bd es X.env)).any (·.1)=false:=by rfl) :
  PE X (.Call (.Attribute o name apos) (e::es) [] cpos) (W2 X.K T r to t):=by
 intro pins s σ H Q I h
 refine wpAny_Call_method_late hbase hfew hline rfl (Hb (ho pins s σ H _ I h) λv s1 q0_ => ?_)
 obtain ⟨x,H1,I1,r1,ty,q1⟩ := q0_
 obtain ⟨h1,h2⟩:=t6 I1 r1 ty
 refine ⟨T,id,pa,slot,hty,h1,h2,?_⟩
 have hA:=ha cpos pins s1 σ H1 _ I1 q1
 rw[hs] at hA ⊢
 refine Calls.callWith_builtin (by show (false || (Gc cpos (Bd es X.env)).any (·.1))=false; rw[hplain] <;> rfl) (Calls.evalArgs_plain ?_)
 exact Hb hA λus s2 ⟨vs,H2,I2,r2,q2⟩=>hm pins s2 σ H2 x vs v us Q I2 r1 r2 q2
end
def M6(X:Cx)(id:String)(r:V->List V->Hp->VK->Prop):Prop :=
 ∀(pins:List (Addr×Obj)) (s:Aj) (σ:St) (H:Hp) (x:V) (xs:List V) (v:Value) (us:List Value) (Q:VK),Inv X pins σ H s->RelV x v->Ek xs us->r x xs H Q ->
  wpAny (model X.prog X.w) X.A (call (.builtin id) (v::us)) (EP X pins σ Q) X.xe s
theorem Ek.one:∀{x:V} {us:List Value},Ek [x] us->∃u,us=[u]/\RelV x u
 | _,_,.cons r .nil=>⟨_,rfl,r⟩
section
variable{X:Cx}{pins:List (Addr×Obj)}{σ:St}{H:Hp}{s:Aj}{l b:Addr}{xs ys zs:List V}
theorem Inv.lset{its its':List Value}{n:Nat}{f:Array Value->Array Value}{t':Nat}(I:Inv X pins σ H s)(hH:H l=some (.lst xs))(e:s.heap.get? l=some { cls:=.type "list",data:=.seq its.toArray n })(hf:f its.toArray=its'.toArray)(hv:Ek ys its')(hz:ys.length<=Aw):Inv X pins σ (upd H l (.lst ys)) { s with heap:=s.heap.update l (Vm f),toks:=t' }:=by
 have q:=PySem.IsL.update e f
 rw[hf] at q
 refine I.write (x:=l) (e:=l) (by rw[hH]; exact trivial) (.inl rfl) (λb' u hb hu=>(kC s.heap (Vm f) (Lo hb)).trans hu) ⟨_,q⟩ ?_
 exact ⟨hz,its',_,hv,q⟩
theorem Inv.lnew{its:List Value}{t':Nat}(I:Inv X pins σ H s)(hv:Ek ys its)(hz:ys.length<=Aw):Inv X pins σ (upd H s.heap.objs.size (.lst ys)) { s with heap:=s.heap.push { cls:=.type "list",data:=.seq its.toArray },toks:=t' } :=
 I.laid (λ_ _ q=>Ag _ q) (Ah _) ⟨hz,its,0,hv,Ay _ rfl⟩
theorem Inv.fresh(I:Inv X pins σ H s):H s.heap.objs.size=none:=I.hok.fresh (Ah _)
theorem Inv.lstM(I:Inv X pins σ H s)(hH:H l=some (.lst xs)):xs.length<=Aw/\∃(its:List Value) (n:Nat),Ek xs its/\xs.length=its.length/\s.heap.get? l=some { cls:=.type "list",data:=.seq its.toArray n }:=by
 obtain ⟨z,its,n,r,e⟩:=I.hok l _ hH
 exact ⟨z,its,n,r,r.length,e⟩
theorem qY{n:Nat}(h:n<=Aw):Mc n=false:=by
 unfold Mc
 exact decide_eq_false (by omega)
end
section
variable{X:Cx}
def vH:V->List V->Hp->VK->Prop:=λx vs H Q=>∃l xs y,x=.ref l/\vs=[y]/\H l=some (.lst xs)/\xs.length<Aw/\Q .non (upd H l (.lst (xs++[y])))
theorem Nh:M6 X "list.append" vH:=by
 intro pins s σ H x vs v us Q I rx rv h
 obtain ⟨l,xs,y,rfl,rfl,hH,hz,q⟩:=h
 cases rx
 obtain ⟨u,rfl,ru⟩:=rv.one
 obtain ⟨z,its,n,r,hl,e⟩:=I.lstM hH
 refine On F.slot_list_append ⟨_,e,rfl⟩ F.entry_list_append (F.args_list_append_2 _ _) (PySem.list_append l its.toArray n u (by rw[Ao]; omega)) ⟨e,?_⟩
 refine ⟨.non,_,I.lset (its':=its++[u]) hH e (by simp) (r.append (.cons ru .nil)) ?_,rfl,q⟩
 rw[Bj,Er]
 omega
def xE:V->List V->Hp->VK->Prop:=λx vs H Q=>∃l b xs zs,x=.ref l/\vs=[.ref b]/\H l=some (.lst xs)/\H b=some (.lst zs)/\xs.length+zs.length<=Aw/\Q .non (upd H l (.lst (xs++zs)))
theorem B6:M6 X "list.extend" xE:=by
 intro pins s σ H x vs v us Q I rx rv h
 obtain ⟨l,b,xs,zs,rfl,rfl,hH,hB,hz,q⟩:=h
 cases rx
 obtain ⟨u,rfl,ru⟩:=rv.one
 cases ru
 obtain ⟨z,its,n,r,hl,e⟩:=I.lstM hH
 obtain ⟨z2,its2,n2,r2,hl2,e2⟩:=I.lstM hB
 have hsz:its.toArray.size+its2.toArray.size<=Aw:=by rw[Ao,Ao]; omega
 have hlong:¬ (!its.toArray.isEmpty && Mc (its.toArray.size+its2.toArray.size))=true:=by
  rw[qY hsz,Na]
  exact Jj
 refine On F.slot_list_extend ⟨_,e,rfl⟩ F.entry_list_extend (F.args_list_extend_2 _ _)
  (AutoSeq1.list_extend_list_list_0 l its.toArray n b its2.toArray n2 hlong (by rw[Ao]; omega) (by omega)) ⟨e,e2,?_⟩
 refine ⟨.non,_,I.lset (its':=its++its2) hH e (by simp) (r.append r2) ?_,rfl,q⟩
 rw[Bj]
 omega
def C7:R2:=λx y H Q=>∃l b xs zs,x=.ref l/\y=.ref b/\H l=some (.lst xs)/\H b=some (.lst zs)/\xs.length+zs.length<=Aw/\∀p,H p=none->Q (.ref p) (upd H p (.lst (xs++zs)))
theorem zT:Uj X (Iz .Add) C7:=by
 intro pins s σ H x y v u Q I rx ry h
 obtain ⟨l,b,xs,zs,rfl,rfl,hH,hB,hz,q⟩:=h
 cases rx
 cases ry
 obtain ⟨z,its,n,r,hl,e⟩:=I.lstM hH
 obtain ⟨z2,its2,n2,r2,hl2,e2⟩:=I.lstM hB
 refine PySem.P.add_list e e2 ?_ (by rw[Ao,Ao]; omega)
 have ea:its.toArray++its2.toArray=(its++its2).toArray:=by simp
 rw[ea]
 exact ⟨.ref _,_,I.lnew (t':=s.toks) (r.append r2) (by rw[Bj]; omega),rfl,q _ I.fresh⟩
end
end L2
namespace Att
open PySem PySem.W PySem.Calls PyProof.Rows
theorem Vq{P:Params}{h:Heap}:∀(ns:List Int) (vs:List Value),WellAll P h vs (ns.map WData.int)->Jc vs ns:=by
 intro ns
 induction ns with
 | nil =>
  intro vs w
  rw[List.map_nil] at w
  cases w
  exact .nil
 | cons n ns ih =>
  intro vs w
  rw[Au] at w
  cases w with
  | cons a b =>
   cases a
   exact .cons _ _ (ih _ b)
theorem nO{l:OpenLaw}{n:Nat}(hn:l.most=some n){P:Params}{h:Heap}{args:List WData}{vals:List Value}(hpre:l.row.toRowW.claim.pre args=true)(hwl:WellAll P h vals args):∃a vs ns,vals=[Cr a]/\args=[WData.list (ns.map WData.int)]/\h.get? a=some { cls:=.type "list",data:=.seq vs.toArray }/\Jc vs ns/\ns.length<=n:=by
 have hsh:WShape.hasAll [] args [.list .int]=true:=(pre_splitW hpre).1
 have hc:l.pre.holds [] { args:=args }=true:=(pre_splitW hpre).2
 obtain ⟨d,r,rfl,h1,h2⟩:=hasAllW_cons hsh
 obtain rfl:=hasAllW_nil h2
 obtain ⟨xs,rfl,h3⟩:=hasW_list h1
 obtain ⟨ns,rfl⟩:=items_int h3
 have hlen:ns.length<=n:=by
  unfold OpenLaw.pre at hc
  have h4:(WTm.not (.lt (.lit (.int (n:Int))) (.len (.arg 0)))).holds [] { args:=[.list (ns.map .int)] }=true:=by
   have h4:=(holds_andW hc).1
   rw[hn] at h4
   exact h4
  have h5:=condW_of h4 (w_not (w_lt w_lit (w_len_list (w_arg rfl))))
  rw[Ae] at h5
  refine Nat.le_of_not_lt λq=>?_
  have q':(n:Int)<((ns.length:Nat):Int):=by omega
  first
   | (rw[decide_eq_true q'] at h5; exact absurd h5 (by decide))
   | (simp at h5; omega)
 cases hwl with
 | cons w1 w2 =>
  cases w2
  cases w1 with
  | list ho hall=>exact ⟨_,_,ns,rfl,rfl,ho,Vq ns _ hall,hlen⟩
theorem oM(l:OpenLaw)(args:List WData):l.row.toRowW.claim.post args (.bool true) args=true :=
 postW_of (r:=l.row.toRowW) (X:=(true == true))
  (show WShape.has [] (.bool true) .bool=true by first | rfl | decide | simp [WShape.has,WShape.arms,WShape.armsAll])
  (show (WTm.eq .res (.lit (.bool true))).value [] { args:=args,res:=some (.bool true),after:=args }=some (.bool (true == true)) from w_eq_bool (w_res rfl) w_lit) rfl
theorem attach_call{l:OpenLaw}{n:Nat}{q:Bu}{loose:List Str}{XP:(Str->Option Value)->Heap->Prop}{YP:World->Heap->Prop}{d:DefRec}(hn:l.most=some n)(hdf:d.params.defaults=[])(call:∀(w:World) (s₀ s₁:Aj) (mg mb:Str->Option Value) (fa:Addr) (o:Obj) (pm cd doc:Value) (a:Addr) (vs:List Value) (ns:List Int),Ground q loose [] XP w s₀ mg mb s₁.heap->YP w s₁.heap->s₁.heap.get? fa=some o->o.data=.func (docDef d.name d.params d.body d.scope pm cd doc)->s₁.heap.CodeRec cd d.name->mg d.name=some (.ref fa)->s₁.heap.get? a=some { cls:=.type "list",data:=.seq vs.toArray }->Jc vs ns->ns.length<=n->s₁.gens=#[]->Ld (model l.prog w) Vr (.call (.ref fa) ⟨[.ref a],[]⟩) (λr s'=>r=.ok (.ret (.bool true))/\OldK s₁.heap s'.heap/\s'.os=s₁.os/\Py s'.gens) s₁):WalkO q loose XP YP l.row.toRowW d [] (λf vs=>PySem.call f vs):=by
 intro w s₀ s₁ mg mb G Y fa o pm cd doc dV kV ho hd hcd hD hmg hg args vals as hpre hlay hrd hwl hlo
 obtain rfl:dV=.none:=Dflts.none hD hdf
 obtain rfl:kV=.none:=Dflts.noKw hD
 obtain ⟨a,vs,ns,rfl,rfl,hobj,hints,hlen⟩:=nO hn hpre hwl
 refine enter_call (Jb (call w s₀ s₁ mg mb fa o pm cd doc a vs ns G Y ho (fd_plain hd) hcd hmg hobj hints hlen hg) λr s' hq=>?_)
 obtain ⟨rfl,h2,h3,h4⟩:=hq
 exact ⟨.inl ⟨.bool true,.bool true,[],rfl,λ_=>rfl,.bool true,oM l _,λ_=>⟨Dw,λ_ hm=>(nomatch hm)⟩⟩,h2,h3,h4⟩
end Att
namespace L2
open PySem PySem.Spec PyProof.Rows
theorem aB:∀{vs:List Value} {ns:List Int},Jc vs ns->Ek (ns.map V.int) vs
 | _,_,.nil=>.nil
 | _,_,.cons n t h=>.cons ⟨t,rfl⟩ (aB h)
def Mn(s:Stmt):Arguments:=match s with
 | .FunctionDef _ a _ _ _ _ _ _ _ _=>a
 | _=>{ posonlyargs:=[],args:=[],vararg:=none,kwonlyargs:=[],kw_defaults:=[],kwarg:=none,defaults:=[] }
def Ij(s:Stmt):List Stmt:=match s with
 | .FunctionDef _ _ b _ _ _ _ _ _ _=>b
 | _=>[]
def Bo(s:Stmt):Scope:=match s with
 | .FunctionDef _ _ _ _ _ _ sc _ _ _=>sc
 | _=>{ kind:=.function,names:=[],isGenerator:=false,isCoroutine:=false }
abbrev Fd:pD:=λ_ _ _ _ _ _=>False
abbrev E0:XK:=λ_ _ _=>False
theorem Di{X:Cx}:Pp Fd X E0:=λ_ _ _ _ _ _ _ h=>h.elim
structure Fun(K:PySem.W.Frag)(x qual:Str)(st:Stmt)(f:Addr)(fd:Cb):Prop where
 ex:∃(oc:Value) (od:Option Addr) (kV doc pm:Value) (an:Option Addr) (cdv ct:Value) (osl:Array (Option Value)),
  fd=PySem.W.fnOf x qual (Mn st) (Ij st) (Bo st) .none kV doc pm an cdv ct/\K.lookup f=some ⟨oc,od,.func fd,osl⟩/\PySem.W.codeIn K cdv qual=true
 kp:PySem.W.keepIn K (.ref f)=true
section
variable{P:Bu}{w:World}{K:PySem.W.Frag}{mg:Str->Option Value}{base:Heap}
theorem Fun.ok{x qual:Str}{st:Stmt}{f:Addr}{fd:Cb}{N ps:List Str}{k:Nat}{sp:Sp}(F:Fun K x qual st f fd)(S:FnScope N ps (Bo st))(len:∀vs H Q E,sp vs H Q E->vs.length=ps.length)(hbody:∀(cdv:Value) (A:Df) (outer:List Env) (s:Aj) (H:Hp) (vs:List V) (Q:VK) (E:XK),Room k (A.deeper (Qx qual (Bo st) s.heap.objs.size f cdv))->sp vs H Q E->∃t,jI (Ku Fd P w K mg base N qual (Bo st) f cdv A outer s H E).nox (Ij st) t/\t { nx:=λ_ H'=>Q .non H',rt:=Q } (start N vs) H):FnOk P w K mg base Fd (k+1) f fd ps sp:=by
 obtain ⟨oc,od,kV,doc,pm,an,cdv,ct,osl,rfl,lk,hcd⟩:=F.ex
 refine M3 lk hcd S len λA outer s H vs Q E hr hsp=>?_
 obtain ⟨t,h,q⟩:=hbody cdv A outer s H vs Q E hr hsp
 exact ⟨t,h.nox,q⟩
theorem Fun.binds{x qual:Str}{st:Stmt}{f:Addr}{fd:Cb}{ps:List Str}(F:Fun K x qual st f fd)(h:∀(kV doc pm:Value) (an:Option Addr) (cdv ct:Value) (us:List Value),us.length=ps.length->bindArgs (PySem.W.fnOf x qual (Mn st) (Ij st) (Bo st) .none kV doc pm an cdv ct) ⟨us,[]⟩=pure (ps.zip us)):Binds K fd ps []:=by
 obtain ⟨oc,od,kV,doc,pm,an,cdv,ct,osl,rfl,lk,hcd⟩:=F.ex
 exact .all (h kV doc pm an cdv ct)
theorem qJ{x qual:Str}{st:Stmt}{f:Addr}{oc:Value}{od an:Option Addr}{osl:Array (Option Value)}{kV doc pm cdv ct:Value}(l:K.lookup f=some ⟨oc,od,.func (PySem.W.fnOf x qual (Mn st) (Ij st) (Bo st) .none kV doc pm an cdv ct),osl⟩)(c:PySem.W.codeIn K cdv qual=true)(k:PySem.W.keepIn K (.ref f)=true):Fun K x qual st f (PySem.W.fnOf x qual (Mn st) (Ij st) (Bo st) .none kV doc pm an cdv ct):=⟨⟨oc,od,kV,doc,pm,an,cdv,ct,osl,rfl,l,c⟩,k⟩
end
theorem pA{n:Nat}(h:n<=1000):n<Aw:=Nat.lt_of_le_of_lt h (by decide)
section
variable{X:Cx}
theorem pv(i:Nat){x:Str}{pos:Pos}(hN:X.N[i]? = some x:=by rfl)(hv:P0 X.env.scope x:=by first | exact Cz rfl | exact Or.inr (Cz rfl) | exact Or.inr (Or.inr rfl))(hd:(x == ("__debug__" : Str))=false:=by decide)(hcd:(x == ("__classdict__" : Str))=false:=by decide):PE X (.Name x pos) (Ud i):=i8 hN hv hd hcd
end
theorem jS{A B:Prop}(h:B):if false=true then A else B:=by
 rw[if_neg Jj]
 exact h
theorem nH{A B:Prop}(h:A):if true=true then A else B:=by
 rw[if_pos rfl]
 exact h
theorem R5{c A B:Prop}[Decidable c](h1:c->A)(h2:¬ c->B):if c then A else B:=by
 by_cases h:c
 ·rw[if_pos h]
  exact h1 h
 ·rw[if_neg h]
  exact h2 h
def Yc(H H':Hp):Prop:=∀b o,H b=some o->H' b=some o
theorem Yc.refl(H:Hp):Yc H H:=λ_ _ h=>h
end L2
namespace Nd
open PySem PySem.Spec PyProof.Rows L2
def Fw(X:Cx)(scope:Scope)(cl:List (Str×Addr))(N:List Str)(fp:List Addr)(s:Aj)(H:Hp):Cx where
 prog:=X.prog
 w:=X.w
 K:=X.K
 mg:=X.mg
 base:=X.base
 A:=X.A
 N:=N
 s₀:=s
 H₀:=H
 env:=compEnvC scope (Dz (s.heap.objs.size+1) scope.names cl) s.heap.objs.size X.env
 outer:=X.stack
 stack:=X.stack
 ex:=fp
 fn:=λy=>decide (scope.names.lookup y=some Dj)
 calm:=X.calm
 pn:=[]
 xe:=λ_ _=>False
section
variable{prog:Bu}{w:World}{A:Df}{R:Result->Aj->Prop}{s:Aj}
theorem Xj{elt tg iter:Expr}{ifs:List Expr}{scope:Scope}{pos:Pos}{it acc:Value}{env:Env}(J:Nat->Aj->Prop) (turn:∀n s,J n s->wpAny (model prog w) A (Sb it) (λr s1=>match r with
    | none=>R (.ok .next) s1
    | some v=>wpAny (model prog w) A (Tf tg it v) (λ_ s2=>wpAny (model prog w) A (assign tg env v) (λ_ s3 =>
      wpAny (model prog w) A (forIn ifs true λc r=>if r=true then (do
        let ok <- isTrue c env (eval c env)
        pure (Ol ok)) else pure (Ol r)) (λok s4 =>
       if ok=true then
        wpAny (model prog w) A (eval elt env) (λx s5=>wpAny (model prog w) A (call (.builtin "list.append") [acc,x]) (λ_ s6=>∃m,m<n/\J m s6) (λ_ _=>False) s5) (λ_ _=>False) s4
       else ∃m,m<n/\J m s4) (λ_ _=>False) s3) (λ_ _=>False) s2) (λ_ _=>False) s1) (λ_ _=>False) s)
  (n:Nat) (h:J n s):Ld (model prog w) A (.compLoop (.ListComp elt [⟨tg,iter,ifs,0⟩] scope pos) 0 it acc env) R s:=by
 refine codeAny_loop rfl J (λn s hJ=>?_) n h
 show wpAny _ A (Sem.onRaise (compTurn (.ListComp elt [⟨tg,iter,ifs,0⟩] scope pos) 0 it acc env) (λx=>do noteFrame x env; theTreesLotGoes x)) _ _ s
 refine wpAny_noted ?_
 rw[compTurn_list]
 refine Ac (wpAny_standAt (Ac (Iy (turn n s hJ) (λr s1 h1=>?_) λ_ _ z=>z.elim)))
 cases r with
 | none=>exact Al h1
 | some v =>
  refine Ac (Iy h1 (λ_ s2 h2=>?_) λ_ _ z=>z.elim)
  refine Ac (Iy h2 (λ_ s3 h3=>?_) λ_ _ z=>z.elim)
  refine Ac (Iy h3 (λok s4 h4=>?_) λ_ _ z=>z.elim)
  cases ok with
  | false=>exact Al ⟨rfl,h4⟩
  | true =>
   refine Ac (Ac (Iy h4 (λx s5 h5=>?_) λ_ _ z=>z.elim))
   exact Ac (Iy h5 (λ_ s6 h6=>Al (Al ⟨rfl,h6⟩)) λ_ _ z=>z.elim)
end
section
variable{X:Cx}{pins:List (Addr×Obj)}{σ:L2.St}{H:Hp}{s:Aj}{scope:Scope}{cl:List (Str×Addr)}{fp:List Addr}{N:List Str}
def sZ(scope:Scope)(x:Str):Prop:=scope.names.lookup x=some .local\/scope.names.lookup x=some .cell
structure CompScope(X:Cx)(scope:Scope)(cl:List (Str×Addr))(x:Str)(ys:List Str)(js:List Nat):Prop where
 clos:closureFor scope X.env=pure cl
 oc:(∀y∈scope.names,y.2≠.cell)\/∃z:Str,(∀n,Dz n scope.names []=[(z,n)])/\scope.names.lookup z=some .cell/\∀y∈scope.names,y.2=.cell->y.1=z
 kind:scope.kind=.function
 locs:∀y∈scope.names,y.2=.local->scope.names.lookup y.1=some .local
 own:sZ scope x
 sub:∀y c,cl.lookup y=some c->X.env.cells.lookup y=some c
 has_:(scope.names.all λy=>!(y.2 == Dm) || (cl.lookup y.1).isSome)=true
 nd:(x::ys).Nodup
 len:ys.length=js.length
 at_:∀(k:Nat) (y:Str) (j:Nat),ys[k]? = some y->js[k]? = some j->X.N[j]? = some y/\scope.names.lookup y=some .free/\(X.env.kindOf y=some .cell\/X.env.kindOf y=some .free)
theorem CompScope.has{x:Str}{ys:List Str}{js:List Nat}(C:CompScope X scope cl x ys js):∀y∈scope.names,y.2=.free->(cl.lookup y.1).isSome=true:=λy hy e=>by
 have h:=List.all_eq_true.mp C.has_ y hy
 rw[e] at h
 simpa using h
theorem Pt{env:Env}{y:Str}{k:Mx}:∀{names:List (Str×Mx)},
  (names.map λ(n,k)=>if (k == Dm && env.scope.kind == .function && env.kindOf n == some .cell) then (n,Dj) else (n,k)).lookup y=some k ->
  ∃k0,names.lookup y=some k0/\(k=k0\/(k0=.free/\k=.cell))
 | [],h=>by simp at h
 | (n,k0)::r,h=>by
  have ih:=@Pt env y k r
  rw[Au] at h
  by_cases hc:(k0 == Dm && env.scope.kind == .function && env.kindOf n == some .cell)=true
  ·have h':Jl y ((n,Dj)::(r.map λ(n,k)=>if (k == Dm && env.scope.kind == .function && env.kindOf n == some .cell) then (n,Dj) else (n,k)))=some k:=by
    simpa [hc] using h
   cases hy:y == n with
   | true =>
    rw[Bx,hy] at h'
    have e:k=Dj:=by simpa using h'.symm
    refine ⟨k0,by rw[Bx,hy],.inr ⟨?_,e⟩⟩
    rw[Eg,Eg] at hc
    exact Rf hc.1.1
   | false =>
    rw[Bx,hy] at h'
    obtain ⟨q,e1,e2⟩:=ih h'
    exact ⟨q,by rw[Bx,hy]; exact e1,e2⟩
  ·have h':Jl y ((n,k0)::(r.map λ(n,k)=>if (k == Dm && env.scope.kind == .function && env.kindOf n == some .cell) then (n,Dj) else (n,k)))=some k:=by
    simpa [hc] using h
   cases hy:y == n with
   | true =>
    rw[Bx,hy] at h'
    exact ⟨k0,by rw[Bx,hy],.inl (by simpa using h'.symm)⟩
   | false =>
    rw[Bx,hy] at h'
    obtain ⟨q,e1,e2⟩:=ih h'
    exact ⟨q,by rw[Bx,hy]; exact e1,e2⟩
theorem Te{env:Env}{y:Str}:∀{names:List (Str×Mx)},names.lookup y=some .free ->
  (names.map λ(n,k)=>if (k == Dm && env.scope.kind == .function && env.kindOf n == some .cell) then (n,Dj) else (n,k)).lookup y=some .cell \/
  (names.map λ(n,k)=>if (k == Dm && env.scope.kind == .function && env.kindOf n == some .cell) then (n,Dj) else (n,k)).lookup y=some .free
 | [],h=>by simp at h
 | (n,k0)::r,h=>by
  have ih:=@Te env y r
  show Jl y ((if (k0 == Dm && env.scope.kind == .function && env.kindOf n == some .cell)=true then (n,Dj) else (n,k0))::_)=_\/Jl y ((if (k0 == Dm && env.scope.kind == .function && env.kindOf n == some .cell)=true then (n,Dj) else (n,k0))::_)=_
  by_cases hc:(k0 == Dm && env.scope.kind == .function && env.kindOf n == some .cell)=true
  ·rw[if_pos hc]
   cases hy:y == n with
   | true=>exact .inl (by rw[Bx,hy])
   | false =>
    rw[Bx,hy] at h
    simp only[Bx,hy]
    exact ih h
  ·rw[if_neg hc]
   cases hy:y == n with
   | true =>
    rw[Bx,hy] at h
    exact .inr (by rw[Bx,hy]; exact h)
   | false =>
    rw[Bx,hy] at h
    simp only[Bx,hy]
    exact ih h
theorem Jx{α β:Type}[BEq α][LawfulBEq α]{y:α}{k:β}:∀{l:List (α×β)},l.lookup y=some k->(y,k)∈l
 | [],h=>by simp at h
 | (n,v)::r,h=>by
  cases hy:y == n with
  | true =>
   rw[Bx,hy] at h
   have e:=Rf hy
   subst e
   have : v=k:=by simpa using h
   subst this
   exact Aa
  | false =>
   rw[Bx,hy] at h
   exact Ab _ (Jx h)
end
theorem bO{a c:Nat}(h:c<a)(e:c=a+1):False:=by omega
theorem Gw:∀(names:List (Str×Mx)) (n:Nat) (acc:List (Str×Addr)),Dz n names acc=Dz n names []++acc
 | [],_,_=>rfl
 | (x,k)::r,n,acc=>by
  unfold Dz
  by_cases h:(k == Dj)=true
  ·rw[if_pos h,if_pos h,Gw r _ ((x,n)::acc),Gw r _ [(x,n)],Ea]; rfl
  ·rw[if_neg h,if_neg h]; exact Gw r n acc
theorem Lw:∀(names:List (Str×Mx)) (n:Nat) (acc:List (Str×Addr)),(∀y∈names,y.2≠.cell)->Dz n names acc=acc
 | [],_,_,_=>rfl
 | (x,k)::r,n,acc,h=>by
  unfold Dz
  rw[if_neg (by have:=h (x,k) Aa; simpa using this)]
  exact Lw r n acc λy hy=>h y (Ab _ hy)
theorem Sn{env:Env}{y:Str}:∀{names:List (Str×Mx)},names.lookup y=some .cell->(names.map λ(n,k)=>if (k == Dm && env.scope.kind == .function && env.kindOf n == some .cell) then (n,Dj) else (n,k)).lookup y=some .cell
 | [],h=>by simp at h
 | (n,k0)::r,h=>by
  have ih:=@Sn env y r
  show Jl y ((if (k0 == Dm && env.scope.kind == .function && env.kindOf n == some .cell)=true then (n,Dj) else (n,k0))::_)=_
  by_cases hc:(k0 == Dm && env.scope.kind == .function && env.kindOf n == some .cell)=true
  ·rw[if_pos hc]
   cases hy:y == n with
   | true=>rw[Bx,hy]
   | false=>rw[Bx,hy] at h ⊢; exact ih h
  ·rw[if_neg hc]
   cases hy:y == n with
   | true=>rw[Bx,hy] at h ⊢; exact h
   | false=>rw[Bx,hy] at h ⊢; exact ih h
theorem cM{env:Env}{scope:Scope}{x:Str}(o:sZ scope x):Loc (relabel scope env) x:=o.imp lookup_relabel_local Sn
section
variable{X:Cx}{scope:Scope}{cl:List (Str×Addr)}{x y:Str}{ys:List Str}{js:List Nat}{n c:Nat}{N:List Str}{fp:List Addr}{s:Aj}{H:Hp}
theorem kA(o:sZ scope x):(Fw X scope cl N fp s H).fn x=true\/(Fw X scope cl N fp s H).env.scope.names.lookup x=some .local:=by
 rcases o with o | o
 ·exact .inr (lookup_relabel_local o)
 ·exact .inl (decide_eq_true o)
theorem CompScope.split(C:CompScope X scope cl x ys js)(h:(Dz n scope.names cl).lookup y=some c):cl.lookup y=some c\/(c=n/\Dz 0 scope.names []=[(y,0)]/\Dz n scope.names []=[(y,n)]/\scope.names.lookup y=some .cell):=by
 rcases C.oc with o | ⟨z,o1,o2,_⟩
 ·rw[Lw _ _ _ o] at h; exact .inl h
 ·rw[Gw,o1] at h
  have h2:Jl y ((z,n)::cl)=some c:=h
  rw[Bx] at h2
  cases e:y == z with
  | true =>
   rw[e] at h2
   have ec:c=n:=(Ca h2).symm
   have ey:=Rf e
   subst ey
   exact .inr ⟨ec,o1 0,o1 n,o2⟩
  | false=>rw[e] at h2; exact .inl h2
theorem CompScope.find(C:CompScope X scope cl x ys js)(h:cl.lookup y=some c)(hy:scope.names.lookup y=some .free):(Dz n scope.names cl).lookup y=some c:=by
 rcases C.oc with o | ⟨z,o1,o2,_⟩
 ·rw[Lw _ _ _ o]; exact h
 ·rw[Gw,o1]
  show Jl y ((z,n)::cl)=some c
  rw[Bx]
  cases e:y == z with
  | true=>rw[Rf e,o2] at hy; cases hy
  | false=>exact h
theorem CompScope.cellAt(C:CompScope X scope cl x ys js)(hy:(y,Dj)∈scope.names):(Dz n scope.names cl).lookup y=some n:=by
 rcases C.oc with o | ⟨z,o1,o2,o3⟩
 ·exact absurd rfl (o _ hy)
 ·have ez:y=z:=o3 _ hy rfl
  subst ez
  rw[Gw,o1]
  show Jl y ((y,n)::cl)=some n
  rw[Bx,beq_self_eq_true]
theorem Zt{M:Model}{A:Df}{E:Value->Aj->Prop}{Q:Env->Aj->Prop}(C:CompScope X scope cl x ys js)(hQ:∀h4,h4.Ns s.heap.objs.size (λ_=>none)->(∀b u,s.heap.get? b=some u->h4.get? b=some u)->(∀z n,Dz (s.heap.objs.size+1) scope.names []=[(z,n)]->h4.IsCell n none)->Q (newEnv scope s.heap.objs.size X.env.globals (Dz (s.heap.objs.size+1) scope.names cl) X.env.qual none .none (some X.env) Sd) { s with heap:=h4,toks:=s.toks+([]:List (Str×Value)).length }):wpAny M A (Vj scope X.env.globals cl [] X.env.qual none .none (some X.env)) Q E s:=by
 simp only[Vj,Option.isSome_some,if_true]
 refine Ac (wpAny_alloc (Ac (wpAny_layCells _ (λx k cs=>by cases e:k == Dj <;> simp [e]) _ _ _ _ ?_)))
 have hsz:({ s with heap:=s.heap.push { cls:=.type "dict",data:=.dict #[] } }:Aj).heap.objs.size=s.heap.objs.size+1:=Heap.size_push ..
 rw[hsz]
 refine Ac (Al (Al (hQ _ ((Heap.Ns.new s.heap (.type "dict")).keeps (pushCells_keeps _ _)) (λb u e=>pushCells_keeps _ _ b u (Ag _ e)) λz n e=>?_)))
 have ok:=(cellsFrom_ok scope.names (s.heap.push { cls:=.type "dict",data:=.dict #[] }) 0 [] ⟨λ_ _ hm=>(nomatch hm),Dw⟩ (Dx _)).empty z n
 rw[show (s.heap.push { cls:=.type "dict",data:=.dict #[] }).objs.size=s.heap.objs.size+1 from hsz,e] at ok
 exact (ok (Am.mpr rfl)).1
end
section
variable{X:Cx}{pins:List (Addr×Obj)}{σ:L2.St}{H:Hp}{s:Aj}{scope:Scope}{cl:List (Str×Addr)}{fp:List Addr}{N:List Str}
theorem uT{x:Str}{ys:List Str}{js:List Nat}(C:CompScope X scope cl x ys js)(I:Inv X pins σ H s)(hf:∀b∈fp,Pr X pins H b)(ho:∀b∈fp,∃o,s.heap.get? b=some o):(Fw X scope cl N fp s H).Ok where
 mod:=I.ok.mod
 kind:=C.kind
 glob:=I.ok.glob
 blt:=I.ok.blt
 above:=Ah _
 inj:=λy z c h1 h2=>by
  have lt:∀y,cl.lookup y=some c->c<s.heap.objs.size:=λy e=>let ⟨_,q⟩:=I.cell y c (C.sub y c e); q.lt
  rcases C.split h1 with h1 | ⟨e1,a1,_⟩
  ·rcases C.split h2 with h2 | ⟨e2,_⟩
   ·exact I.ok.inj y z c (C.sub y c h1) (C.sub z c h2)
   ·exact (bO (lt y h1) e2).elim
  ·rcases C.split h2 with h2 | ⟨e2,a2,_⟩
   ·exact (bO (lt z h2) e1).elim
   ·rw[a1] at a2
    simpa using a2
 has:=λy hy=>by
  have key:∀k,(k=Dj\/k=Dm)->(compEnvC scope cl s.heap.objs.size X.env).kindOf y=some k->∃c,(Dz (s.heap.objs.size+1) scope.names cl).lookup y=some c:=by
   intro k hk e
   obtain ⟨k0,e0,e1⟩:=Pt (names:=scope.names) (env:=X.env) (y:=y) (k:=k) e
   have m:=Jx e0
   by_cases hk0:k0=.cell
   ·exact ⟨_,C.cellAt (hk0▸m)⟩
   have hfree:k0=.free:=by
    rcases e1 with e1 | e1
    ·subst e1
     rcases hk with hk | hk
     ·exact absurd hk hk0
     ·exact hk
    ·exact e1.1
   obtain ⟨c,hc⟩:=Nr.mp (C.has _ m hfree)
   exact ⟨c,C.find hc (hfree▸e0)⟩
  rcases hy with hy | hy
  ·exact key _ (.inl rfl) hy
  ·exact key _ (.inr rfl) hy
 cab:=λy c h e=>by
  have h:scope.names.lookup y=some .cell:=of_decide_eq_true h
  have:=(C.cellAt (n:=s.heap.objs.size+1) (Jx h)).symm.trans e
  show s.heap.objs.size<=c
  have:=Ca this
  omega
 hd:=I.ok.hd
 frames:=I.ok.frames
 stk:=.inl rfl
 exf:=λb hb=>by
  obtain ⟨o,e⟩:=ho b hb
  refine ⟨Cp (Bc e),λy c hc=>?_⟩
  rcases C.split hc with hc | ⟨hc,_⟩
  ·exact (hf b hb).2.2.2.2.1 y c (C.sub y c hc)
  ·exact λz=>bO (Bc e) (z.symm.trans hc)
 bs:=I.bs
 bsz:=Bm I.ok.bsz I.sz
 noex:=λb o e hb=>by
  rcases (hf b hb).2.2.2.1 with z | z
  ·exact I.ok.noex b o e z
  ·exact absurd (Bp (Bc (I.ok.bs b o e).1) z) (Gj _)
 exfs:=λb hb z=>by
  rcases Ai.mp (I.stkSub b z) with e | e
  ·exact (hf b hb).2.1 e
  ·exact (hf b hb).2.2.1 e
 funs:=I.stack
 frf:=I.stkFree
 tab:=I.ok.tab.un I.base
def Hk(σ:L2.St)(js:List Nat):L2.St:=js.map λj=>(σ[j]?).join
theorem Xr{x:Str}{pre ys:List Str}{js:List Nat}{h1:Heap}{tk:Nat}{m1:Str->Option Value}(C:CompScope X scope cl x ys js)(I:Inv X pins σ H s)(hf:∀b∈fp,Pr X pins H b)(ho:∀b∈fp,∃o,s.heap.get? b=some o)(hns:h1.Ns s.heap.objs.size m1)(keep:∀b u,s.heap.get? b=some u->h1.get? b=some u)(new:∀z n,Dz (s.heap.objs.size+1) scope.names []=[(z,n)]->h1.IsCell n none):Inv (Fw X scope cl (pre++ys) fp s H) [] (pre.map (λ_=>none)++Hk σ js) H { s with heap:=h1,toks:=tk }:=by
 have cellK:∀y c,cl.lookup y=some c->∃v,s.heap.IsCell c v/\h1.IsCell c v:=λy c e=>by
  obtain ⟨v,o,q,d⟩:=I.cell y c (C.sub y c e)
  exact ⟨v,⟨o,q,d⟩,o,keep c o q,d⟩
 refine ⟨uT C I hf ho,rfl,I.bare,Un.kept keep,⟨m1,hns,λi y v e1 e2 _=>?_⟩,λy c e=>?_,I.hok.fresh (Ah _),λy c e=>?_,λp hp=>?_,I.hok.kept keep,?_⟩
 ·have e2:(pre.map (λ_=>(none:Option V))++Hk σ js)[i]? = some (some v):=e2
  have e1:(pre++ys)[i]? = some y:=e1
  by_cases hi:i<pre.length
  ·rw[Gb (by rw[Ae]; exact hi),Cf] at e2
   cases q:pre[i]? with
   | none=>rw[q] at e2; cases e2
   | some z=>rw[q] at e2; cases e2
  ·rw[Hx (by rw[Ae]; omega),Ae] at e2
   rw[Hx (by omega)] at e1
   have e1':=e1
   have e2':=e2
   generalize i - pre.length=k at e1' e2'
   unfold Hk at e2'
   rw[Cf] at e2'
   cases ej:js[k]? with
   | none=>rw[ej] at e2'; simp at e2'
   | some j =>
    rw[ej] at e2'
    have e3:(σ[j]?).join=some v:=by simpa using e2'
    have e4:σ[j]? = some (some v):=by
     cases q:σ[j]? with
     | none=>rw[q] at e3; simp at e3
     | some z=>rw[q] at e3; simp at e3; rw[e3]
    obtain ⟨a1,a2,a3⟩:=C.at_ k y j e1' ej
    obtain ⟨m0,_,hl⟩:=I.loc
    have vis:P0 X.env.scope y:=a3.elim (λa3=>.inr (.inl a3)) λa3=>.inr (.inr a3)
    obtain ⟨u,r,l⟩:=hl j y v a1 e4 vis
    refine ⟨u,r,?_⟩
    rcases l with ⟨k1,_⟩ | ⟨_,c,hc,hv⟩
    ·rcases a3 with a3 | a3 <;> rw[k1] at a3 <;> cases a3
    ·obtain ⟨c',hc'⟩:=Nr.mp (C.has _ (Jx a2) rfl)
     have ec:c'=c:=by
      have:=C.sub y c' hc'
      rw[hc] at this
      exact (Ca this).symm
     subst ec
     obtain ⟨o,q,d⟩:=hv
     exact .inr ⟨Te a2,c',C.find hc' a2,o,keep c' o q,d⟩
 ·rcases C.split e with e | ⟨e,_,e',_⟩
  ·obtain ⟨v,_,z⟩:=cellK y c e
   exact ⟨v,z⟩
  ·exact ⟨_,e▸new _ _ e'⟩
 ·rcases C.split e with e | ⟨e,_⟩
  ·exact I.freeC y c (C.sub y c e)
  ·exact I.hok.fresh (by omega)
 ·cases (show p∈([]:List (Addr×Obj)) from hp)
 ·show (pre.map (λ_=>(none:Option V))++Hk σ js).length=(pre++ys).length
  simp [Hk,C.len]
end
section
variable{X:Cx}
def G5(J:It)(js:List Nat)(tc:TT)(te:TE)(σ:L2.St)(H1:Hp)(Q:VK):Prop:=∀D,H1 D=none->∃W:Nat->Nat->Hp->Prop,(∃m,W 0 m (upd H1 D (.lst [])))/\∀i m H,W i m H ->
 (J.stop i H/\Q (.ref D) H)\/(J.go i H/\∀x H',J.yld i H x H'->∃(N1:Hp->Prop) (N2:VK),(∀H2,N1 H2->∃m',m'<m/\W (i+1) m' H2) /\
  (∀y H3,N2 y H3->∃acc,H3 D=some (.lst acc)/\acc.length<Aw/\∃m',m'<m/\W (i+1) m' (upd H3 D (.lst (acc++[y])))) /\
  tc (some x::Hk σ js) H' λc H2=>if c=true then te (some x::Hk σ js) H2 N2 else N1 H2)
def yC(wi:TI)(js:List Nat)(tc:TT)(te:TE):TE:=λσ H Q=>wi σ H λJ H1=>G5 J js tc te σ H1 Q
def bU:TT:=λ_ H Q=>Q true H
def yT(X:Cx)(ifs:List Expr)(t:TT):Prop :=
 ∀(pins:List (Addr×Obj)) (s:Aj) (σ:L2.St) (H:Hp) (Q:Bool->Hp->Prop),Inv X pins σ H s->t σ H Q ->
  wpAny (model X.prog X.w) X.A (forIn ifs true λc r=>if r=true then (do
   let ok <- isTrue c X.env (eval c X.env)
   pure (Ol ok)) else pure (Ol r)) (TP X pins σ Q) X.xe s
theorem sY:yT X [] bU:=λpins s σ H Q I h=>wpAny_tests_nil ⟨H,I,h⟩
theorem Xh{X X':Cx}{pins:List (Addr×Obj)}{σ σ':L2.St}{H3 H6:Hp}{s3 s7:Aj}{scope:Scope}{cl:List (Str×Addr)}{N:List Str}{fp:List Addr}(hX':Fw X scope cl N fp s3 H3=X')(I3:Inv X pins σ H3 s3)(f3:∀b∈fp,Pr X pins H3 b)(I7:Inv X' [] σ' H6 s7):∃m7,s7.heap.Ns s3.heap.objs.size m7/\∀h8,Gd s3.heap.objs.size s7.heap h8->Inv X pins σ H6 { s7 with heap:=h8 }:=by
 have eP:X'.prog=X.prog:=by rw[<- hX']; rfl
 have eW:X'.w=X.w:=by rw[<- hX']; rfl
 obtain ⟨m7,hn7,_⟩:=I7.loc
 have hn7':s7.heap.Ns s3.heap.objs.size m7:=by rw[<- hX'] at hn7; exact hn7
 refine ⟨m7,hn7',λh8 hs8=>?_⟩
 have I7f:H6 s3.heap.objs.size=none:=by have:=I7.free; rw[<- hX'] at this; exact this
 have b7:Un (mU X.stack) fp H3 H6 s3.heap s7.heap:=by have:=I7.base; rw[<- hX'] at this; exact this
 have ne8:∀b o,s3.heap.get? b=some o->b≠s3.heap.objs.size:=λb o q=>Cp (Bc q)
 have u8:Un (mU X.stack) fp H3 H6 s3.heap h8:=by
  refine ⟨λb o q n hb hx=>(hs8.2 b (ne8 b o q)).trans (b7.keep b o q n hb hx),λb o q n hb hx=>?_,b7.free,λb o q hx=>?_,b7.tups,b7.frzs,b7.tbls⟩
  ·obtain ⟨sl,z⟩:=b7.slot b o q n hb hx
   exact ⟨sl,(hs8.2 b (ne8 b o q)).trans z⟩
  ·obtain ⟨o',z⟩:=b7.there b o q hx
   exact ⟨o',(hs8.2 b (ne8 b o q)).trans z⟩
 have hok8:Xz X.prog X.w H6 h8:=λb ob e=>by
  have hk7:=I7.hok
  rw[eP,eW] at hk7
  refine (hk7 b ob e).stay (λc w' hcc q=>(hs8.2 c ?_).trans q) (λ_ q=>q) λ_ _ q=>q
  rintro rfl
  rcases hcc with rfl | hcc
  ·rw[I7f] at e; cases e
  ·rw[I7f] at hcc; cases hcc
 have os7:s7.os=s3.os:=by have:=I7.os; rw[<- hX'] at this; exact this
 exact I3.call' (s':={ s7 with heap:=h8 }) (ch:=fp) os7 u8 hok8 I7.bare (λb hb=>⟨(f3 b hb).2.2.2.1,(f3 b hb).2.1,(f3 b hb).2.2.2.2.1,(f3 b hb).2.2.2.2.2⟩)
theorem aQ{X X':Cx}{σ':L2.St}{H3 H6:Hp}{s3 s7:Aj}{scope:Scope}{cl:List (Str×Addr)}{N:List Str}{fp:List Addr}(hX':Fw X scope cl N fp s3 H3=X')(I4:Inv X' [] σ' H6 s7){H':Hp}(hn:∀b∈fp,H' b=none):∀b∈fp,Pr X' [] H' b:=λb hb=>by
 have ok:=I4.ok
 have hex:b∈X'.ex:=by rw[<- hX']; exact hb
 exact ⟨hn b hb,(ok.exf b hex).1,ok.exfs b hex,.inl hex,(ok.exf b hex).2,λp hp=>by rw[<- hX'] at hp; cases (show p∈([]:List (Addr×Obj)) from hp)⟩
theorem gH{X X':Cx}{H3:Hp}{s3:Aj}{scope:Scope}{cl:List (Str×Addr)}{N:List Str}{fp:List Addr}(hc:X.calm=true)(hX':Fw X scope cl N fp s3 H3=X'):X'.prog=X.prog/\X'.w=X.w/\X'.K=X.K/\X'.A=X.A/\X'.calm=true:=by
 subst hX'
 exact ⟨rfl,rfl,rfl,rfl,hc⟩
theorem gM{X:Cx}{pins:List (Addr×Obj)}{σ:L2.St}{H2:Hp}{s2:Aj}{tg:Expr}{J:It}{fp:List Addr}{it:Addr}{tn:Nat->Heap->Prop}(I2:Inv X pins σ H2 s2)(T:Turn X.prog X.w X.K tg J fp it tn)(st2:tn 0 s2.heap)(f2:∀b∈fp,Pr X pins H2 b){ob:Obj}{ho:HO}(I3:Inv X pins σ (upd H2 s2.heap.objs.size ho) { s2 with heap:=s2.heap.push ob }):(∀b∈fp,Pr X pins (upd H2 s2.heap.objs.size ho) b)/\tn 0 (s2.heap.push ob)/\∀b∈fp,∃o,(s2.heap.push ob).get? b=some o:=by
 have uG:tn 0 (s2.heap.push ob):=T.keep 0 _ _ st2 λb hb o q=>Ag _ q
 refine ⟨λb hb=>⟨?_,(f2 b hb).2⟩,uG,λb hb=>?_⟩
 ·rw[Dr ?_]
  ·exact (f2 b hb).1
  ·intro z
   obtain ⟨o,q,_⟩:=T.obj _ _ st2 b hb
   have:=Bc q
   rw[z] at this
   exact absurd this (Gj _)
 ·obtain ⟨o,q,_⟩:=T.obj _ _ uG b hb
  exact ⟨o,q⟩
theorem xD{elt iter:Expr}{x:Str}{px pos:Pos}{ifs:List Expr}{scope:Scope}{cl:List (Str×Addr)}{ys:List Str}{js:List Nat}{wi:TI}{tc:TT}{te:TE}(C:CompScope X scope cl x ys js)(hc:X.calm=true)(hi:PI X (.Name x px) iter wi)(ht:∀fp s H,yT (Fw X scope cl (x::ys) fp s H) ifs tc)(he:∀fp s H,PE (Fw X scope cl (x::ys) fp s H) elt te)(hs:∀x,Gn iter X.env x=pure x:=by intro _; rfl):PE X (.ListComp elt [⟨.Name x px,iter,ifs,0⟩] scope pos) (yC wi js tc te):=by
 intro pins s σ H Q I h
 rw[eval_ListComp]
 refine pG (use:=none) rfl hs C.clos C.kind C.locs (Hb (hi pins s σ H _ I h) λv s1 h1=>Hb h1 λitv s2 h2=>?_)
 obtain ⟨it,fp,tn,J,H2,e,I2,T,st2,f2,q2⟩:=h2
 subst e
 have fD:H2 s2.heap.objs.size=none:=I2.hok.fresh (Ah _)
 obtain ⟨W,⟨m0,w0⟩,turn⟩:=q2 s2.heap.objs.size fD
 refine Du ?_
 have I3:Inv X pins σ (upd H2 s2.heap.objs.size (.lst [])) { s2 with heap:=s2.heap.push { cls:=.type "list",dict:=none,data:=.seq ([]:List Value).toArray } } :=
  I2.laid (t':=s2.toks) (λb u q=>Ag _ q) (Ah _) ⟨Dx _,[],0,.nil,Ay _ rfl⟩
 obtain ⟨f3,st3',o3'⟩:=gM I2 T st2 f2 I3
 generalize hS3:({ s2 with heap:=s2.heap.push { cls:=.type "list",dict:=none,data:=.seq ([]:List Value).toArray } }:Aj)=s3 at I3
 have uG:tn 0 s3.heap:=by rw[<- hS3]; exact st3'
 have o3:∀b∈fp,∃o,s3.heap.get? b=some o:=by rw[<- hS3]; exact o3'
 show wpAny _ _ (Vj scope X.env.globals cl [] X.env.qual none .none (some X.env)) _ _ _
 refine Zt C λh4 hns4 keep4 new4=>?_
 have I4:∀tk,Inv (Fw X scope cl (x::ys) fp s3 (upd H2 s2.heap.objs.size (.lst []))) [] (none::Hk σ js) (upd H2 s2.heap.objs.size (.lst [])) { s3 with heap:=h4,toks:=tk }:=λtk=>Xr (pre:=[x]) C I3 f3 o3 hns4 keep4 new4
 have st4:tn 0 h4:=T.keep 0 _ _ uG λb hb o q=>keep4 b o q
 generalize hX':Fw X scope cl (x::ys) fp s3 (upd H2 s2.heap.objs.size (.lst []))=X' at I4
 obtain ⟨eP,eW,eK,eA,eC⟩:=gH hc hX'
 have stat:∀{H':Hp},(∀b∈fp,H' b=none)->∀b∈fp,Pr X' [] H' b:=λ{H'} hn=>aQ hX' (I4 0) hn
 have loop:∀s5:Aj,s5={ s3 with heap:=h4,toks:=s3.toks+([]:List (Str×Value)).length } ->
   Ld (model X.prog X.w) X.A (.compLoop (.ListComp elt [⟨.Name x px,iter,ifs,0⟩] scope pos) 0 (.ref it) (.ref s2.heap.objs.size) (compEnvC scope (Dz (s3.heap.objs.size+1) scope.names cl) s3.heap.objs.size X.env))
    (compPost (model X.prog X.w) X.A X.xe none (EP X pins σ Q) (.ref s2.heap.objs.size) s3.heap.objs.size) s5:=by
  rintro s5 rfl
  refine Xj (λn s'=>∃i o H',Inv X' [] (o::Hk σ js) H' s'/\tn i s'.heap/\(∀b∈fp,H' b=none)/\W i n H') ?_ m0
   ⟨0,none,_,I4 _,st4,λb hb=>(f3 b hb).1,w0⟩
  (intro n s6 q_; obtain ⟨i,o,H6,I6,st6,fr6,w6⟩ := q_)
  rcases turn i n H6 w6 with ⟨stop,qn⟩ | ⟨go,step⟩
  ·have hd:=T.done X' eP eW eK eC i [] s6 _ H6 (λ_ _=>False) I6 (stat fr6) st6 stop
   rw[eA] at hd
   refine Hb hd λr s7 q0_ => ?_
   obtain ⟨hr,I7⟩ := q0_
   subst hr
   obtain ⟨m7,hn7,fin7⟩:=Xh hX' I3 f3 I7
   exact ⟨m7,hn7,λh8 hs8=>⟨.ref s2.heap.objs.size,H6,fin7 h8 hs8,rfl,qn⟩⟩
  ·have hit:=T.item X' eP eW eK eC i [] s6 _ H6 (λ_ _=>False) I6 (stat fr6) st6 go
   rw[eA] at hit
   refine Hb hit λr s7 q0_ => ?_
   obtain ⟨u,hr,h7⟩ := q0_
   subst hr
   refine Hb h7 λ_ s8 q0_ => ?_
   obtain ⟨y,H8,I8,r8,y8,st8,fr8⟩ := q0_
   have I8':=I8.pinned (stat fr8) (T.obj _ _ st8)
   obtain ⟨N1,N2,hN1,hN2,hst⟩:=step y H8 y8
   have again:∀{H9:Hp} {s9:Aj} {m':Nat},Inv X' ([]++Tx fp s8.heap) (some y::Hk σ js) H9 s9->m'<n->W (i+1) m' H9->∃m,m<n/\∃i o H',Inv X' [] (o::Hk σ js) H' s9/\tn i s9.heap/\(∀b∈fp,H' b=none)/\W i m H':=λ{H9 s9 m'} I9 hm w9=>by
    refine ⟨m',hm,i+1,some y,H9,I9.unpinned,T.keep _ _ _ st8 λb hb o e=>(I9.pin (b,o) (Ap _ (Ap _ (Jt hb e)))).1,λb hb=>?_,w9⟩
    obtain ⟨o,e,_⟩:=T.obj _ _ st8 b hb
    exact (I9.pin (b,o) (Ap _ (Ap _ (Jt hb e)))).2.1
   subst hX'
   refine Hb (Qi (i:=0) (x:=x) (pos:=px) C.nd rfl (cM C.own) (kA C.own) _ s8 _ H8 y u (λσ' H'=>σ'=some y::Hk σ js/\H'=H8) I8' r8 ⟨rfl,rfl⟩) λ_ s9 q0_ => ?_
   obtain ⟨σ9,H9,I9,e9,e9'⟩ := q0_
   subst e9 e9'
   refine Hb (ht fp s3 _ _ s9 _ _ _ I9 hst) λok s10 q0_ => ?_
   obtain ⟨H10,I10,q10⟩ := q0_
   cases ok with
   | false =>
    rw[if_neg Jj] at q10 ⊢
    obtain ⟨m',hm,w10⟩:=hN1 _ q10
    exact again I10 hm w10
   | true =>
    rw[if_pos rfl] at q10 ⊢
    refine Hb (he fp s3 _ _ s10 _ _ _ I10 q10) λz s11 q0_ => ?_
    obtain ⟨vz,H11,I11,r11,q11⟩ := q0_
    obtain ⟨acc,ha,hz,m',hm,w11⟩:=hN2 _ _ q11
    refine Hb (Nh _ s11 _ H11 (.ref s2.heap.objs.size) [vz] (.ref s2.heap.objs.size) [z] (λ_ H'=>H'=upd H11 s2.heap.objs.size (.lst (acc++[vz]))) I11 rfl (.cons r11 .nil) ⟨_,acc,vz,rfl,rfl,ha,hz,rfl⟩) λ_ s12 q0_ => ?_
    obtain ⟨_,H12,I12,_,e12⟩ := q0_
    subst e12
    exact again I12 hm w11
 exact uO (loop _ rfl) (T.self X.A 0 _ _ _ st4 (loop _ rfl))
end
theorem Fu{H:Hp}{p:Addr}(h:H p=none)(o:HO):Yc H (upd H p o):=λb u q=>by rw[Dr (Ez q h)]; exact q
theorem Qj{α:Type}{xs:List α}{i:Nat}{x:α}(h:xs[i]? = some x):xs.take (i+1)=xs.take i++[x]:=by
 rw[List.take_succ,h]; rfl
mutual
inductive RdV (K:PySem.W.Frag) (H:Hp):V->Ad->Prop
 | non:RdV K H .non .none
 | bl (b:Bool):RdV K H (.bl b) (.bool b)
 | int (i:Int):RdV K H (.int i) (.int i)
 | str (x:Str):RdV K H (.str x) (.str x)
 | lst {a:Addr} {xs:List V} {ds:List Ad}:Oy K H a xs->RdVs K H xs ds->RdV K H (.ref a) (.list ds)
 | tup {a:Addr} {xs:List V} {ds:List Ad}:To K H a xs->RdVs K H xs ds->RdV K H (.ref a) (.tuple ds)
inductive RdVs (K:PySem.W.Frag) (H:Hp):List V->List Ad->Prop
 | nil:RdVs K H [] []
 | cons {x:V} {d:Ad} {xs:List V} {ds:List Ad}:RdV K H x d->RdVs K H xs ds->RdVs K H (x::xs) (d::ds)
end
section
variable{X:Cx}{pins:List (Addr×Obj)}{σ:L2.St}{H H':Hp}{s:Aj}{K:PySem.W.Frag}
mutual
theorem RdV.reads(I:Inv X pins σ H s):∀{v:V} {d:Ad} {u:Value},RdV X.K H v d->RelV v u->∃as,Reads s.heap u d as
 | _,_,_,.non,r=>by cases r; exact ⟨_,.none⟩
 | _,_,_,.bl b,r=>by cases r; exact ⟨_,.bool b⟩
 | _,_,_,.int i,r=>by obtain ⟨t,rfl⟩:=r; exact ⟨_,.int i t⟩
 | _,_,_,.str x,r=>by obtain ⟨t,rfl⟩:=r; exact ⟨_,.str x t⟩
 | _,_,_,.lst h hs,r=>by
  cases r
  obtain ⟨its,rv,⟨o,n,e,hc,_,hd⟩,_⟩:=I.list h
  obtain ⟨as,ra⟩:=RdVs.reads I hs rv
  exact ⟨_,.list e hc hd (by simpa using ra)⟩
 | _,_,_,.tup h hs,r=>by
  cases r
  obtain ⟨its,rv,⟨o,e,hc,n,hd⟩,_⟩:=I.tuple h
  obtain ⟨as,ra⟩:=RdVs.reads I hs rv
  exact ⟨_,.tuple e hc hd (by simpa using ra)⟩
theorem RdVs.reads(I:Inv X pins σ H s):∀{vs:List V} {ds:List Ad} {us:List Value},RdVs X.K H vs ds->Ek vs us->∃as,ReadsAll s.heap us ds as
 | _,_,_,.nil,r=>by cases r; exact ⟨_,.nil⟩
 | _,_,_,.cons h hs,r=>by
  cases r with
  | cons r rs =>
   obtain ⟨as,ra⟩:=RdV.reads I h r
   obtain ⟨bs,rb⟩:=RdVs.reads I hs rs
   exact ⟨_,.cons ra rb⟩
end
mutual
theorem RdV.noDict:∀{v:V} {d:Ad},RdV K H v d->d.hasDict=false
 | _,_,.non=>by simp only[Jm]
 | _,_,.bl b=>by simp only[Jm]
 | _,_,.int i=>by simp only[Jm]
 | _,_,.str x=>by simp only[Jm]
 | _,_,.lst h hs=>by simp only[Jm]; exact RdVs.noDict hs
 | _,_,.tup h hs=>by simp only[Jm]; exact RdVs.noDict hs
theorem RdVs.noDict:∀{vs:List V} {ds:List Ad},RdVs K H vs ds->Ux ds=false
 | _,_,.nil=>by simp only[Ux]
 | _,_,.cons h hs=>by simp only[Ux,RdV.noDict h,RdVs.noDict hs,Bool.or_self]
end
end
mutual
def Jh(b:Nat):Ad->Prop
 | .none=>True
 | .bool _=>True
 | .int i=>i.natAbs<10 ^ b
 | .str x=>(reprText x).length<=b
 | .list xs=>Ii b xs
 | .tuple xs=>Ii b xs
 | .dict _=>False
def Ii(b:Nat):List Ad->Prop
 | []=>True
 | x::xs=>Jh b x/\Ii b xs
end
mutual
def Gk:Ad->Nat
 | .list xs=>Gh xs+1
 | .tuple xs=>Gh xs+1
 | _=>1
def Gh:List Ad->Nat
 | []=>0
 | x::xs=>Gk x+Gh xs
end
theorem Mm{b:Nat}:∀{xs:List Ad},Ii b xs↔∀x∈xs,Jh b x
 | []=>by simp [Ii]
 | x::xs=>by simp only[Ii,Ai,forall_eq_or_imp,Mm (xs:=xs)]
theorem Pf{m:Nat}:∀{xs:List Ad},(∀x∈xs,Gk x<=m)->Gh xs<=m * xs.length
 | [],_=>by simp [Gh]
 | x::xs,h=>by
  have h1:=h x (Aa ..)
  have h2:=Pf (xs:=xs) λy hy=>h y (Ab _ hy)
  simp only[Gh,Bq,Nat.mul_add,Nat.mul_one]
  omega
theorem iK(ns:List Int):Gh (ns.map By)=ns.length:=by
 induction ns with
 | nil=>rfl
 | cons n ns ih=>simp only[Au,Gh,Gk,ih,Bq]; omega
theorem jT(ns:List Int):Bb (ns.map By)=0:=by
 induction ns with
 | nil=>rfl
 | cons n ns ih=>simp only[Au,Bb,Cg,ih,Nat.max_self]
theorem Vd{m:Nat}:∀{xs:List Ad},(∀x∈xs,x.depth<=m)->Bb xs<=m
 | [],_=>by simp [Bb]
 | x::xs,h=>by
  have h1:=h x (Aa ..)
  have h2:=Vd (xs:=xs) λy hy=>h y (Ab _ hy)
  simp only[Bb]
  omega
theorem gZ(ts:List Str):(listText ts).length<=piled ts+2:=by
 cases ts with
 | nil=>rw[listText_nil]; decide
 | cons t r =>
  have h:=textFrom_length_pos r 1 (("[" : Str)++(if (0:Nat) > 0 then ", " else "" : String)++t) (Ip 0)
  have e:((("[" : Str)++(if (0:Nat) > 0 then ", " else "" : String)++t)).length=1+t.length:=by
   rw[Qv,Qv]; rfl
  have hX:(listText (t::r)).length=(textFrom 0 "[" (t::r)).length+1:=by
   show (textFrom 0 "[" (t::r) ++ "]").length=_
   rw[Qv]; rfl
  have hY:(textFrom 0 "[" (t::r)).length=(textFrom 1 (("[" : Str)++(if (0:Nat) > 0 then ", " else "" : String)++t) r).length:=rfl
  rw[hX,hY,h,e,piled_cons]; omega
theorem dI(ts:List Str):(tupleText ts).length<=piled ts+3:=by
 unfold tupleText
 rw[Qv,Qv]
 have e1:((("(" : String):Str)).length=1:=rfl
 have e3:(((if ts.length == 1 then ",)" else ")" : String):Str)).length<=2:=by split <;> decide
 rw[e1]
 by_cases h:ts=[]
 ·subst h
  have : (Str.join ", " []).length=0:=rfl
  omega
 ·have:=join_length_add ts h
  omega
mutual
theorem fB{b:Nat}:∀{d:Ad},Jh b d->d.shown.length+4<=(b+12) * Gk d
 | .none,_=>by simp only[Ma,Gk]; show 4+4<=_; omega
 | .bool c,_=>by
  simp only[Ma,Gk]
  cases c
  ·show 5+4<=_; omega
  ·show 4+4<=_; omega
 | .int i,h=>by
  simp only[Ma,Gk]
  have h':i.natAbs<10 ^ b:=by simpa only [Jh] using h
  have h2:i.natAbs<10 ^ (b+1):=Bp h' (Se (by decide) (by omega))
  have h3:(Kg (toString i)).length<=b+2:=by
   have h4:=int_text_length_le10 (a:=i) (k:=b+1) (by omega) h2
   have h5:(Kg (toString i)).length=(toString i).length:=PySem.ofString_length _
   omega
  have h6:((toString i:String):Str).length=(Kg (toString i)).length:=rfl
  omega
 | .str x,h=>by
  simp only[Ma,Gk]
  have h':(reprText x).length<=b:=by simpa only [Jh] using h
  omega
 | .list xs,h=>by
  simp only[Ma,Gk]
  have h1:=Pj (b:=b) (xs:=xs) (by simpa only [Jh] using h)
  have h2:=gZ (Lh xs)
  rw[Nat.mul_add]
  omega
 | .tuple xs,h=>by
  simp only[Ma,Gk]
  have h1:=Pj (b:=b) (xs:=xs) (by simpa only [Jh] using h)
  have h2:=dI (Lh xs)
  rw[Nat.mul_add]
  omega
 | .dict kvs,h=>by simp only[Jh] at h
theorem Pj{b:Nat}:∀{xs:List Ad},Ii b xs->piled (Lh xs)<=(b+12) * Gh xs
 | [],_=>by simp only[Lh,Gh,piled_nil]; omega
 | x::xs,h=>by
  simp only[Ii] at h
  have h1:=fB h.1
  have h2:=Pj h.2
  simp only[Lh,Gh,piled_cons]
  rw[Nat.mul_add]
  omega
end
theorem oB{b i:Nat}(hb:b<=400)(h:i<10 ^ b):i.log2<1920:=by
 have h1:i<2 ^ 1920:=Bp h (Bm (Se (by decide) hb) (by decide +kernel))
 by_cases z:i=0
 ·subst z; decide
 ·exact (Nat.log2_lt z).mpr h1
mutual
theorem Va{b:Nat}(hb:b<=400):∀{d:Ad},Jh b d->d.showable=true
 | .none,_=>by simp only[Gx]
 | .bool c,_=>by simp only[Gx]
 | .int i,h=>by
  simp only[Gx]
  exact decide_eq_true (oB hb (by simpa only [Jh] using h))
 | .str x,h=>by simp only[Gx]
 | .list xs,h=>by simp only[Gx]; exact showableAll_of hb (by simpa only [Jh] using h)
 | .tuple xs,h=>by simp only[Gx]; exact showableAll_of hb (by simpa only [Jh] using h)
 | .dict kvs,h=>by simp only[Jh] at h
theorem showableAll_of{b:Nat}(hb:b<=400):∀{xs:List Ad},Ii b xs->Ti xs=true
 | [],_=>by simp only[Ti]
 | x::xs,h=>by
  simp only[Ii] at h
  simp only[Ti,Va hb h.1,showableAll_of hb h.2,Bool.and_self]
end
def Yb:Ad->Str
 | .str x=>x
 | d=>d.shown
structure Tells(K:PySem.W.Frag)(H:Hp)(x:V)(d:Ad):Prop where
 rd:RdV K H x d
 fits:∃b,b<=400/\Jh b d/\(b+12) * Gk d<=Aw
 depth:d.depth<=90
def G7(K:PySem.W.Frag):List V->Hp->VK->Prop:=λxs H Q=>∃x d,xs=[x]/\Tells K H x d/\Q (.str (Yb d)) H
theorem Qq{X:Cx}(hg:X.A.guards=some [])(hu:X.A.units+100<cLine):Jn X (.type "str") (G7 X.K):=by
 intro pins s σ H xs us Q I r h
 obtain ⟨x,d,rfl,⟨hr,⟨b,hb,hf,hz⟩,hd⟩,q⟩:=h
 obtain ⟨u,rfl,ru⟩:=vals1 r
 have hs:=Va hb hf
 have hl:d.shown.length<=Aw:=by have:=fB hf; omega
 have hnd:=hr.noDict
 obtain ⟨as,rs⟩:=hr.reads I ru
 cases hr with
 | non=>cases ru; exact PySem.P.str_of_none ⟨.str _,H,I.tok _,⟨_,rfl⟩,q⟩
 | bl c=>cases ru; exact PySem.P.str_of_bool ⟨.str _,H,I.tok _,⟨_,rfl⟩,by cases c <;> exact q⟩
 | int i =>
  obtain ⟨t,rfl⟩:=ru
  exact PySem.P.str_of_int (by simpa [Gx] using hs) ⟨.str _,H,I.tok _,⟨_,rfl⟩,q⟩
 | str y =>
  obtain ⟨t,rfl⟩:=ru
  exact PySem.P.str_of_str ⟨.str _,H,I,⟨_,rfl⟩,q⟩
 | lst h1 h2 =>
  cases ru
  exact str_of_reads rs hs (λz=>by rw[hnd] at z; cases z) hg (by omega) (λ_ _ e=>e) (λh' u tk hk=>⟨.str _,H,I.kept hk,⟨_,rfl⟩,q⟩) hl
 | tup h1 h2 =>
  cases ru
  exact str_of_reads rs hs (λz=>by rw[hnd] at z; cases z) hg (by omega) (λ_ _ e=>e) (λh' u tk hk=>⟨.str _,H,I.kept hk,⟨_,rfl⟩,q⟩) hl
theorem Ek.at'{xs:List V}{us:List Value}(r:Ek xs us){j:Nat}(h:j<us.length):∃x,xs[j]? = some x/\RelV x us[j]:=by
 have hl:=r.length
 have hj:j<xs.length:=by omega
 obtain ⟨u,hu,ru⟩:=r.get (i:=j) (x:=xs[j]) (by simp [hj])
 rw[Cd h] at hu
 cases hu
 exact ⟨xs[j],by simp [hj],ru⟩
section
variable{X:Cx}{pins:List (Addr×Obj)}{σ:L2.St}{H:Hp}{s:Aj}{A:Df}
theorem Ug(A:Df):A.in1.units<=A.units+1:=by
 first | exact Ah _ | (simp [Around.in1]; done) | (unfold Around.in1; simp)
theorem fP:Jn X (.builtin "isinstance") (λxs H Q=>∃x n t b,xs=[x,.ty n]/\TyOf X.K H x t/\PySem.W.kitOne X.K t (.type n)=some b/\Q (.bl b) H):=by
 intro pins s σ H xs us Q I r h
 obtain ⟨x,n,t,b,rfl,ty,e,q⟩:=h
 obtain ⟨u,v,rfl,ru,rv⟩:=vals2 r
 cases rv
 exact oV I ru ty e λtk=>⟨.bl b,H,I.tok _,rfl,q⟩
theorem tW(hc:X.calm=true):Jn X (.builtin "all") (λxs H Q=>∃(p:Addr) (bs:List Bool),xs=[.ref p]/\Oy X.K H p (bs.map V.bl)/\Q (.bl (bs.all id)) H):=by
 intro pins s σ H xs us Q I r h
 obtain ⟨p,bs,rfl,hp,q⟩:=h
 obtain ⟨u,rfl,ru⟩:=vals1 r
 cases ru
 obtain ⟨its,rv,pl,_⟩:=I.list hp
 have hlen:its.toArray.size=bs.length:=by
  have:=rv.length
  rw[Ae] at this
  rw[Ao]; omega
 refine call_all_walk (aU pl.isList ?_)
 have hd:X.A.in1.handled=none:=I.ok.hd hc
 have ne:p≠s.heap.objs.size:=Cp (let ⟨o,q,_⟩:=pl.isList; Bc q)
 refine ⟨s.heap.objs.size,_,_,_,_,_,λi=>bs.getD i false,rfl,Walks.list hd s.heap.objs.size p ne its.toArray,⟨⟨_,Ay _ rfl,rfl,rfl⟩,pl.isList.push _⟩,?_,?_⟩
 ·intro i v s' Q' E' hv hq
  have hv':its[i]? = some v:=by simpa using hv
  have hi:i<its.length:=(Aq.mp hv').1
  obtain ⟨x,e1,q1⟩:=Ek.at' rv hi
  rw[Cd hi] at hv'
  have hv'':its[i]=v:=Ca hv'
  rw[hv''] at q1
  rw[Cf] at e1
  cases eb:bs[i]? with
  | none=>rw[eb] at e1; cases e1
  | some b =>
   rw[eb] at e1
   cases e1
   cases q1
   have : bs.getD i false=b:=by simp [List.getD_eq_getElem?_getD,eb]
   have hq':Q' (bs.getD i false) s':=hq
   rw[this] at hq'
   exact Gm hq'
 ·intro h' tk hk
  have e:((Br its.toArray.size).all λi=>bs.getD i false)=bs.all id:=by
   rw[hlen]
   have : bs=(Br bs.length).map (λj=>bs.getD j false):=(range_getD bs false).symm
   conv=>rhs; rw[this]
   rw[List.all_map]
   rfl
  rw[e]
  refine ⟨.bl _,H,I.kept (h':=h') (t':=tk) (λb o qq=>hk b o ?_ (Ag _ qq)),rfl,q⟩
  intro z
  have e2:b=s.heap.objs.size:=by simpa using z
  have e3:=Bc qq
  rw[e2] at e3
  exact absurd e3 (Gj _)
end
section
variable{prog:Bu}{w:World}{A:Df}{E:Value->Aj->Prop}{s:Aj}
theorem Rb{t sl:Addr}{items:Array Value}{vl vu:Value}{lo hi:Option Int}{Q:Value->Aj->Prop}(ht:IsTup s.heap t items)(hs:s.heap.IsSliceOf sl vl vu .none)(pl:Vo vl lo)(pu:Vo vu hi)(hw:HT.sIx items.size 0 lo=0/\HT.sIx items.size items.size hi=items.size)(h:Q (.ref t) s):wpAny (model prog w) A (getItem (.ref t) (.ref sl)) Q E s:=by
 obtain ⟨os,hos,hcs,hds⟩:=id hs
 have hTs:s.TypeIs (.ref sl) "slice" := ⟨os,hos,hcs⟩
 unfold getItem
 try with_reducible refine Ef ?_
 first | refine Ac (Al ?_) | skip
 refine Ac (wpAny_sequenceKey ht.typeIs (by decide) ?_)
 refine Ac (Ko (name:=Kg "__getitem__") ht.typeIs Dq
  (He Dq ht.typeIs entry_tuple_getitem ?_ (args_tuple_getitem _ _)))
 show wpAny _ _ (Tr (.ref t) >>= _) _ _ s
 refine Ac (tupleItemsOf_ ht ?_)
 refine Ac (Nv hTs ?_)
 rw[if_pos (by decide)]
 refine Ac (HT.sliceApplied_gen hs pl pu ?_)
 rw[hw.1,hw.2]
 have hyes:(((0:Nat):Int) == 0 && (1:Int) == 1 && (items.size - 0) == items.size)=true:=by simp
 show wpAny _ _ (if (((0:Nat):Int) == 0 && (1:Int) == 1 && (items.size - 0) == items.size)=true then _ else _) _ _ s
 rw[if_pos hyes]
 have hex:∀{R:Bool->Aj->Prop},R true s->wpAny (model prog w) A.in1 (Tt (.ref t)) R E s:=λ{R} hR=>by
  unfold Tt
  refine Ac (Nv ht.typeIs (Al ?_))
  rw[beq_self_eq_true]
  exact hR
 refine Ac (hex ?_)
 rw[if_pos rfl]
 exact Ac (wpAny_rule (Al ⟨_,rfl,Al h⟩))
end
mutual
def Dh:Ad->Ad->Bool
 | .none,.none=>true
 | .bool a,.bool b=>a == b
 | .bool a,.int b=>(if a then 1 else 0) == b
 | .int a,.bool b=>a == (if b then 1 else 0)
 | .int a,.int b=>a == b
 | .str a,.str b=>a == b
 | .list xs,.list ys=>Ir xs ys
 | .tuple xs,.tuple ys=>Ir xs ys
 | _,_=>false
def Ir:List Ad->List Ad->Bool
 | [],[]=>true
 | x::xs,y::ys=>Dh x y && Ir xs ys
 | _,_=>false
end
theorem Lu:∀ds es:List Ad,(((Br (min ds.length es.length)).all λj=>Dh (ds.getD j .none) (es.getD j .none)) && ds.length == es.length)=Ir ds es
 | [],[]=>by simp [Ir]
 | [],_::_=>by simp [Ir]
 | _::_,[]=>by simp [Ir]
 | d::ds,e::es=>by
  have ih:=Lu ds es
  rw[Ir,<- ih]
  have h1:min (d::ds).length (e::es).length=min ds.length es.length+1:=by simp only[Bq]; omega
  rw[h1,List.range_succ_eq_map,List.all_cons,List.all_map]
  have h2:((d::ds).length == (e::es).length)=(ds.length == es.length):=by
   rw[Bool.eq_iff_iff]; simp
  rw[h2,Bool.and_assoc]
  rfl
section
variable{X:Cx}{pins:List (Addr×Obj)}{σ:L2.St}{H:Hp}{s:Aj}{K:PySem.W.Frag}
mutual
theorem RdV.eqD_self:∀{v:V} {d:Ad},RdV K H v d->Dh d d=true
 | _,_,.non=>by simp [Dh]
 | _,_,.bl b=>by simp [Dh]
 | _,_,.int i=>by simp [Dh]
 | _,_,.str x=>by simp [Dh]
 | _,_,.lst _ h=>by rw[Dh]; exact RdVs.eqDs_self h
 | _,_,.tup _ h=>by rw[Dh]; exact RdVs.eqDs_self h
theorem RdVs.eqDs_self:∀{vs:List V} {ds:List Ad},RdVs K H vs ds->Ir ds ds=true
 | _,_,.nil=>by simp [Ir]
 | _,_,.cons h t=>by rw[Ir,RdV.eqD_self h,RdVs.eqDs_self t]; rfl
end
theorem fZ(I:Inv X pins σ H s){a:Addr}{xs ys:List V}(h1:Oy X.K H a xs)(h2:To X.K H a ys):False:=by
 obtain ⟨us,_,p1,_⟩:=I.list h1
 obtain ⟨vs,_,p2,_⟩:=I.tuple h2
 exact SeqAt.ne_of_list_tuple p1.isList p2 rfl
mutual
theorem RdV.det(I:Inv X pins σ H s):∀{v:V} {d e:Ad},RdV X.K H v d->RdV X.K H v e->d=e
 | _,_,_,.non,h=>by cases h; rfl
 | _,_,_,.bl b,h=>by cases h; rfl
 | _,_,_,.int i,h=>by cases h; rfl
 | _,_,_,.str x,h=>by cases h; rfl
 | _,_,_,.lst q r,h=>by
  cases h with
  | lst q' r' =>
   have e:=I.list_inj q q'
   subst e
   rw[RdVs.det I r r']
  | tup q' r'=>exact (fZ I q q').elim
 | _,_,_,.tup q r,h=>by
  cases h with
  | lst q' r'=>exact (fZ I q' q).elim
  | tup q' r' =>
   have e:=I.tuple_inj q q'
   subst e
   rw[RdVs.det I r r']
theorem RdVs.det(I:Inv X pins σ H s):∀{vs:List V} {ds es:List Ad},RdVs X.K H vs ds->RdVs X.K H vs es->ds=es
 | _,_,_,.nil,h=>by cases h; rfl
 | _,_,_,.cons r t,h=>by
  cases h with
  | cons r' t'=>rw[RdV.det I r r',RdVs.det I t t']
end
theorem RdVs.length:∀{vs:List V} {ds:List Ad},RdVs K H vs ds->vs.length=ds.length
 | _,_,.nil=>rfl
 | _,_,.cons _ t=>by rw[Bq,Bq,RdVs.length t]
theorem Uc{A:Df}{n:Nat}(h:A.units+(n+1)<cLine):A.in1.units+n<cLine:=by
 have:=Ug A
 omega
theorem fC{A:Df}{a b:Addr}{us vs:List Value}{ds es:List Ad}(p1:PlainL s.heap a us.toArray)(p2:PlainL s.heap b vs.toArray)(l1:us.length=ds.length)(l2:vs.length=es.length)(hu:A.units<cLine)(he:∀j (h1:j<us.length) (h2:j<vs.length),Mu A.in1 s us[j] vs[j] (Dh (ds.getD j .none) (es.getD j .none))):SeqAt.RcAt A s (.ref a) (.ref b) (Ir ds es):=by
 rw[<- Lu]
 by_cases hl:ds.length=es.length
 ·have hs:us.toArray.size=vs.toArray.size:=by rw[Ao,Ao,l1,l2,hl]
  have h:=SeqAt.RcAt.lists (A:=A) (e:=λj=>Dh (ds.getD j .none) (es.getD j .none)) p1.isList p2.isList hs hu (λj h1 h2=>by simpa using he j (by simpa using h1) (by simpa using h2))
  rw[Ao,l1] at h
  rw[hl,Nat.min_self,beq_self_eq_true,Bool.and_true,<- hl]
  exact h
 ·have hs:(us.toArray.size != vs.toArray.size)=true:=by rw[Ao,Ao,l1,l2]; simpa using hl
  have h:=SeqAt.RcAt.lists_lengths (A:=A) p1.isList p2.isList hs hu
  have e0:(ds.length == es.length)=false:=by simpa using hl
  rw[e0,Na]
  exact h
theorem aE{A:Df}{a b:Addr}{us vs:List Value}{ds es:List Ad}(p1:IsTup s.heap a us.toArray)(p2:IsTup s.heap b vs.toArray)(l1:us.length=ds.length)(l2:vs.length=es.length)(hu:A.units<cLine)(he:∀j (h1:j<us.length) (h2:j<vs.length),Mu A.in1 s us[j] vs[j] (Dh (ds.getD j .none) (es.getD j .none))):SeqAt.RcAt A s (.ref a) (.ref b) (Ir ds es):=by
 rw[<- Lu]
 have h:=SeqAt.RcAt.tuples (A:=A) (e:=λj=>Dh (ds.getD j .none) (es.getD j .none)) (show s.heap.IsTuple a us.toArray from p1) (show s.heap.IsTuple b vs.toArray from p2) hu (λj h1 h2=>by simpa using he j (by simpa using h1) (by simpa using h2))
 rw[Ao,Ao,l1,l2] at h
 exact h
mutual
theorem tJ(I:Inv X pins σ H s):∀{A:Df} {x y:V} {d e:Ad} {u v:Value},RdV X.K H x d->RdV X.K H y e->RelV x u->RelV y v->A.units+d.depth<cLine->Mu A s u v (Dh d e)
 | A,_,_,_,_,_,_,.non,h,ru,rv,hu=>by
  cases ru
  have hu':A.units<cLine:=by omega
  cases h with
  | non=>cases rv; rw[Dh]; exact SeqAt.EqAt.same _
  | bl b=>cases rv; rw[Dh]; exact SeqAt.EqAt.none_bool b; all_goals simp
  | int b=>obtain ⟨t,rfl⟩:=rv; rw[Dh]; exact SeqAt.EqAt.none_int b t; all_goals simp
  | str b=>obtain ⟨t,rfl⟩:=rv; rw[Dh]; exact SeqAt.EqAt.none_str b t; all_goals simp
  | lst q r=>cases rv; obtain ⟨us,_,p,_⟩:=I.list q; rw[Dh]; exact SeqAt.EqAt.none_list p.isList hu'; all_goals simp
  | tup q r=>cases rv; obtain ⟨us,_,p,_⟩:=I.tuple q; rw[Dh]; exact SeqAt.EqAt.none_tuple p hu'; all_goals simp
 | A,_,_,_,_,_,_,.bl a,h,ru,rv,hu=>by
  cases ru
  have hu':A.units<cLine:=by omega
  cases h with
  | non=>cases rv; rw[Dh]; exact SeqAt.EqAt.bool_none a; all_goals simp
  | bl b=>cases rv; rw[Dh]; exact SeqAt.EqAt.bool_bool a b
  | int b=>obtain ⟨t,rfl⟩:=rv; rw[Dh]; exact SeqAt.EqAt.bool_int a b t
  | str b=>obtain ⟨t,rfl⟩:=rv; rw[Dh]; exact SeqAt.EqAt.bool_str a b t; all_goals simp
  | lst q r=>cases rv; obtain ⟨us,_,p,_⟩:=I.list q; rw[Dh]; exact SeqAt.EqAt.bool_list a p.isList hu'; all_goals simp
  | tup q r=>cases rv; obtain ⟨us,_,p,_⟩:=I.tuple q; rw[Dh]; exact SeqAt.EqAt.bool_tuple a p hu'; all_goals simp
 | A,_,_,_,_,_,_,.int a,h,ru,rv,hu=>by
  obtain ⟨t',rfl⟩:=ru
  have hu':A.units<cLine:=by omega
  cases h with
  | non=>cases rv; rw[Dh]; exact SeqAt.EqAt.int_none a t'; all_goals simp
  | bl b=>cases rv; rw[Dh]; exact SeqAt.EqAt.int_bool a t' b
  | int b=>obtain ⟨t,rfl⟩:=rv; rw[Dh]; exact SeqAt.EqAt.int_int a t' b t
  | str b=>obtain ⟨t,rfl⟩:=rv; rw[Dh]; exact SeqAt.EqAt.int_str a t' b t; all_goals simp
  | lst q r=>cases rv; obtain ⟨us,_,p,_⟩:=I.list q; rw[Dh]; exact SeqAt.EqAt.int_list a t' p.isList hu'; all_goals simp
  | tup q r=>cases rv; obtain ⟨us,_,p,_⟩:=I.tuple q; rw[Dh]; exact SeqAt.EqAt.int_tuple a t' p hu'; all_goals simp
 | A,_,_,_,_,_,_,.str a,h,ru,rv,hu=>by
  obtain ⟨t',rfl⟩:=ru
  have hu':A.units<cLine:=by omega
  cases h with
  | non=>cases rv; rw[Dh]; exact SeqAt.EqAt.str_none a t'; all_goals simp
  | bl b=>cases rv; rw[Dh]; exact SeqAt.EqAt.str_bool a t' b; all_goals simp
  | int b=>obtain ⟨t,rfl⟩:=rv; rw[Dh]; exact SeqAt.EqAt.str_int a t' b t; all_goals simp
  | str b=>obtain ⟨t,rfl⟩:=rv; rw[Dh]; exact SeqAt.EqAt.str_str a t' b t
  | lst q r=>cases rv; obtain ⟨us,_,p,_⟩:=I.list q; rw[Dh]; exact SeqAt.EqAt.str_list a t' p.isList hu'; all_goals simp
  | tup q r=>cases rv; obtain ⟨us,_,p,_⟩:=I.tuple q; rw[Dh]; exact SeqAt.EqAt.str_tuple a t' p hu'; all_goals simp
 | A,_,_,_,_,_,_,@RdV.lst _ _ a xs ds q r,h,ru,rv,hu=>by
  cases ru
  have hu':A.units<cLine:=by omega
  obtain ⟨us,r1,p,_⟩:=I.list q
  cases h with
  | non=>cases rv; rw[Dh]; exact SeqAt.EqAt.list_none p.isList hu'; all_goals simp
  | bl b=>cases rv; rw[Dh]; exact SeqAt.EqAt.list_bool b p.isList hu'; all_goals simp
  | int b=>obtain ⟨t,rfl⟩:=rv; rw[Dh]; exact SeqAt.EqAt.list_int b t p.isList hu'; all_goals simp
  | str b=>obtain ⟨t,rfl⟩:=rv; rw[Dh]; exact SeqAt.EqAt.list_str b t p.isList hu'; all_goals simp
  | @lst b ys es q2 rr2 =>
   cases rv
   obtain ⟨vs,r2,p2,_⟩:=I.list q2
   rw[Dh]
   by_cases hab:a=b
   ·subst hab
    have e:=I.list_inj q q2
    subst e
    rw[<- RdVs.det I r rr2,RdVs.eqDs_self r]
    exact SeqAt.EqAt.same _
   ·refine SeqAt.EqAt.of_refs hab (fC p p2 (r1.length.symm.trans r.length) (r2.length.symm.trans rr2.length) hu' λj h1 h2=>?_)
    exact Og I r rr2 r1 r2 (Uc (by simpa only [Cg] using hu)) j h1 h2
  | tup q2 rr2=>cases rv; obtain ⟨vs,_,p2,_⟩:=I.tuple q2; rw[Dh]; exact SeqAt.EqAt.list_tuple p.isList p2 hu'; all_goals simp
 | A,_,_,_,_,_,_,@RdV.tup _ _ a xs ds q r,h,ru,rv,hu=>by
  cases ru
  have hu':A.units<cLine:=by omega
  obtain ⟨us,r1,p,_⟩:=I.tuple q
  cases h with
  | non=>cases rv; rw[Dh]; exact SeqAt.EqAt.tuple_none p hu'; all_goals simp
  | bl b=>cases rv; rw[Dh]; exact SeqAt.EqAt.tuple_bool b p hu'; all_goals simp
  | int b=>obtain ⟨t,rfl⟩:=rv; rw[Dh]; exact SeqAt.EqAt.tuple_int b t p hu'; all_goals simp
  | str b=>obtain ⟨t,rfl⟩:=rv; rw[Dh]; exact SeqAt.EqAt.tuple_str b t p hu'; all_goals simp
  | lst q2 rr2=>cases rv; obtain ⟨vs,_,p2,_⟩:=I.list q2; rw[Dh]; exact SeqAt.EqAt.tuple_list p p2.isList hu'; all_goals simp
  | @tup b ys es q2 rr2 =>
   cases rv
   obtain ⟨vs,r2,p2,_⟩:=I.tuple q2
   rw[Dh]
   by_cases hab:a=b
   ·subst hab
    have e:=I.tuple_inj q q2
    subst e
    rw[<- RdVs.det I r rr2,RdVs.eqDs_self r]
    exact SeqAt.EqAt.same _
   ·refine SeqAt.EqAt.of_refs hab (aE p p2 (r1.length.symm.trans r.length) (r2.length.symm.trans rr2.length) hu' λj h1 h2=>?_)
    exact Og I r rr2 r1 r2 (Uc (by simpa only [Cg] using hu)) j h1 h2
theorem Og(I:Inv X pins σ H s):∀{A:Df} {xs ys:List V} {ds es:List Ad} {us vs:List Value},RdVs X.K H xs ds->RdVs X.K H ys es->Ek xs us->Ek ys vs->A.units+Bb ds<cLine->∀j (h1:j<us.length) (h2:j<vs.length),Mu A s us[j] vs[j] (Dh (ds.getD j .none) (es.getD j .none))
 | _,_,_,_,_,_,_,.nil,_,r1,_,_=>λj h1 h2=>by cases r1; exact absurd h1 (Dy _)
 | A,_,_,_,_,_,_,@RdVs.cons _ _ x d xs ds r t,h,r1,r2,hu=>λj h1 h2=>by
  cases h with
  | nil=>cases r2; exact absurd h2 (Dy _)
  | cons r' t' =>
   cases r1 with
   | cons ra ta =>
    cases r2 with
    | cons rb tb =>
     have hm:A.units+d.depth<cLine/\A.units+Bb ds<cLine:=by
      simp only[Bb] at hu
      omega
     cases j with
     | zero=>simpa using tJ I r r' ra rb hm.1
     | succ j=>simpa using Og I t t' ta tb hm.2 j (by simpa using h1) (by simpa using h2)
end
end
section
variable{X:Cx}{pins:List (Addr×Obj)}{σ:L2.St}{H:Hp}{s:Aj}{K:PySem.W.Frag}
theorem nI{A:Df}{a b:Addr}{us vs:List Value}{ds es:List Ad}(p1:PlainL s.heap a us.toArray)(p2:PlainL s.heap b vs.toArray)(l1:us.length=ds.length)(l2:vs.length=es.length)(hu:A.units<cLine)(he:∀j (h1:j<us.length) (h2:j<vs.length),Mu A.in1 s us[j] vs[j] (Dh (ds.getD j .none) (es.getD j .none))):SeqAt.RcNeAt A s (.ref a) (.ref b) (!Ir ds es):=by
 rw[<- Lu]
 by_cases hl:ds.length=es.length
 ·have hs:us.toArray.size=vs.toArray.size:=by rw[Ao,Ao,l1,l2,hl]
  have h:=SeqAt.RcNeAt.lists (A:=A) (e:=λj=>Dh (ds.getD j .none) (es.getD j .none)) p1.isList p2.isList hs hu (λj h1 h2=>by simpa using he j (by simpa using h1) (by simpa using h2))
  rw[Ao,l1] at h
  rw[hl,Nat.min_self,beq_self_eq_true,Bool.and_true,<- hl]
  exact h
 ·have hs:(us.toArray.size != vs.toArray.size)=true:=by rw[Ao,Ao,l1,l2]; simpa using hl
  have h:=SeqAt.RcNeAt.lists_lengths (A:=A) p1.isList p2.isList hs hu
  have e0:(ds.length == es.length)=false:=by simpa using hl
  rw[e0,Na]
  exact h
theorem jR{A:Df}{a b:Addr}{us vs:List Value}{ds es:List Ad}(p1:IsTup s.heap a us.toArray)(p2:IsTup s.heap b vs.toArray)(l1:us.length=ds.length)(l2:vs.length=es.length)(hu:A.units<cLine)(he:∀j (h1:j<us.length) (h2:j<vs.length),Mu A.in1 s us[j] vs[j] (Dh (ds.getD j .none) (es.getD j .none))):SeqAt.RcNeAt A s (.ref a) (.ref b) (!Ir ds es):=by
 rw[<- Lu]
 have h:=SeqAt.RcNeAt.tuples (A:=A) (e:=λj=>Dh (ds.getD j .none) (es.getD j .none)) (show s.heap.IsTuple a us.toArray from p1) (show s.heap.IsTuple b vs.toArray from p2) hu (λj h1 h2=>by simpa using he j (by simpa using h1) (by simpa using h2))
 rw[Ao,Ao,l1,l2] at h
 exact h
end
section
variable{X:Cx}
def E2(K:PySem.W.Frag):R2:=λx y H Q=>∃d e,RdV K H x d/\RdV K H y e/\d.depth<=60/\Q (.bl (Dh d e)) H
def J6(K:PySem.W.Frag):R2:=λx y H Q=>∃d e,RdV K H x d/\RdV K H y e/\d.depth<=60/\Q (.bl (!Dh d e)) H
theorem B1(hu:X.A.units+64<cLine):Uj X (Hf .Eq) (E2 X.K):=by
 intro pins s σ H x y v u Q I rx ry h
 obtain ⟨d,e,h1,h2,hd,q⟩:=h
 have hu':X.A.units<cLine:=by omega
 cases h1 with
 | non =>
  cases rx
  cases h2 with
  | non=>cases ry; rw[Dh] at q; exact SeqAt.RcAt.none_none _ _ _ _ ⟨.bl _,H,I,rfl,q⟩
  | bl b=>cases ry; rw[Dh] at q; exact SeqAt.RcAt.none_bool b _ _ _ _ ⟨.bl _,H,I,rfl,q⟩; all_goals simp
  | int b=>obtain ⟨t,rfl⟩:=ry; rw[Dh] at q; exact SeqAt.RcAt.none_int b t _ _ _ _ ⟨.bl _,H,I,rfl,q⟩; all_goals simp
  | str b=>obtain ⟨t,rfl⟩:=ry; rw[Dh] at q; exact SeqAt.RcAt.none_str b t _ _ _ _ ⟨.bl _,H,I,rfl,q⟩; all_goals simp
  | @lst b ys es q2 rr2=>cases ry; obtain ⟨vs,r2,p2,_⟩:=I.list q2; rw[Dh] at q; exact SeqAt.RcAt.none_list p2.isList hu' _ _ _ _ ⟨.bl _,H,I,rfl,q⟩; all_goals simp
  | @tup b ys es q2 rr2=>cases ry; obtain ⟨vs,r2,p2,_⟩:=I.tuple q2; rw[Dh] at q; exact SeqAt.RcAt.none_tuple p2 hu' _ _ _ _ ⟨.bl _,H,I,rfl,q⟩; all_goals simp
 | bl a =>
  cases rx
  cases h2 with
  | non=>cases ry; rw[Dh] at q; exact SeqAt.RcAt.bool_none a _ _ _ _ ⟨.bl _,H,I,rfl,q⟩; all_goals simp
  | bl b=>cases ry; rw[Dh] at q; exact SeqAt.RcAt.bool_bool a b _ _ _ _ ⟨.bl _,H,I,rfl,q⟩
  | int b=>obtain ⟨t,rfl⟩:=ry; rw[Dh] at q; exact SeqAt.RcAt.bool_int a b t _ _ _ _ ⟨.bl _,H,I,rfl,q⟩
  | str b=>obtain ⟨t,rfl⟩:=ry; rw[Dh] at q; exact SeqAt.RcAt.bool_str a b t _ _ _ _ ⟨.bl _,H,I,rfl,q⟩; all_goals simp
  | @lst b ys es q2 rr2=>cases ry; obtain ⟨vs,r2,p2,_⟩:=I.list q2; rw[Dh] at q; exact SeqAt.RcAt.bool_list a p2.isList hu' _ _ _ _ ⟨.bl _,H,I,rfl,q⟩; all_goals simp
  | @tup b ys es q2 rr2=>cases ry; obtain ⟨vs,r2,p2,_⟩:=I.tuple q2; rw[Dh] at q; exact SeqAt.RcAt.bool_tuple a p2 hu' _ _ _ _ ⟨.bl _,H,I,rfl,q⟩; all_goals simp
 | int a =>
  obtain ⟨t',rfl⟩:=rx
  cases h2 with
  | non=>cases ry; rw[Dh] at q; exact SeqAt.RcAt.int_none a t' _ _ _ _ ⟨.bl _,H,I,rfl,q⟩; all_goals simp
  | bl b=>cases ry; rw[Dh] at q; exact SeqAt.RcAt.int_bool a t' b _ _ _ _ ⟨.bl _,H,I,rfl,q⟩
  | int b=>obtain ⟨t,rfl⟩:=ry; rw[Dh] at q; exact SeqAt.RcAt.int_int a t' b t _ _ _ _ ⟨.bl _,H,I,rfl,q⟩
  | str b=>obtain ⟨t,rfl⟩:=ry; rw[Dh] at q; exact SeqAt.RcAt.int_str a t' b t _ _ _ _ ⟨.bl _,H,I,rfl,q⟩; all_goals simp
  | @lst b ys es q2 rr2=>cases ry; obtain ⟨vs,r2,p2,_⟩:=I.list q2; rw[Dh] at q; exact SeqAt.RcAt.int_list a t' p2.isList hu' _ _ _ _ ⟨.bl _,H,I,rfl,q⟩; all_goals simp
  | @tup b ys es q2 rr2=>cases ry; obtain ⟨vs,r2,p2,_⟩:=I.tuple q2; rw[Dh] at q; exact SeqAt.RcAt.int_tuple a t' p2 hu' _ _ _ _ ⟨.bl _,H,I,rfl,q⟩; all_goals simp
 | str a =>
  obtain ⟨t',rfl⟩:=rx
  cases h2 with
  | non=>cases ry; rw[Dh] at q; exact SeqAt.RcAt.str_none a t' _ _ _ _ ⟨.bl _,H,I,rfl,q⟩; all_goals simp
  | bl b=>cases ry; rw[Dh] at q; exact SeqAt.RcAt.str_bool a t' b _ _ _ _ ⟨.bl _,H,I,rfl,q⟩; all_goals simp
  | int b=>obtain ⟨t,rfl⟩:=ry; rw[Dh] at q; exact SeqAt.RcAt.str_int a t' b t _ _ _ _ ⟨.bl _,H,I,rfl,q⟩; all_goals simp
  | str b=>obtain ⟨t,rfl⟩:=ry; rw[Dh] at q; exact SeqAt.RcAt.str_str a t' b t _ _ _ _ ⟨.bl _,H,I,rfl,q⟩
  | @lst b ys es q2 rr2=>cases ry; obtain ⟨vs,r2,p2,_⟩:=I.list q2; rw[Dh] at q; exact SeqAt.RcAt.str_list a t' p2.isList hu' _ _ _ _ ⟨.bl _,H,I,rfl,q⟩; all_goals simp
  | @tup b ys es q2 rr2=>cases ry; obtain ⟨vs,r2,p2,_⟩:=I.tuple q2; rw[Dh] at q; exact SeqAt.RcAt.str_tuple a t' p2 hu' _ _ _ _ ⟨.bl _,H,I,rfl,q⟩; all_goals simp
 | @lst a xs ds qa r =>
  cases rx
  obtain ⟨us,r1,p,_⟩:=I.list qa
  cases h2 with
  | non=>cases ry; rw[Dh] at q; exact SeqAt.RcAt.list_none p.isList hu' _ _ _ _ ⟨.bl _,H,I,rfl,q⟩; all_goals simp
  | bl b=>cases ry; rw[Dh] at q; exact SeqAt.RcAt.list_bool b p.isList hu' _ _ _ _ ⟨.bl _,H,I,rfl,q⟩; all_goals simp
  | int b=>obtain ⟨t,rfl⟩:=ry; rw[Dh] at q; exact SeqAt.RcAt.list_int b t p.isList hu' _ _ _ _ ⟨.bl _,H,I,rfl,q⟩; all_goals simp
  | str b=>obtain ⟨t,rfl⟩:=ry; rw[Dh] at q; exact SeqAt.RcAt.list_str b t p.isList hu' _ _ _ _ ⟨.bl _,H,I,rfl,q⟩; all_goals simp
  | @lst b ys es q2 rr2=>cases ry; obtain ⟨vs,r2,p2,_⟩:=I.list q2; rw[Dh] at q; exact fC p p2 (r1.length.symm.trans r.length) (r2.length.symm.trans rr2.length) hu' (λj h1 h2=>Og I r rr2 r1 r2 (Uc (by simp only[Cg] at hd; omega)) j h1 h2) _ _ _ _ ⟨.bl _,H,I,rfl,q⟩
  | @tup b ys es q2 rr2=>cases ry; obtain ⟨vs,r2,p2,_⟩:=I.tuple q2; rw[Dh] at q; exact SeqAt.RcAt.list_tuple p.isList p2 hu' _ _ _ _ ⟨.bl _,H,I,rfl,q⟩; all_goals simp
 | @tup a xs ds qa r =>
  cases rx
  obtain ⟨us,r1,p,_⟩:=I.tuple qa
  cases h2 with
  | non=>cases ry; rw[Dh] at q; exact SeqAt.RcAt.tuple_none p hu' _ _ _ _ ⟨.bl _,H,I,rfl,q⟩; all_goals simp
  | bl b=>cases ry; rw[Dh] at q; exact SeqAt.RcAt.tuple_bool b p hu' _ _ _ _ ⟨.bl _,H,I,rfl,q⟩; all_goals simp
  | int b=>obtain ⟨t,rfl⟩:=ry; rw[Dh] at q; exact SeqAt.RcAt.tuple_int b t p hu' _ _ _ _ ⟨.bl _,H,I,rfl,q⟩; all_goals simp
  | str b=>obtain ⟨t,rfl⟩:=ry; rw[Dh] at q; exact SeqAt.RcAt.tuple_str b t p hu' _ _ _ _ ⟨.bl _,H,I,rfl,q⟩; all_goals simp
  | @lst b ys es q2 rr2=>cases ry; obtain ⟨vs,r2,p2,_⟩:=I.list q2; rw[Dh] at q; exact SeqAt.RcAt.tuple_list p p2.isList hu' _ _ _ _ ⟨.bl _,H,I,rfl,q⟩; all_goals simp
  | @tup b ys es q2 rr2=>cases ry; obtain ⟨vs,r2,p2,_⟩:=I.tuple q2; rw[Dh] at q; exact aE p p2 (r1.length.symm.trans r.length) (r2.length.symm.trans rr2.length) hu' (λj h1 h2=>Og I r rr2 r1 r2 (Uc (by simp only[Cg] at hd; omega)) j h1 h2) _ _ _ _ ⟨.bl _,H,I,rfl,q⟩
theorem r0(hu:X.A.units+64<cLine):Uj X (Hf .NotEq) (J6 X.K):=by
 intro pins s σ H x y v u Q I rx ry h
 obtain ⟨d,e,h1,h2,hd,q⟩:=h
 have hu':X.A.units<cLine:=by omega
 cases h1 with
 | non =>
  cases rx
  cases h2 with
  | non=>cases ry; rw[Dh] at q; exact SeqAt.RcNeAt.none_none _ _ _ _ ⟨.bl _,H,I,rfl,q⟩
  | bl b=>cases ry; rw[Dh] at q; exact SeqAt.RcNeAt.none_bool b _ _ _ _ ⟨.bl _,H,I,rfl,q⟩; all_goals simp
  | int b=>obtain ⟨t,rfl⟩:=ry; rw[Dh] at q; exact SeqAt.RcNeAt.none_int b t _ _ _ _ ⟨.bl _,H,I,rfl,q⟩; all_goals simp
  | str b=>obtain ⟨t,rfl⟩:=ry; rw[Dh] at q; exact SeqAt.RcNeAt.none_str b t _ _ _ _ ⟨.bl _,H,I,rfl,q⟩; all_goals simp
  | @lst b ys es q2 rr2=>cases ry; obtain ⟨vs,r2,p2,_⟩:=I.list q2; rw[Dh] at q; exact SeqAt.RcNeAt.none_list p2.isList hu' _ _ _ _ ⟨.bl _,H,I,rfl,q⟩; all_goals simp
  | @tup b ys es q2 rr2=>cases ry; obtain ⟨vs,r2,p2,_⟩:=I.tuple q2; rw[Dh] at q; exact SeqAt.RcNeAt.none_tuple p2 hu' _ _ _ _ ⟨.bl _,H,I,rfl,q⟩; all_goals simp
 | bl a =>
  cases rx
  cases h2 with
  | non=>cases ry; rw[Dh] at q; exact SeqAt.RcNeAt.bool_none a _ _ _ _ ⟨.bl _,H,I,rfl,q⟩; all_goals simp
  | bl b=>cases ry; rw[Dh] at q; exact SeqAt.RcNeAt.bool_bool a b _ _ _ _ ⟨.bl _,H,I,rfl,q⟩
  | int b=>obtain ⟨t,rfl⟩:=ry; rw[Dh] at q; exact SeqAt.RcNeAt.bool_int a b t _ _ _ _ ⟨.bl _,H,I,rfl,q⟩
  | str b=>obtain ⟨t,rfl⟩:=ry; rw[Dh] at q; exact SeqAt.RcNeAt.bool_str a b t _ _ _ _ ⟨.bl _,H,I,rfl,q⟩; all_goals simp
  | @lst b ys es q2 rr2=>cases ry; obtain ⟨vs,r2,p2,_⟩:=I.list q2; rw[Dh] at q; exact SeqAt.RcNeAt.bool_list a p2.isList hu' _ _ _ _ ⟨.bl _,H,I,rfl,q⟩; all_goals simp
  | @tup b ys es q2 rr2=>cases ry; obtain ⟨vs,r2,p2,_⟩:=I.tuple q2; rw[Dh] at q; exact SeqAt.RcNeAt.bool_tuple a p2 hu' _ _ _ _ ⟨.bl _,H,I,rfl,q⟩; all_goals simp
 | int a =>
  obtain ⟨t',rfl⟩:=rx
  cases h2 with
  | non=>cases ry; rw[Dh] at q; exact SeqAt.RcNeAt.int_none a t' _ _ _ _ ⟨.bl _,H,I,rfl,q⟩; all_goals simp
  | bl b=>cases ry; rw[Dh] at q; exact SeqAt.RcNeAt.int_bool a t' b _ _ _ _ ⟨.bl _,H,I,rfl,q⟩
  | int b=>obtain ⟨t,rfl⟩:=ry; rw[Dh] at q; exact SeqAt.RcNeAt.int_int a t' b t _ _ _ _ ⟨.bl _,H,I,rfl,q⟩
  | str b=>obtain ⟨t,rfl⟩:=ry; rw[Dh] at q; exact SeqAt.RcNeAt.int_str a t' b t _ _ _ _ ⟨.bl _,H,I,rfl,q⟩; all_goals simp
  | @lst b ys es q2 rr2=>cases ry; obtain ⟨vs,r2,p2,_⟩:=I.list q2; rw[Dh] at q; exact SeqAt.RcNeAt.int_list a t' p2.isList hu' _ _ _ _ ⟨.bl _,H,I,rfl,q⟩; all_goals simp
  | @tup b ys es q2 rr2=>cases ry; obtain ⟨vs,r2,p2,_⟩:=I.tuple q2; rw[Dh] at q; exact SeqAt.RcNeAt.int_tuple a t' p2 hu' _ _ _ _ ⟨.bl _,H,I,rfl,q⟩; all_goals simp
 | str a =>
  obtain ⟨t',rfl⟩:=rx
  cases h2 with
  | non=>cases ry; rw[Dh] at q; exact SeqAt.RcNeAt.str_none a t' _ _ _ _ ⟨.bl _,H,I,rfl,q⟩; all_goals simp
  | bl b=>cases ry; rw[Dh] at q; exact SeqAt.RcNeAt.str_bool a t' b _ _ _ _ ⟨.bl _,H,I,rfl,q⟩; all_goals simp
  | int b=>obtain ⟨t,rfl⟩:=ry; rw[Dh] at q; exact SeqAt.RcNeAt.str_int a t' b t _ _ _ _ ⟨.bl _,H,I,rfl,q⟩; all_goals simp
  | str b=>obtain ⟨t,rfl⟩:=ry; rw[Dh] at q; exact SeqAt.RcNeAt.str_str a t' b t _ _ _ _ ⟨.bl _,H,I,rfl,q⟩
  | @lst b ys es q2 rr2=>cases ry; obtain ⟨vs,r2,p2,_⟩:=I.list q2; rw[Dh] at q; exact SeqAt.RcNeAt.str_list a t' p2.isList hu' _ _ _ _ ⟨.bl _,H,I,rfl,q⟩; all_goals simp
  | @tup b ys es q2 rr2=>cases ry; obtain ⟨vs,r2,p2,_⟩:=I.tuple q2; rw[Dh] at q; exact SeqAt.RcNeAt.str_tuple a t' p2 hu' _ _ _ _ ⟨.bl _,H,I,rfl,q⟩; all_goals simp
 | @lst a xs ds qa r =>
  cases rx
  obtain ⟨us,r1,p,_⟩:=I.list qa
  cases h2 with
  | non=>cases ry; rw[Dh] at q; exact SeqAt.RcNeAt.list_none p.isList hu' _ _ _ _ ⟨.bl _,H,I,rfl,q⟩; all_goals simp
  | bl b=>cases ry; rw[Dh] at q; exact SeqAt.RcNeAt.list_bool b p.isList hu' _ _ _ _ ⟨.bl _,H,I,rfl,q⟩; all_goals simp
  | int b=>obtain ⟨t,rfl⟩:=ry; rw[Dh] at q; exact SeqAt.RcNeAt.list_int b t p.isList hu' _ _ _ _ ⟨.bl _,H,I,rfl,q⟩; all_goals simp
  | str b=>obtain ⟨t,rfl⟩:=ry; rw[Dh] at q; exact SeqAt.RcNeAt.list_str b t p.isList hu' _ _ _ _ ⟨.bl _,H,I,rfl,q⟩; all_goals simp
  | @lst b ys es q2 rr2=>cases ry; obtain ⟨vs,r2,p2,_⟩:=I.list q2; rw[Dh] at q; exact nI p p2 (r1.length.symm.trans r.length) (r2.length.symm.trans rr2.length) hu' (λj h1 h2=>Og I r rr2 r1 r2 (Uc (by simp only[Cg] at hd; omega)) j h1 h2) _ _ _ _ ⟨.bl _,H,I,rfl,q⟩
  | @tup b ys es q2 rr2=>cases ry; obtain ⟨vs,r2,p2,_⟩:=I.tuple q2; rw[Dh] at q; exact SeqAt.RcNeAt.list_tuple p.isList p2 hu' _ _ _ _ ⟨.bl _,H,I,rfl,q⟩; all_goals simp
 | @tup a xs ds qa r =>
  cases rx
  obtain ⟨us,r1,p,_⟩:=I.tuple qa
  cases h2 with
  | non=>cases ry; rw[Dh] at q; exact SeqAt.RcNeAt.tuple_none p hu' _ _ _ _ ⟨.bl _,H,I,rfl,q⟩; all_goals simp
  | bl b=>cases ry; rw[Dh] at q; exact SeqAt.RcNeAt.tuple_bool b p hu' _ _ _ _ ⟨.bl _,H,I,rfl,q⟩; all_goals simp
  | int b=>obtain ⟨t,rfl⟩:=ry; rw[Dh] at q; exact SeqAt.RcNeAt.tuple_int b t p hu' _ _ _ _ ⟨.bl _,H,I,rfl,q⟩; all_goals simp
  | str b=>obtain ⟨t,rfl⟩:=ry; rw[Dh] at q; exact SeqAt.RcNeAt.tuple_str b t p hu' _ _ _ _ ⟨.bl _,H,I,rfl,q⟩; all_goals simp
  | @lst b ys es q2 rr2=>cases ry; obtain ⟨vs,r2,p2,_⟩:=I.list q2; rw[Dh] at q; exact SeqAt.RcNeAt.tuple_list p p2.isList hu' _ _ _ _ ⟨.bl _,H,I,rfl,q⟩; all_goals simp
  | @tup b ys es q2 rr2=>cases ry; obtain ⟨vs,r2,p2,_⟩:=I.tuple q2; rw[Dh] at q; exact jR p p2 (r1.length.symm.trans r.length) (r2.length.symm.trans rr2.length) hu' (λj h1 h2=>Og I r rr2 r1 r2 (Uc (by simp only[Cg] at hd; omega)) j h1 h2) _ _ _ _ ⟨.bl _,H,I,rfl,q⟩
theorem tN{z z':V}{v:Value}(h:RelV z v)(h':RelV z' v):z=z':=by
 cases z <;> cases z' <;> simp only[L2.RelV] at h h' <;> first | rfl | (subst h; cases h'; rfl) | (subst h; cases h'; done) | (obtain ⟨t,rfl⟩:=h; obtain ⟨t',e⟩:=h'; cases e; rfl) | (obtain ⟨t,rfl⟩:=h; obtain ⟨t',e⟩:=h'; cases e; done) | (obtain ⟨t,rfl⟩:=h; cases h'; done) | (subst h; obtain ⟨t',e⟩:=h'; cases e)
open Classical in
noncomputable def Kx(K:PySem.W.Frag)(H:Hp)(d:Ad)(v:Value):Bool:=if h:∃e z,RdV K H z e/\RelV z v then Dh h.choose d else false
theorem eQ{pins:List (Addr×Obj)}{σ:L2.St}{H:Hp}{s:Aj}(I:Inv X pins σ H s){d e:Ad}{z:V}{v:Value}(h:RdV X.K H z e)(r:RelV z v):Kx X.K H d v=Dh e d:=by
 unfold Kx
 have hx:∃e z,RdV X.K H z e/\RelV z v:=⟨e,z,h,r⟩
 rw[dif_pos hx]
 obtain ⟨z',h',r'⟩:=hx.choose_spec
 have ez:=tN r' r
 subst ez
 rw[RdV.det I h' h]
theorem Nl{pins:List (Addr×Obj)}{σ:L2.St}{H:Hp}{s:Aj}(I:Inv X pins σ H s){d:Ad}:∀{xs:List V} {ds:List Ad} {us:List Value},RdVs X.K H xs ds->Ek xs us->us.any (Kx X.K H d)=ds.any λe=>Dh e d
 | _,_,_,.nil,r=>by cases r; rfl
 | _,_,_,.cons h t,r=>by
  cases r with
  | cons r1 r2=>rw[Tq,Tq,eQ I h r1,Nl I t r2]
theorem Ng{pins:List (Addr×Obj)}{σ:L2.St}{H:Hp}{s:Aj}(I:Inv X pins σ H s){A:Df}{x:V}{d:Ad}{u:Value}(hx:RdV X.K H x d)(rx:RelV x u):∀{xs:List V} {ds:List Ad} {us:List Value},RdVs X.K H xs ds->Ek xs us->A.units+Bb ds<cLine->∀v∈us,Mu A s v u (Kx X.K H d v)
 | _,_,_,.nil,r,_=>λv hv=>by cases r; cases hv
 | _,_,_,@RdVs.cons _ _ y e ys es h t,r,hu=>λv hv=>by
  have hm:A.units+e.depth<cLine/\A.units+Bb es<cLine:=by
   simp only[Bb] at hu
   omega
  cases r with
  | cons r1 r2 =>
   rcases Ai.mp hv with rfl | hv
   ·rw[eQ I h r1]; exact tJ I h hx r1 rx hm.1
   ·exact Ng I hx rx t r2 hm.2 v hv
def w5(K:PySem.W.Frag)(neg:Bool):R2:=λx y H Q=>∃p xs d ds,y=.ref p/\(Oy K H p xs\/To K H p xs)/\RdV K H x d/\RdVs K H xs ds/\Bb ds<=60/\Q (.bl (if neg then !(ds.any λe=>Dh e d) else ds.any λe=>Dh e d)) H
theorem T4(hu:X.A.units+64<cLine):Uj X (Hf .In) (w5 X.K false):=by
 intro pins s σ H x y v u Q I rx ry h
 obtain ⟨p,xs,d,ds,rfl,hq,hx,hs,hd,q⟩:=h
 cases ry
 have hu1:X.A.in1.units+Bb ds<cLine:=by have:=Ug X.A; omega
 rcases hq with hq | hq
 ·obtain ⟨its,r,pl,hz⟩:=I.list hq
  refine SeqAt.in_listAt (Kx X.K H d) pl.isList (λw hw=>Ng I hx rx hs r hu1 w (by simpa using hw)) ⟨.bl _,H,I,rfl,?_⟩
  rw[show its.toArray.any (Kx X.K H d)=its.any (Kx X.K H d) by simp,Nl I hs r]
  exact q
 ·obtain ⟨its,r,pl,hz⟩:=I.tuple hq
  refine SeqAt.in_tupleAt (Kx X.K H d) pl (λw hw=>Ng I hx rx hs r hu1 w (by simpa using hw)) ⟨.bl _,H,I,rfl,?_⟩
  rw[show its.toArray.any (Kx X.K H d)=its.any (Kx X.K H d) by simp,Nl I hs r]
  exact q
theorem mW(hu:X.A.units+64<cLine):Uj X (Hf .NotIn) (w5 X.K true):=by
 intro pins s σ H x y v u Q I rx ry h
 obtain ⟨p,xs,d,ds,rfl,hq,hx,hs,hd,q⟩:=h
 cases ry
 have hu1:X.A.in1.units+Bb ds<cLine:=by have:=Ug X.A; omega
 rcases hq with hq | hq
 ·obtain ⟨its,r,pl,hz⟩:=I.list hq
  refine SeqAt.notIn_listAt (Kx X.K H d) pl.isList (λw hw=>Ng I hx rx hs r hu1 w (by simpa using hw)) ⟨.bl _,H,I,rfl,?_⟩
  rw[show its.toArray.any (Kx X.K H d)=its.any (Kx X.K H d) by simp,Nl I hs r]
  exact q
 ·obtain ⟨its,r,pl,hz⟩:=I.tuple hq
  refine SeqAt.notIn_tupleAt (Kx X.K H d) pl (λw hw=>Ng I hx rx hs r hu1 w (by simpa using hw)) ⟨.bl _,H,I,rfl,?_⟩
  rw[show its.toArray.any (Kx X.K H d)=its.any (Kx X.K H d) by simp,Nl I hs r]
  exact q
end
section
variable{X:Cx}{pins:List (Addr×Obj)}{σ:L2.St}{H:Hp}{s:Aj}{h':Heap}
theorem mH{t':Nat}{fp:List Addr}(I:Inv X pins σ H s)(k:∀b o,b∉fp->s.heap.get? b=some o->h'.get? b=some o)(hf:∀b∈fp,Pr X pins H b):Inv X pins σ H { s with heap:=h',toks:=t' }:=by
 have nit:∀b u,H b=some u->b∉fp:=λb u e z=>by rw[(hf b z).1] at e; cases e
 refine I.step (g':=s.gens) (d':=s.drawn) (ch:=fp) (λb hb=>?_) (λb o _ _ hc e _=>k b o hc e) (λb o _ _ hc e _=>⟨o.slots,k b o hc e⟩) (λ_ _ _ _ n=>n)
  (λb o hc e=>⟨o,k b o hc e⟩) (λ_ _ e=>e) (λ_ _ _ e=>e) (λb ps e=>⟨#[],by rw[e]; simp⟩) (λm hm=>?_) (λb u e=>?_) I.bare
 ·obtain ⟨_,f1,_,f3,f4,f5⟩:=hf b hb
  exact ⟨f3,f1,f4,f5⟩
 ·obtain ⟨o,es,ep,ho,r⟩:=hm
  exact ⟨o,es,ep,k _ o (λz=>(hf _ z).2.1 rfl) ho,r⟩
 ·refine (I.hok b u e).stay (λc v hc q=>k c v ?_ q) (λ_ q=>q) λ_ _ q=>q
  rcases hc with z | z
  ·rw[z]; exact nit b u e
  ·exact nit c _ z
end
section
variable{X:Cx}
def zE(K:PySem.W.Frag)(J:It)(js:List Nat)(tc:TT)(te:TE)(σ:L2.St)(H1:Hp)(Q:VK):Prop:=∀D,H1 D=none->∃W:Nat->Nat->Hp->Prop,(∃m,W 0 m (upd H1 D (.lst [])))/\∀i m H,W i m H ->
 (J.stop i H/\Q (.ref D) H)\/(J.go i H/\∀x H',J.yld i H x H'->∃(t:Addr) (w1 w2:V),x=.ref t/\To K H' t [w1,w2]/\∃(N1:Hp->Prop) (N2:VK),(∀H2,N1 H2->∃m',m'<m/\W (i+1) m' H2) /\
  (∀y H3,N2 y H3->∃acc,H3 D=some (.lst acc)/\acc.length<Aw/\∃m',m'<m/\W (i+1) m' (upd H3 D (.lst (acc++[y])))) /\
  tc (some w1::some w2::Hk σ js) H' λc H2=>if c=true then te (some w1::some w2::Hk σ js) H2 N2 else N1 H2)
def rL(K:PySem.W.Frag)(wi:TI)(js:List Nat)(tc:TT)(te:TE):TE:=λσ H Q=>wi σ H λJ H1=>zE K J js tc te σ H1 Q
theorem pZ{elt iter:Expr}{x x2:Str}{px px2 pt pos:Pos}{kt:Nat}{ifs:List Expr}{scope:Scope}{cl:List (Str×Addr)}{ys:List Str}{js:List Nat}{wi:TI}{tc:TT}{te:TE}(C:CompScope X scope cl x ys js)(own2:sZ scope x2)(nd2:(x::x2::ys).Nodup)(hc:X.calm=true)(hi:PI X (.Tuple [.Name x px,.Name x2 px2] kt pt) iter wi)(ht:∀fp s H,yT (Fw X scope cl (x::x2::ys) fp s H) ifs tc)(he:∀fp s H,PE (Fw X scope cl (x::x2::ys) fp s H) elt te)(hs:∀x,Gn iter X.env x=pure x:=by intro _; rfl):PE X (.ListComp elt [⟨.Tuple [.Name x px,.Name x2 px2] kt pt,iter,ifs,0⟩] scope pos) (rL X.K wi js tc te):=by
 intro pins s σ H Q I h
 rw[eval_ListComp]
 refine pG (use:=none) rfl hs C.clos C.kind C.locs (Hb (hi pins s σ H _ I h) λv s1 h1=>Hb h1 λitv s2 h2=>?_)
 obtain ⟨it,fp,tn,J,H2,e,I2,T,st2,f2,q2⟩:=h2
 subst e
 have fD:H2 s2.heap.objs.size=none:=I2.hok.fresh (Ah _)
 obtain ⟨W,⟨m0,w0⟩,turn⟩:=q2 s2.heap.objs.size fD
 refine Du ?_
 have I3:Inv X pins σ (upd H2 s2.heap.objs.size (.lst [])) { s2 with heap:=s2.heap.push { cls:=.type "list",dict:=none,data:=.seq ([]:List Value).toArray } } :=
  I2.laid (t':=s2.toks) (λb u q=>Ag _ q) (Ah _) ⟨Dx _,[],0,.nil,Ay _ rfl⟩
 obtain ⟨f3,st3',o3'⟩:=gM I2 T st2 f2 I3
 generalize hS3:({ s2 with heap:=s2.heap.push { cls:=.type "list",dict:=none,data:=.seq ([]:List Value).toArray } }:Aj)=s3 at I3
 have uG:tn 0 s3.heap:=by rw[<- hS3]; exact st3'
 have o3:∀b∈fp,∃o,s3.heap.get? b=some o:=by rw[<- hS3]; exact o3'
 show wpAny _ _ (Vj scope X.env.globals cl [] X.env.qual none .none (some X.env)) _ _ _
 refine Zt C λh4 hns4 keep4 new4=>?_
 have I4:∀tk,Inv (Fw X scope cl (x::x2::ys) fp s3 (upd H2 s2.heap.objs.size (.lst []))) [] (none::none::Hk σ js) (upd H2 s2.heap.objs.size (.lst [])) { s3 with heap:=h4,toks:=tk }:=λtk=>Xr (pre:=[x,x2]) C I3 f3 o3 hns4 keep4 new4
 have st4:tn 0 h4:=T.keep 0 _ _ uG λb hb o q=>keep4 b o q
 generalize hX':Fw X scope cl (x::x2::ys) fp s3 (upd H2 s2.heap.objs.size (.lst []))=X' at I4
 obtain ⟨eP,eW,eK,eA,eC⟩:=gH hc hX'
 have stat:∀{H':Hp},(∀b∈fp,H' b=none)->∀b∈fp,Pr X' [] H' b:=λ{H'} hn=>aQ hX' (I4 0) hn
 have loop:∀s5:Aj,s5={ s3 with heap:=h4,toks:=s3.toks+([]:List (Str×Value)).length } ->
   Ld (model X.prog X.w) X.A (.compLoop (.ListComp elt [⟨.Tuple [.Name x px,.Name x2 px2] kt pt,iter,ifs,0⟩] scope pos) 0 (.ref it) (.ref s2.heap.objs.size) (compEnvC scope (Dz (s3.heap.objs.size+1) scope.names cl) s3.heap.objs.size X.env))
    (compPost (model X.prog X.w) X.A X.xe none (EP X pins σ Q) (.ref s2.heap.objs.size) s3.heap.objs.size) s5:=by
  rintro s5 rfl
  refine Xj (λn s'=>∃i o o2 H',Inv X' [] (o::o2::Hk σ js) H' s'/\tn i s'.heap/\(∀b∈fp,H' b=none)/\W i n H') ?_ m0
   ⟨0,none,none,_,I4 _,st4,λb hb=>(f3 b hb).1,w0⟩
  (intro n s6 q_; obtain ⟨i,o,o2,H6,I6,st6,fr6,w6⟩ := q_)
  rcases turn i n H6 w6 with ⟨stop,qn⟩ | ⟨go,step⟩
  ·have hd:=T.done X' eP eW eK eC i [] s6 _ H6 (λ_ _=>False) I6 (stat fr6) st6 stop
   rw[eA] at hd
   refine Hb hd λr s7 q0_ => ?_
   obtain ⟨hr,I7⟩ := q0_
   subst hr
   obtain ⟨m7,hn7,fin7⟩:=Xh hX' I3 f3 I7
   exact ⟨m7,hn7,λh8 hs8=>⟨.ref s2.heap.objs.size,H6,fin7 h8 hs8,rfl,qn⟩⟩
  ·have hit:=T.item X' eP eW eK eC i [] s6 _ H6 (λ_ _=>False) I6 (stat fr6) st6 go
   rw[eA] at hit
   refine Hb hit λr s7 q0_ => ?_
   obtain ⟨u,hr,h7⟩ := q0_
   subst hr
   refine Hb h7 λ_ s8 q0_ => ?_
   obtain ⟨y,H8,I8,r8,y8,st8,fr8⟩ := q0_
   have I8':=I8.pinned (stat fr8) (T.obj _ _ st8)
   obtain ⟨tp,w1,w2,ey,hsq,N1,N2,hN1,hN2,hst⟩:=step y H8 y8
   have again:∀{H9:Hp} {s9:Aj} {m':Nat},Inv X' ([]++Tx fp s8.heap) (some w1::some w2::Hk σ js) H9 s9->m'<n->W (i+1) m' H9->∃m,m<n/\∃i o o2 H',Inv X' [] (o::o2::Hk σ js) H' s9/\tn i s9.heap/\(∀b∈fp,H' b=none)/\W i m H':=λ{H9 s9 m'} I9 hm w9=>by
    refine ⟨m',hm,i+1,some w1,some w2,H9,I9.unpinned,T.keep _ _ _ st8 λb hb o e=>(I9.pin (b,o) (Ap _ (Ap _ (Jt hb e)))).1,λb hb=>?_,w9⟩
    obtain ⟨o,e,_⟩:=T.obj _ _ st8 b hb
    exact (I9.pin (b,o) (Ap _ (Ap _ (Jt hb e)))).2.1
   subst hX'
   have g1:PG (Fw X scope cl (x::x2::ys) fp s3 (upd H2 s2.heap.objs.size (.lst []))) (.Tuple [.Name x px,.Name x2 px2] kt pt) (J1 X.K 2 (tI (aA 0) (tI (aA 1) K4))) :=
    iS (X:=Fw X scope cl (x::x2::ys) fp s3 (upd H2 s2.heap.objs.size (.lst []))) hc (Ow (Qi (i:=0) (x:=x) nd2 rfl (cM C.own) (kA C.own)) (Ow (Qi (i:=1) (x:=x2) nd2 rfl (cM own2) (kA own2)) cK))
   refine Hb (g1 _ s8 _ H8 y u (λσ' H'=>σ'=some w1::some w2::Hk σ js/\H'=H8) I8' r8 ⟨tp,[w1,w2],ey,hsq,rfl,_,_,rfl,_,_,rfl,rfl,rfl,rfl⟩) λ_ s9 q0_ => ?_
   obtain ⟨σ9,H9,I9,e9,e9'⟩ := q0_
   subst e9 e9'
   refine Hb (ht fp s3 _ _ s9 _ _ _ I9 hst) λok s10 q0_ => ?_
   obtain ⟨H10,I10,q10⟩ := q0_
   cases ok with
   | false =>
    rw[if_neg Jj] at q10 ⊢
    obtain ⟨m',hm,w10⟩:=hN1 _ q10
    exact again I10 hm w10
   | true =>
    rw[if_pos rfl] at q10 ⊢
    refine Hb (he fp s3 _ _ s10 _ _ _ I10 q10) λz s11 q0_ => ?_
    obtain ⟨vz,H11,I11,r11,q11⟩ := q0_
    obtain ⟨acc,ha,hz,m',hm,w11⟩:=hN2 _ _ q11
    refine Hb (Nh _ s11 _ H11 (.ref s2.heap.objs.size) [vz] (.ref s2.heap.objs.size) [z] (λ_ H'=>H'=upd H11 s2.heap.objs.size (.lst (acc++[vz]))) I11 rfl (.cons r11 .nil) ⟨_,acc,vz,rfl,rfl,ha,hz,rfl⟩) λ_ s12 q0_ => ?_
    obtain ⟨_,H12,I12,_,e12⟩ := q0_
    subst e12
    exact again I12 hm w11
 exact uO (loop _ rfl) (T.self X.A 0 _ _ _ st4 (loop _ rfl))
end
end Nd
namespace Nd
open PySem L2
def yD(K:PySem.W.Frag):R2:=λx y H Q=>∃a b xs ys,x=.ref a/\y=.ref b/\To K H a xs/\To K H b ys/\xs.length+ys.length<=Aw/\(xs=[]->Q (.ref b) H)/\(ys=[]->Q (.ref a) H)/\(∀p,H p=none->Q (.ref p) (upd H p (.tup (xs++ys))))
open PyProof.Rows in
theorem vE{X:Cx}:Uj X (Iz .Add) (yD X.K):=by
 intro pins s σ H x y v u Q I rx ry h
 obtain ⟨a,b,xs,ys,rfl,rfl,ha,hb,hz,q1,q3,q2⟩:=h
 by_cases hx:xs=[]
 ·cases rx
  cases ry
  obtain ⟨its,r1,p1,_⟩:=I.tuple ha
  obtain ⟨its2,r2,p2,_⟩:=I.tuple hb
  have e1:its=[]:=r1.nil_iff.mpr hx
  subst e1
  obtain ⟨⟨c1,d1,dt1,sl1⟩,g1,k1,n1,e1⟩:=id p1
  obtain ⟨⟨c2,d2,dt2,sl2⟩,g2,k2,n2,e2⟩:=id p2
  simp only at k1 e1 k2 e2
  subst k1 e1 k2 e2
  exact concat_meets ⟨_,g1,rfl⟩ ⟨_,g2,rfl⟩ dX seq_tuple_add PySem.F.slot_tuple_add PySem.F.entry_tuple_add (PySem.F.args_tuple_add_2 _ _)
   (tuple_addW0 a b _ _ n1 n2 d1 d2 sl1 sl2 rfl) ⟨g1,g2,⟨.ref b,H,I,rfl,q1 hx⟩⟩
 ·exact wR pins s σ H (.ref a) (.ref b) v u Q I rx ry ⟨a,b,xs,ys,rfl,rfl,ha,hb,hx,hz,q3,λ_=>q2⟩
theorem Zw:∀{l:List Int},l.Nodup->l.Pairwise (·<=·)->l.Pairwise (· < ·)
 | [],_,_=>.nil
 | a::l,n,p=>by
  obtain ⟨h1,q1⟩:=Ax.mp p
  obtain ⟨m1,n1⟩:=Bt.mp n
  refine Ax.mpr ⟨λb hb=>?_,Zw n1 q1⟩
  have:=h1 b hb
  have : a≠b:=λz=>m1 (by rw[z]; exact hb)
  omega
end Nd
namespace Nd
open PySem PySem.Spec PyProof.Rows L2
end Nd
namespace Nd
open PySem L2
def U8(K:PySem.W.Frag):List V->Hp->VK->Prop:=λxs H Q=>∃x n t b,xs=[x,.ty n]/\TyOf K H x t/\PySem.W.kitOne K t (.type n)=some b/\Q (.bl b) H
theorem Ru{X:Cx}:Jn X (.builtin "isinstance") (U8 X.K):=fP
theorem A6{K:PySem.W.Frag}{T:String}:PySem.W.kitOne K (.type T) (.type T)=some true:=by
 unfold PySem.W.kitOne
 rw[if_pos (by simp)]
theorem compScope0{X:Cx}{scope:Scope}{x:Str}(clos:closureFor scope X.env=pure [])(nocell:∀y∈scope.names,y.2≠.cell)(kind:scope.kind=.function)(locs:∀y∈scope.names,y.2=.local->scope.names.lookup y.1=some .local)(own:scope.names.lookup x=some .local)(has_:(scope.names.all λy=>!(y.2 == Dm) || (([]:List (Str×Addr)).lookup y.1).isSome)=true):CompScope X scope [] x [] [] :=
 ⟨clos,.inl nocell,kind,locs,.inl own,λ_ _ h=>by simp at h,has_,Bt.mpr ⟨Bw,Do⟩,rfl,λk y j e1 _=>by simp at e1⟩
theorem sz{n:Nat}(h:n<=1000:=by first | decide | simp | (simp; omega)):n<=Aw:=Iq (pA h)
end Nd
namespace Nd
open PySem PySem.Spec PyProof.Rows L2
theorem i5{K:PySem.W.Frag}{T n:String}{b:Bool}(h1:(Eb T == Eb n)=false)(h2:PySem.W.kitMeta n=true)(h3:(fastBuiltinMro T).map (λx=>x.contains (Eb n))=some b):PySem.W.kitOne K (.type T) (.type n)=some b:=by
 unfold PySem.W.kitOne PySem.W.kitCls
 rw[h1,if_neg (by decide)]
 dsimp only
 rw[if_pos h2]
 exact h3
theorem yV:∀{vs:List Value} {ns:List Int},Jc vs ns->Ek (ns.map V.int) vs
 | _,_,.nil=>.nil
 | _,_,.cons n t h=>.cons ⟨t,rfl⟩ (yV h)
end Nd
namespace NdS
open PySem
theorem Si{mask finger moves:Nat}{led plain:Bool}{hs:Array Int}{t:Az}{order:Array Nat}(h:Fj mask finger moves led plain hs=some (t,order)):t.led=led/\t.mask=mask/\t.plain=plain/\t.dummies=#[]:=by
 unfold Fj at h
 cases hl:Hg mask hs with
 | none=>rw[hl] at h; cases h
 | some owner =>
  rw[hl] at h
  cases h
  exact ⟨rfl,rfl,rfl,rfl⟩
def st(m i:Nat):Nat:=(i * 5+1) % m
def it(m:Nat):Nat->Nat->Nat
 | 0,i=>i
 | t+1,i=>it m t (st m i)
theorem Yr(m:Nat):∀(a b i:Nat),it m (a+b) i=it m b (it m a i)
 | 0,b,i=>by rw[Mv]; rfl
 | a+1,b,i=>by rw[Vn]; exact Yr m a b (st m i)
def M9(m:Nat):Nat->Nat->List Nat
 | 0,_=>[]
 | f+1,i=>i::M9 m f (st m i)
theorem We{m:Nat}:∀{f i e:Nat},e∈M9 m f i->∃t,t<f/\it m t i=e
 | 0,_,_,h=>by cases h
 | f+1,i,e,h=>by
  rcases Ai.mp h with z | z
  ·exact ⟨0,Ip _,z.symm⟩
  ·obtain ⟨t,h1,h2⟩:=We z
   exact ⟨t+1,Nat.succ_lt_succ h1,h2⟩
def Hd(m:Nat):Prop:=0<m/\it m m 0=0/\∀e,e<m->e∈M9 m m 0
theorem Ni{m:Nat}(h0:0<m)(h1:(it m m 0 == 0)=true)(h2:((Br m).all λe=>(M9 m m 0).contains e)=true):Hd m :=
 ⟨h0,by simpa using h1,λe he=>by
  have:=List.all_eq_true.mp h2 e (El.mpr he)
  simpa using this⟩
theorem mG:Hd 8:=Ni (by decide) (by decide +kernel) (by decide +kernel)
theorem qT:Hd 16:=Ni (by decide) (by decide +kernel) (by decide +kernel)
theorem pR:Hd 32:=Ni (by decide) (by decide +kernel) (by decide +kernel)
theorem rQ:Hd 64:=Ni (by decide) (by decide +kernel) (by decide +kernel)
theorem kX:Hd 128:=Ni (by decide) (by decide +kernel) (by decide +kernel)
theorem cP:Hd 256:=Ni (by decide) (by decide +kernel) (by decide +kernel)
theorem C2{m:Nat}(g:Hd m){i e:Nat}(hi:i<m)(he:e<m):∃t,t<m/\it m t i=e:=by
 obtain ⟨h0,h1,h2⟩:=g
 obtain ⟨a,ha,ea⟩:=We (h2 i hi)
 obtain ⟨b,hb,eb⟩:=We (h2 e he)
 by_cases hab:a<=b
 ·refine ⟨b - a,by omega,?_⟩
  rw[<- ea,<- Yr,Nat.add_sub_cancel' hab]
  exact eb
 ·refine ⟨b+m - a,by omega,?_⟩
  rw[<- ea,<- Yr,show a+(b+m - a)=m+b by omega,Yr,h1]
  exact eb
def lp(m:Nat):Nat->Nat->Nat->Nat×Nat
 | 0,i,p=>(i,p)
 | t+1,i,p=>lp m t ((i * 5+1+p / 32) % m) (p / 32)
theorem rT(m:Nat):∀(a b i p:Nat),lp m (a+b) i p=lp m b (lp m a i p).1 (lp m a i p).2
 | 0,b,i,p=>by rw[Mv]; rfl
 | a+1,b,i,p=>by rw[Vn]; exact rT m a b _ _
theorem kY(m:Nat):∀(t i:Nat),lp m t i 0=(it m t i,0)
 | 0,_=>rfl
 | t+1,i=>kY m t (st m i)
theorem fU{m:Nat}:∀(n i p:Nat),p<32 ^ n->(lp m n i p).2=0
 | 0,i,p,h=>by show p=0; simpa using h
 | n+1,i,p,h=>fU n _ _ (by rw[Nat.pow_succ] at h; exact Nat.div_lt_of_lt_mul (by omega))
theorem yE{m:Nat}(h0:0<m):∀(n i p:Nat),i<m->(lp m n i p).1<m
 | 0,i,p,h=>h
 | n+1,i,p,h=>yE h0 n _ _ (Hh _ h0)
theorem Xg{m:Nat}(g:Hd m){i p e:Nat}(hi:i<m)(hp:p<2 ^ 64)(he:e<m):∃t,t<m+14/\(lp m t i p).1=e:=by
 have h13:=fU (m:=m) 13 i p (Bp hp (by decide))
 obtain ⟨t,ht,e1⟩:=C2 g (yE g.1 13 i p hi) he
 refine ⟨13+t,by omega,?_⟩
 rw[rT,h13,kY]
 exact e1
theorem Lm(mask i:Nat):i<=Cc mask i:=by unfold Cc; split <;> omega
theorem aJ{mask:Nat}{owner:Array (Option Nat)}:∀(fuel i p t:Nat),t<fuel->(owner.getD (lp (mask+1) t i p).1 (some 0)).isNone=true->∃j,Cy mask owner fuel i p=some j/\(owner.getD j (some 0)).isNone=true
 | 0,_,_,_,h,_=>absurd h (Dy _)
 | fuel+1,i,p,t,h,hn=>by
  unfold Cy
  split
  ·rename_i k hk
   exact ⟨i+k,rfl,by have:=Qz hk; exact this⟩
  ·rename_i hk
   rw[List.find?_eq_none] at hk
   cases t with
   | zero =>
    have:=hk 0 (El.mpr (by have:=Lm mask i; omega))
    exact absurd hn (by simpa [lp] using this)
   | succ t =>
    exact aJ fuel _ _ t (by omega) hn
theorem Rr{L:List (Option Nat)}:∀{j x:Nat},L[j]? = some none->((L.set j (some x)).filterMap id).Perm (x::L.filterMap id):=by
 induction L with
 | nil=>intro j x h; simp at h
 | cons a L ih =>
  intro j x h
  cases j with
  | zero =>
   simp at h
   subst h
   simp
  | succ j =>
   have h':L[j]? = some none:=by simpa using h
   have:=ih (x:=x) h'
   cases a with
   | none=>simpa using this
   | some b=>simpa using (Ou b this).trans (Ge x b _)
theorem nC{L:List (Option Nat)}:(L.filterMap id).length<L.length->∃j:Nat,L[j]? = some none:=by
 induction L with
 | nil=>intro h; simp at h
 | cons a L ih =>
  intro h
  cases a with
  | none=>exact ⟨0,rfl⟩
  | some b =>
   have : (L.filterMap id).length<L.length:=by simpa using h
   obtain ⟨j,hj⟩:=ih this
   exact ⟨j+1,by simpa using hj⟩
theorem cE(h:Int):Bn h<2 ^ 64:=by
 unfold Bn
 have h1:=Int.emod_nonneg h (show (2 ^ 64:Int)≠0 by decide)
 have h2:=Int.emod_lt_of_pos h (show (0:Int)<2 ^ 64 by decide)
 omega
def cJ(mask:Nat)(acc:Option (Array (Option Nat)×Nat))(h:Int):Option (Array (Option Nat)×Nat):=do
 let (owner,k) <- acc
 let j <- Cy mask owner (Cq mask) (Bn h % (mask+1)) (Bn h)
 pure (owner.setIfInBounds j (some k),k+1)
theorem hZ{mask:Nat}(g:Hd (mask+1)):∀(hs:List Int) (owner:Array (Option Nat)) (n:Nat),owner.size=mask+1->(owner.toList.filterMap id).Perm (Br n)->n+hs.length<=mask->∃owner':Array (Option Nat),hs.foldl (cJ mask) (some (owner,n))=some (owner',n+hs.length)/\owner'.size=mask+1/\(owner'.toList.filterMap id).Perm (Br (n+hs.length))
 | [],owner,n,h1,h2,_=>⟨owner,rfl,h1,h2⟩
 | h::hs,owner,n,h1,h2,h3=>by
  rw[Bq] at h3
  have len:(owner.toList.filterMap id).length=n:=by rw[h2.length_eq,De]
  obtain ⟨e,he⟩:=nC (L:=owner.toList) (by rw[len,Af]; omega)
  have he':e<mask+1:=by
   have:=(Aq.mp he).1
   rw[Af] at this
   omega
  obtain ⟨t,ht,et⟩:=Xg g (i:=Bn h % (mask+1)) (p:=Bn h) (e:=e) (Hh _ g.1) (cE h) he'
  have hn:(owner.getD (lp (mask+1) t (Bn h % (mask+1)) (Bn h)).1 (some 0)).isNone=true:=by
   rw[et,Cu,<- Ep,he]
   rfl
  obtain ⟨j,ej,hj⟩:=aJ (mask:=mask) (owner:=owner) (Cq mask) _ _ t (by unfold Cq; omega) hn
  have hj':owner.toList[j]? = some none:=by
   rw[Cu,<- Ep] at hj
   cases q:owner.toList[j]? with
   | none=>rw[q] at hj; simp at hj
   | some v =>
    rw[q] at hj
    cases v with
    | none=>rfl
    | some v=>simp at hj
  have e1:cJ mask (some (owner,n)) h=some (owner.setIfInBounds j (some n),n+1):=by
   show (do
    let j <- Cy mask owner (Cq mask) (Bn h % (mask+1)) (Bn h)
    pure (owner.setIfInBounds j (some n),n+1))=_
   rw[ej]
   rfl
  rw[Mb,e1]
  have p1:((owner.setIfInBounds j (some n)).toList.filterMap id).Perm (Br (n+1)):=by
   rw[Array.toList_setIfInBounds]
   refine (Rr hj').trans ?_
   rw[List.range_succ]
   exact (Ou n h2).trans (List.perm_append_comm (l₁:=[n]) (l₂:=Br n))
  obtain ⟨o',q1,q2,q3⟩:=hZ g hs (owner.setIfInBounds j (some n)) (n+1) (by rw[dZ]; exact h1) p1 (by omega)
  refine ⟨o',?_,q2,?_⟩
  ·rw[q1,Bq]
   congr 2
   omega
  ·rw[Bq,show n+(hs.length+1)=n+1+hs.length by omega]
   exact q3
theorem fG{mask:Nat}(g:Hd (mask+1))(hs:Array Int)(hl:hs.size<=mask):∃owner:Array (Option Nat),Hg mask hs=some owner/\owner.size=mask+1/\(owner.toList.filterMap id).Perm (Br hs.size):=by
 have h0:((Lq (mask+1) (none:Option Nat)).toList.filterMap id).Perm (Br 0):=by
  rw[Array.toList_replicate]
  simp
 obtain ⟨o,h1,h2,h3⟩:=hZ g hs.toList (Lq (mask+1) none) 0 (by simp) h0 (by simpa using hl)
 rw[Af,Mv] at h1 h3
 refine ⟨o,?_,h2,h3⟩
 unfold Hg
 rw[<- Array.foldl_toList]
 show (hs.toList.foldl (cJ mask) (some (Lq (mask+1) none,0))).map (·.1)=some o
 rw[h1]
 rfl
theorem jF(owner:Array (Option Nat)):((Br owner.size).filterMap λj=>(owner.getD j none).map λx=>(j,x)).map (·.2)=owner.toList.filterMap id:=by
 obtain ⟨L⟩:=owner
 simp only[Ao]
 have h:∀(L:List (Option Nat)) (pre:List (Option Nat)),((List.range' pre.length L.length).filterMap λj=>(((pre++L)[j]?).getD none).map λx=>(j,x)).map (·.2)=L.filterMap id:=by
  intro L
  induction L with
  | nil=>intro pre; rfl
  | cons a L ih =>
   intro pre
   rw[Bq,List.range'_succ,Gp]
   have e:((pre++a::L)[pre.length]?).getD none=a:=by simp
   have ih':=ih (pre++[a])
   rw[Bj,Er,Ea,List.singleton_append] at ih'
   cases a with
   | none =>
    simp only[e,Option.map_none,List.filterMap_cons_none,id]
    exact ih'
   | some b =>
    simp only[e,Option.map_some,Au,List.filterMap_cons_some,id]
    rw[ih']
    simp
 have:=h L []
 rw[List.length_nil,<- List.range_eq_range',List.nil_append] at this
 rw[<- this]
 congr 1
 congr 1
 funext j
 rw[Cu]
 simp
theorem vI{mask finger moves:Nat}{led plain:Bool}(g:Hd (mask+1))(hs:Array Int)(hl:hs.size<=mask):∃(t:Az) (order:Array Nat),Fj mask finger moves led plain hs=some (t,order)/\order.toList.Perm (Br hs.size)/\t.fits hs.size=true/\t.led=led:=by
 obtain ⟨o,h1,h2,h3⟩:=fG g hs hl
 have e:Fj mask finger moves led plain hs=some ({ mask:=mask,place:=(((Br (mask+1)).filterMap λj=>(o.getD j none).map λx=>(j,x)).map (·.1)).toArray,dummies:=#[],finger:=finger,led:=led,moves:=moves,plain:=plain },
   (((Br (mask+1)).filterMap λj=>(o.getD j none).map λx=>(j,x)).map (·.2)).toArray):=by
  unfold Fj
  rw[h1]
  rfl
 have lo:=jF o
 rw[h2] at lo
 have len:((Br (mask+1)).filterMap λj=>(o.getD j none).map λx=>(j,x)).length=hs.size:=by
  have:=congrArg Lk lo
  rw[Ae,h3.length_eq,De] at this
  exact this
 refine ⟨_,_,e,by rw[List.toList_toArray,lo]; exact h3,?_,rfl⟩
 simp only[SetTable.fits,Ri,Ao,Ae,len,Eg,beq_self_eq_true,true_and,decide_eq_true_eq]
 show hs.size+0<=mask
 omega
theorem rS{α:Type}(es:Array α){order:Array Nat}(p:order.toList.Perm (Br es.size)):(order.filterMap (es[·]?)).toList.Perm es.toList/\(order.filterMap (es[·]?)).size=es.size:=by
 have e:(order.filterMap (es[·]?)).toList.Perm es.toList:=by
  rw[iJ]
  have:=p.filterMap (es[·]?)
  rw[filterMap_getElem?_range] at this
  exact this
 exact ⟨e,by rw[<- Af,e.length_eq,Af]⟩
theorem Wk{n:Nat}(h:n<256):∃m,Dc n=m+1/\Hd (m+1)/\n<=m:=by
 have key:∀k:Fin 256,(Dc k.1 == 8 && decide (k.1<8)) || (Dc k.1 == 16 && decide (k.1<16)) || (Dc k.1 == 32 && decide (k.1<32)) || (Dc k.1 == 64 && decide (k.1<64)) || (Dc k.1 == 128 && decide (k.1<128)) || (Dc k.1 == 256 && decide (k.1<256))=true:=by decide +kernel
 have q:=key ⟨n,h⟩
 simp only[Bool.or_eq_true,Eg,beq_iff_eq,decide_eq_true_eq] at q
 rcases q with ((((q | q) | q) | q) | q) | q
 ·exact ⟨7,q.1,mG,by omega⟩
 ·exact ⟨15,q.1,qT,by omega⟩
 ·exact ⟨31,q.1,pR,by omega⟩
 ·exact ⟨63,q.1,rQ,by omega⟩
 ·exact ⟨127,q.1,kX,by omega⟩
 ·exact ⟨255,q.1,cP,by omega⟩
abbrev bS(p:Array Nat):Prop:=p.toList.Pairwise (· < ·)
theorem Qs{p:Array Nat}(r:bS p){i j:Nat}(h:i<j)(hj:j<p.size):p[i]'(by omega)<p[j]:=by
 have:=Ga.mp r i j (by rw[Af]; omega) (by rw[Af]; exact hj) h
 simpa using this
structure Below(p:Array Nat)(j b:Nat):Prop where
 le:b<=p.size
 lo:∀i (h:i<p.size),i<b->p[i]<j
 hi:∀i (h:i<p.size),b<=i->j<=p[i]
theorem Xw{p:Array Nat}{j:Nat}(r:bS p):∀(fuel lo hi:Nat),hi<=p.size->lo<=hi->hi - lo<=fuel->(∀i (h:i<p.size),i<lo->p[i]<j)->(∀i (h:i<p.size),hi<=i->j<=p[i])->Below p j (Pw p j fuel lo hi)
 | 0,lo,hi,h1,h2,h3,h4,h5=>by
  unfold Pw
  have e:lo=hi:=by omega
  exact ⟨by omega,λi h hl=>h4 i h hl,λi h hl=>h5 i h (by omega)⟩
 | fuel+1,lo,hi,h1,h2,h3,h4,h5=>by
  unfold Pw
  split
  ·rename_i hl
   have hm:(lo+hi) / 2<p.size:=by omega
   have e:p.getD ((lo+hi) / 2) j=p[(lo+hi) / 2]:=by simp [Array.getD,hm]
   dsimp only
   rw[e]
   split
   ·rename_i hc
    refine Xw r fuel _ hi h1 (by omega) (by omega) (λi h hi'=>?_) h5
    by_cases z:i=(lo+hi) / 2
    ·subst z; exact hc
    ·exact Mw (Qs r (show i<(lo+hi) / 2 by omega) hm) hc
   ·rename_i hc
    refine Xw r fuel lo _ (by omega) (by omega) (by omega) h4 (λi h hi'=>?_)
    by_cases z:i=(lo+hi) / 2
    ·subst z; omega
    ·exact Bm (by omega) (Iq (Qs r (show (lo+hi) / 2<i by omega) h))
  ·exact ⟨by omega,λi h hl=>h4 i h hl,λi h hl=>h5 i h (by omega)⟩
theorem Pb{p:Array Nat}(r:bS p)(j:Nat):Below p j (Ba p j) :=
 Xw r _ _ _ (Ah _) (Dx _) (by omega) (λi h hl=>absurd hl (Dy _)) (λi h hl=>absurd hl (by omega))
theorem Below.eq{p:Array Nat}{j b b':Nat}(x:Below p j b)(y:Below p j b'):b=b':=by
 rcases Kh b b' with z | z | z
 ·have h:b<p.size:=Bp z y.le
  exact absurd (y.lo b h z) (Nat.not_lt.mpr (x.hi b h (Ah _)))
 ·exact z
 ·have h:b'<p.size:=Bp z x.le
  exact absurd (x.lo b' h z) (Nat.not_lt.mpr (y.hi b' h (Ah _)))
theorem gK{p:Array Nat}(r:bS p):Ba p 0=0 :=
 (Pb r 0).eq ⟨Dx _,λi h hl=>absurd hl (Dy _),λi h _=>Dx _⟩
theorem iU{p:Array Nat}(r:bS p){i:Nat}(h:i<p.size):Ba p (p[i]+1)=i+1 :=
 (Pb r _).eq ⟨h,λk hk hl=>by
  by_cases z:k=i
  ·subst z; exact Yy _
  ·exact Ki (Qs r (show k<i by omega) h),λk hk hl=>Qs r (show i<k by omega) hk⟩
structure TabOk(n:Nat)(t:Az):Prop where
 good:Hd (t.mask+1)
 dum:t.dummies=#[]
 plain:t.plain=true
 rise:bS t.place
 top:∀j∈t.place.toList,j<=t.mask
 size:t.place.size=n
structure Tab(n:Nat)(t:Az):Prop extends TabOk n t where
 room:n * 5<t.mask * 3
theorem Qk{t:Az}{n:Nat}(x:Tab n t):n+1<=t.mask:=by have:=x.room; omega
theorem TabOk.fits{t:Az}{n:Nat}(x:TabOk n t)(h:n<=t.mask):t.fits n=true:=by
 simp only[SetTable.fits,Ri,x.dum,x.size,Eg,beq_self_eq_true,true_and,decide_eq_true_eq]
 show n+0<=t.mask
 omega
theorem Tab.fits{t:Az}{n:Nat}(x:Tab n t):t.fits n=true:=x.toTabOk.fits (by have:=Qk x; omega)
theorem Hl{t:Az}{n j:Nat}(x:TabOk n t):t.slot j=.empty↔j∉t.place.toList:=by
 have nd:Th t.dummies j=false:=by rw[x.dum]; rfl
 unfold Rh
 dsimp only
 rw[nd]
 constructor
 ·intro h hm
  obtain ⟨i,hi,e⟩:=List.mem_iff_getElem.mp hm
  rw[Af] at hi
  have e':t.place[i]=j:=by simpa using e
  have b:Ba t.place j=i:=(Pb x.rise j).eq ⟨Iq hi,λk hk hl=>by rw[<- e']; exact Qs x.rise hl hi,λk hk hl=>by
   by_cases z:i=k
   ·subst z; exact Nat.le_of_eq e'.symm
   ·rw[<- e']; exact Iq (Qs x.rise (show i<k by omega) hk)⟩
  rw[b,Co hi,e',if_pos (by simp)] at h
  cases h
 ·intro h
  rw[if_neg (λz=>h ?_)]
  ·rfl
  ·have z':t.place[Ba t.place j]? = some j:=by simpa using z
   have:=Array.mem_of_getElem? z'
   exact Array.mem_def.mp this
theorem Pi{t:Az}{n j:Nat}(x:TabOk n t):t.slot j≠.dummy:=by
 have nd:Th t.dummies j=false:=by rw[x.dum]; rfl
 unfold Rh
 dsimp only
 rw[nd]
 split
 ·intro h; cases h
 ·intro h; cases h
theorem Qr{mask i:Nat}(h:i<=mask):Cc mask i<=mask:=by unfold Cc; split <;> omega
theorem Jr(mask i:Nat):Cc mask i - i<=9:=by unfold Cc; split <;> omega
theorem Vz(mask i p:Nat):SetTable.leap mask i p=((i * 5+1+p / 32) % (mask+1),p / 32):=rfl
theorem Wp{t:Az}{n:Nat}{h:Int}(x:TabOk n t):∀(fuel u:Nat) (p:Cv),p.more<=9->p.j+p.more<=t.mask->p.dummy=none->p.more+2+10 * u<=fuel->t.slot (lp (t.mask+1) (u+1) p.i p.perturb).1=.empty->∃j,Fo t (λ_=>h+1) h fuel p=some (.empty j none)/\t.slot j=.empty/\j<=t.mask
 | 0,u,p,_,_,_,h3,_=>absurd h3 (by omega)
 | fuel+1,u,p,h1,h2,hd,h3,h4=>by
  unfold Fo
  split
  ·rename_i hs
   exact ⟨p.j,by rw[hd],hs,by omega⟩
  ·rename_i hs
   exact absurd hs (Pi x)
  ·rw[if_neg (by simp; omega)]
   unfold Gi
   split
   ·rename_i hm
    exact Wp x fuel u _ (by dsimp only; omega) (by dsimp only; omega) hd (by dsimp only; omega) h4
   ·rename_i hm
    rw[Vz]
    dsimp only
    have hi:(p.i * 5+1+p.perturb / 32) % (t.mask+1)<=t.mask:=Me.mp (Hh _ (Ip _))
    cases u with
    | zero =>
     cases fuel with
     | zero=>omega
     | succ fuel =>
      unfold Fo
      dsimp only
      have h4':t.slot ((p.i * 5+1+p.perturb / 32) % (t.mask+1))=.empty:=h4
      rw[h4']
      exact ⟨_,by rw[hd],h4',hi⟩
    | succ u =>
     refine Wp x fuel u _ (Jr _ _) ?_ hd ?_ h4
     ·dsimp only
      have:=Qr hi
      have:=Lm t.mask ((p.i * 5+1+p.perturb / 32) % (t.mask+1))
      omega
     ·dsimp only
      have:=Jr t.mask ((p.i * 5+1+p.perturb / 32) % (t.mask+1))
      omega
theorem rJ:∀{l1 l2:List Nat},l1.Nodup->(∀e∈l1,e∈l2)->l1.length<=l2.length
 | [],_,_,_=>Dx _
 | a::l1,l2,nd,h=>by
  have nd':=Bt.mp nd
  have ha:=h a (Aa ..)
  have:=rJ (l2:=l2.erase a) nd'.2 λe he=>(Lj (show e≠a from λz=>nd'.1 (by rw[<- z]; exact he))).mpr (h e (Ab _ he))
  rw[Ja ha] at this
  have p:0<l2.length:=Jz ha
  rw[Bq]
  omega
theorem kO{m:Nat}{l:List Nat}(nd:l.Pairwise (· < ·))(h:l.length<m):∃e,e<m/\e∉l:=by
 refine Ft λz=>?_
 have all:∀e,e∈Br m->e∈l:=λe he=>Ft λq=>z ⟨e,El.mp he,q⟩
 have:=rJ List.nodup_range all
 rw[De] at this
 omega
theorem eV{t:Az}{n:Nat}(x:Tab n t)(h:Int):∃j,t.freeSlot h=some (j,false)/\j∉t.place.toList/\j<=t.mask:=by
 have hm:=Qk x
 obtain ⟨e,he,hn⟩:=kO (m:=t.mask+1) x.rise (by rw[Af,x.size]; omega)
 obtain ⟨u,hu,eu⟩:=Xg x.good (i:=Bn h % (t.mask+1)) (p:=Bn h) (e:=e) (Hh _ (Ip _)) (cE h) he
 have hi:Bn h % (t.mask+1)<=t.mask:=Me.mp (Hh _ (Ip _))
 have key:∃j,t.probe (λ_=>h+1) h (t.probeStart h)=some (.empty j none)/\t.slot j=.empty/\j<=t.mask:=by
  unfold SetTable.probe
  cases u with
  | zero =>
   have e0:t.slot (Bn h % (t.mask+1))=.empty:=(Hl x.toTabOk).mpr (by rw[show Bn h % (t.mask+1)=e from eu]; exact hn)
   obtain ⟨f,hf⟩ : ∃f,10 * Cq t.mask=f+1:=⟨10 * Cq t.mask - 1,by unfold Cq; omega⟩
   rw[hf]
   unfold Fo
   have e0':t.slot (t.probeStart h).j=.empty:=e0
   rw[e0']
   exact ⟨_,rfl,e0',hi⟩
  | succ u =>
   refine Wp x.toTabOk _ u (t.probeStart h) (Jr _ _) ?_ rfl ?_ ?_
   ·have:=Qr hi
    have:=Lm t.mask (Bn h % (t.mask+1))
    show Bn h % (t.mask+1)+(Cc t.mask (Bn h % (t.mask+1)) - Bn h % (t.mask+1))<=t.mask
    omega
   ·have:=Jr t.mask (Bn h % (t.mask+1))
    show Cc t.mask (Bn h % (t.mask+1)) - Bn h % (t.mask+1)+2+10 * u<=10 * Cq t.mask
    unfold Cq
    omega
   ·exact (Hl x.toTabOk).mpr (by rw[show (lp (t.mask+1) (u+1) (t.probeStart h).i (t.probeStart h).perturb).1=e from eu]; exact hn)
 obtain ⟨j,h1,h2,h3⟩:=key
 refine ⟨j,?_,(Hl x.toTabOk).mp h2,h3⟩
 unfold SetTable.freeSlot
 rw[h1]
 rfl
theorem Vi{p:Array Nat}(r:bS p){j:Nat}(h:j∉p.toList):bS (Bl p (Ba p j) j):=by
  have b:=Pb r j
  show (Bl p (Ba p j) j).toList.Pairwise (· < ·)
  rw[My]
  have r1:(p.toList.take (Ba p j)).Pairwise (· < ·):=r.sublist (Hq _ _)
  have r2:(p.toList.drop (Ba p j)).Pairwise (· < ·):=r.sublist (List.drop_sublist _ _)
  have lo:∀e∈p.toList.take (Ba p j),e<j:=λe he=>by
    obtain ⟨i,hi,ei⟩:=Nt.mp he
    rw[Af] at hi
    have:=b.lo i (by omega) (by omega)
    rw[<- ei]
    simpa using this
  have hi:∀e∈p.toList.drop (Ba p j),j<e:=λe he=>by
    have hm:e∈p.toList:=List.mem_of_mem_drop he
    obtain ⟨i,hi,ei⟩:=List.mem_drop_iff_getElem.mp he
    rw[Af] at hi
    have:=b.hi (i+Ba p j) (by omega) (by omega)
    have e1:j<=e:=by
      rw[<- ei]
      simpa [Nat.add_comm] using this
    exact Nat.lt_of_le_of_ne e1 λz=>h (by rw[z]; exact hm)
  simp only[List.pairwise_append,List.pairwise_cons,Ai,List.mem_append]
  first
    | exact ⟨r1,⟨hi,r2⟩,λa ha c hc=>by
        rcases hc with z | z
        · rw[z]; exact lo a ha
        · exact Mw (lo a ha) (hi c z)⟩
    | (refine ⟨⟨r1,⟨by simp,Dw⟩,λa ha c hc=>?_⟩,r2,λa ha c hc=>?_⟩
       · have z:c=j:=by simpa using hc
         rw[z]; exact lo a ha
       · rcases ha with z | z | z
         · exact Mw (lo a z) (hi c hc)
         · rw[z]; exact hi c hc
         · cases z)
theorem l0{t:Az}{es:Array (Int×Value)}(x:Tab es.size t)(h:Int)(v:Value):∃(es1:Array (Int×Value)) (t1:Az),layNew t es h v=(es1,t1,false,false)/\es1.toList.Perm (es.toList++[(h,v)])/\es1.size=es.size+1/\TabOk es1.size t1/\t1.mask=t.mask/\t1.led=t.led:=by
 obtain ⟨j,h1,h2,h3⟩:=eV x h
 have hm:=Qk x
 have perm:=Gs es (Ba t.place j) (h,v)
 rw[Hn] at perm
 have size:(Bl es (Ba t.place j) (h,v)).size=es.size+1:=by
  rw[<- Af,perm.length_eq,Bj,Af]
  rfl
 have p2:=Gs t.place (Ba t.place j) j
 rw[Hn] at p2
 have size2:(Bl t.place (Ba t.place j) j).size=es.size+1:=by
  rw[<- Af,p2.length_eq,Bj,Af,x.size]
  rfl
 have nd:Th t.dummies j=false:=by rw[x.dum]; rfl
 have ok:TabOk (es.size+1) { t with place:=Bl t.place (Ba t.place j) j } :=
  ⟨x.good,x.dum,x.plain,Vi x.rise h2,λe he=>by
   rcases Bg.mp (p2.mem_iff.mp he) with z | z
   ·exact x.top e z
   ·rw[Am.mp z]; exact h3,size2⟩
 refine ⟨_,{ t with place:=Bl t.place (Ba t.place j) j },?_,perm,size,by rw[size]; exact ok,rfl,rfl⟩
 have f:({ t with place:=Bl t.place (Ba t.place j) j }:Az).fits (Bl es (Ba t.place j) (h,v)).size=true:=by
  rw[size]
  exact ok.fits (by omega)
 unfold layNew
 rw[h1]
 simp only[SetTable.put,nd,Ct,if_false,SetTable.orStandIn,f,if_true,Lf]
theorem mY{mask finger moves:Nat}{led plain:Bool}{hs:Array Int}{t:Az}{order:Array Nat}(h:Fj mask finger moves led plain hs=some (t,order)):bS t.place/\(∀j∈t.place.toList,j<=mask):=by
 unfold Fj at h
 cases hl:Hg mask hs with
 | none=>rw[hl] at h; cases h
 | some owner =>
  rw[hl] at h
  cases h
  have sub:∀(l:List Nat),l.Pairwise (· < ·)->(((l.filterMap λj=>(owner.getD j none).map λx=>(j,x)).map (·.1)).Pairwise (· < ·))/\∀j∈((l.filterMap λj=>(owner.getD j none).map λx=>(j,x)).map (·.1)),j∈l:=by
   intro l hl
   have m:∀j∈((l.filterMap λj=>(owner.getD j none).map λx=>(j,x)).map (·.1)),j∈l:=λj hj=>by
    obtain ⟨q,hq,rfl⟩:=Bh.mp hj
    obtain ⟨k,hk,ek⟩:=Ha.mp hq
    cases hg:owner.getD k none with
    | none=>rw[hg] at ek; cases ek
    | some v=>rw[hg] at ek; cases ek; exact hk
   refine ⟨?_,m⟩
   clear m
   induction l with
   | nil=>exact Dw
   | cons a l ih =>
    have hl':=Ax.mp hl
    have ih':=ih hl'.2
    rw[Gp]
    cases hg:owner.getD a none with
    | none=>simpa [hg] using ih'
    | some v =>
     simp only[Option.map_some,Au,List.pairwise_cons]
     refine ⟨λj hj=>?_,ih'⟩
     obtain ⟨q,hq,rfl⟩:=Bh.mp hj
     obtain ⟨k,hk,ek⟩:=Ha.mp hq
     cases hg2:owner.getD k none with
     | none=>rw[hg2] at ek; cases ek
     | some v2=>rw[hg2] at ek; cases ek; exact hl'.1 k hk
  obtain ⟨s1,s2⟩:=sub (Br (mask+1)) List.pairwise_lt_range
  exact ⟨s1,λj hj=>Me.mp (El.mp (s2 j hj))⟩
theorem fK{mask finger moves:Nat}{led:Bool}(g:Hd (mask+1))(hs:Array Int)(hl:hs.size * 5<mask * 3):∃(t:Az) (order:Array Nat),Fj mask finger moves led true hs=some (t,order)/\order.toList.Perm (Br hs.size)/\Tab hs.size t/\t.led=led:=by
 obtain ⟨t,order,h1,h2,h3,h4⟩:=vI (finger:=finger) (moves:=moves) (led:=led) (plain:=true) g hs (by omega)
 obtain ⟨l1,l2,l3,l4⟩:=Si h1
 obtain ⟨r1,r2⟩:=mY h1
 have sz:t.place.size=hs.size:=by
  have:=h3
  simp only[SetTable.fits,Eg,beq_iff_eq] at this
  exact this.1
 exact ⟨t,order,h1,h2,⟨⟨by rw[l2]; exact g,l4,l3,r1,by rw[l2]; exact r2,sz⟩,by rw[l2]; exact hl⟩,l1⟩
theorem tG{t:Az}{es:Array (Int×Value)}{wanted:Nat}(hp:t.plain=true)(hw:wanted<256)(h2:es.size * 2<=wanted):∃(t':Az) (order:Array Nat),t.relaid (es.map (·.1)) wanted=some (t',order)/\order.toList.Perm (Br es.size)/\Tab es.size t'/\t'.led=t.led:=by
 obtain ⟨m,e1,g,hm⟩:=Wk hw
 have sz:(es.map (·.1)).size=es.size:=Array.size_map ..
 have m7:7<=m:=by
  have : 8<=Dc wanted:=by
   have key:∀k:Fin 256,decide (8<=Dc k.1)=true:=by decide +kernel
   exact of_decide_eq_true (key ⟨wanted,hw⟩)
  omega
 obtain ⟨t',order,q1,q2,q3,q4⟩:=fK (mask:=m) (finger:=t.finger) (moves:=t.movedTo m) (led:=t.led) g (es.map (·.1)) (by rw[sz]; omega)
 rw[sz] at q2 q3
 refine ⟨t',order,?_,q2,q3,q4⟩
 unfold SetTable.relaid
 rw[e1,Nat.add_sub_cancel,hp]
 exact q1
theorem fS{t:Az}{es:Array (Int×Value)}(hp:t.plain=true)(hn:es.size<64):∃(es':Array (Int×Value)) (t':Az),relayAll t es (Lz es.size)=(es',t',false)/\es'.toList.Perm es.toList/\es'.size=es.size/\Tab es'.size t'/\t'.led=t.led:=by
 have gr:Lz es.size=es.size * 4:=by unfold Lz; rw[if_neg (by omega)]
 obtain ⟨t',order,q1,q2,q3,q4⟩:=tG (t:=t) (es:=es) (wanted:=es.size * 4) hp (by omega) (by omega)
 obtain ⟨p1,p2⟩:=rS es q2
 refine ⟨order.filterMap (es[·]?),t',?_,p1,p2,by rw[p2]; exact q3,q4⟩
 unfold relayAll
 rw[gr,q1]
 dsimp only
 have c:coversAll order es.size=true:=by
  unfold coversAll
  exact List.isPerm_iff.mpr q2
 have f:t'.fits (order.filterMap (es[·]?)).size=true:=by rw[p2]; exact q3.fits
 rw[c,f]
 rfl
abbrev bt(w:World):Bool:=w.params.followText "set-order"
def Xx:Int×Value->Int
 | (_,.int k _)=>k
 | _=>0
def Xd(e:Int×Value):Prop:=∃k tk,e=(hashInt k,Oo k tk)
abbrev Lg(es:Array (Int×Value)):List Int:=es.toList.map Xx
abbrev Es(es:Array (Int×Value))(ep:Nat)(t:Az):Obj:={ cls:=.type "set",dict:=none,data:=.set es ep t }
structure SetS(w:World)(h:Heap)(a:Addr)(es:Array (Int×Value))(ep:Nat)(t:Az):Prop where
 obj:h.get? a=some (Es es ep t)
 ent:∀e∈es.toList,Xd e
 nd:(Lg es).Nodup
 tab:Tab es.size t
 led:bt w=false->t.led=true
 few:es.size<64
theorem SetS.keep{w:World}{h h':Heap}{a:Addr}{es:Array (Int×Value)}{ep:Nat}{t:Az}(S:SetS w h a es ep t)(k:∀o,h.get? a=some o->h'.get? a=some o):SetS w h' a es ep t :=
 ⟨k _ S.obj,S.ent,S.nd,S.tab,S.led,S.few⟩
def ins(k:Int)(l:List Int):List Int:=if k∈l then l else k::l
theorem yP{prog:Bu}{w:World}{h:Heap}{a:Addr}{es:Array (Int×Value)}{ep:Nat}{t:Az}(S:SetS w h a es ep t):ElemsOf (Bs prog w) es.toList:=λe he=>by
 obtain ⟨k,tk,rfl⟩:=S.ent e he
 exact ⟨⟨k,intKind_is _ _ _ _,rfl⟩,rfl⟩
theorem qQ{prog:Bu}{w:World}{e:Int×Value}(h:Xd e)(k:Int):(Bs prog w).is k e.2=true↔Xx e=k:=by
 obtain ⟨k',tk,rfl⟩:=h
 show Rg k (.int k' tk)=true↔k'=k
 simp [Rg]
 try exact eq_comm
theorem small{n:Nat}(h:n<64):n<=Aw:=by rw[Hm]; omega
theorem lM{es:Array (Int×Value)}{ep:Nat}{t:Az}(es':Array (Int×Value))(t':Az):Vl es' t' (Es es ep t)=Es es' (ep+1) t':=putSet_of es' t' rfl
theorem Su{h:Heap}{a:Addr}{es:Array (Int×Value)}{ep:Nat}{t:Az}(ho:h.get? a=some (Es es ep t))(es':Array (Int×Value))(t':Az):(h.update a (Vl es' t')).get? a=some (Es es' (ep+1) t'):=by
 have:=Ks (Vl es' t') ho (by rw[lM]; rfl)
 rw[lM] at this
 exact this
section
variable{prog:Bu}{w:World}{A:Df}{E:Value->Aj->Prop}{s:Aj}
theorem Kl{a:Addr}{es:Array (Int×Value)}{ep:Nat}{t:Az}{Q:(Array (Int×Value)×Nat×Az)->Aj->Prop}(S:SetS w s.heap a es ep t)(h:Q (es,ep,t) s):wpAny (model prog w) A (setState a) Q E s :=
 aT S.obj rfl S.tab.fits h
theorem aP{es:Array (Int×Value)}{k:Int}(he:∀e∈es.toList,Xd e):es.toList.findIdx? (λe=>(Bs prog w).is k e.2)=none↔k∉Lg es:=by
 rw[List.findIdx?_eq_none_iff]
 constructor
 ·intro h hm
  obtain ⟨e,hm',rfl⟩:=Bh.mp hm
  have:=h e hm'
  rw[(qQ (he e hm') _).mpr rfl] at this
  cases this
 ·intro h e hm
  cases q:(Bs prog w).is k e.2 with
  | false=>rfl
  | true=>exact absurd (Bh.mpr ⟨e,hm,(qQ (he e hm) k).mp q⟩) h
theorem zZ{a:Addr}{es:Array (Int×Value)}{ep:Nat}{t:Az}{k:Int}{tk:Tok}{Q:Bool->Aj->Prop}(S:SetS w s.heap a es ep t)(hn:es.size<63)(h:∀b es' ep' t' h',Gd a s.heap h'->SetS w h' a es' ep' t'->(Lg es').Perm (ins k (Lg es))->Q b { s with heap:=h' }):wpAny (model prog w) A (aV a (.int k tk) (hashInt k)) Q E s:=by
 unfold aV setAddHashedIn
 refine Ef (Ac (Kl S ?_))
 dsimp only
 rw[byScan_of (knd:=Bs prog w) (x:=.int k tk) rfl (Mw S.few (by decide)) (yP S),if_pos rfl]
 unfold setAddByScan
 refine Ac (Ac (wpAny_rule (Ac ?_)))
 refine wpAny_setScan_of (knd:=Bs prog w) (k:=k) (intKind_is _ _ _ _) S.obj rfl S.tab.fits (yP S) ?_
 cases hr:es.toList.findIdx? (λe=>(Bs prog w).is k e.2) with
 | some j =>
  dsimp only
  have hk:k∈Lg es:=Ft λz=>by
   rw[(aP (prog:=prog) (w:=w) S.ent).mpr z] at hr
   cases hr
  refine Al (Al ?_)
  have:=h false es ep t s.heap (Heap.SameBut.refl a s.heap) S (by unfold ins; rw[if_pos hk])
  exact this
 | none =>
  dsimp only
  have hk:k∉Lg es:=(aP (prog:=prog) (w:=w) S.ent).mp hr
  obtain ⟨es1,t1,e1,p1,z1,ok1,m1,l1⟩:=l0 S.tab (hashInt k) (.int k tk)
  rw[e1]
  dsimp only
  have ent1:∀e∈es1.toList,Xd e:=λe he=>by
   rcases Bg.mp (p1.mem_iff.mp he) with z | z
   ·exact S.ent e z
   ·rw[Am.mp z]; exact ⟨k,tk,rfl⟩
  have pk1:(Lg es1).Perm (k::Lg es):=by
   have:=p1.map Xx
   rw[Cm] at this
   exact this.trans List.perm_append_comm
  have nd1:(Lg es1).Nodup:=pk1.nodup_iff.mpr (Bt.mpr ⟨hk,S.nd⟩)
  have few1:es1.size<64:=by omega
  have led1:bt w=false->t1.led=true:=λz=>by rw[l1]; exact S.led z
  refine Ac (m:=(pure ():Sem Unit)) (Al ?_)
  rw[ok1.plain,if_pos rfl]
  refine Ac (m:=Pu 8 (.int k tk)) (Al ?_)
  simp only[if_true]
  by_cases tf:t1.tooFull=true
  ·obtain ⟨es2,t2,e2,p2,z2,tab2,l2⟩:=fS (es:=es1) ok1.plain few1
   have ent2:∀e∈es2.toList,Xd e:=λe he=>ent1 e (p2.mem_iff.mp he)
   have pk2:(Lg es2).Perm (k::Lg es):=(p2.map Xx).trans pk1
   refine Ac (Kz S.obj rfl ?_ (small few1))
   rw[tf,if_pos (by decide),e2]
   dsimp only
   refine Ac (m:=(pure ():Sem Unit)) (Al ?_)
   have o1:=Su S.obj es1 t1
   refine Ac (Kz o1 rfl (Al ?_) (small (by omega)))
   dsimp only
   refine Al (h true es2 (ep+1+1) t2 _ ((Cw s.heap a _).trans (Cw _ a _)) ⟨Su o1 es2 t2,ent2,pk2.nodup_iff.mpr (Bt.mpr ⟨hk,S.nd⟩),tab2,λz=>by rw[l2,l1]; exact S.led z,by omega⟩ ?_)
   unfold ins
   rw[if_neg hk]
   exact pk2
  ·have room:es1.size * 5<t1.mask * 3:=by
    have : ¬ (t1.fill * 5 ≥ t1.mask * 3):=λz=>tf (by unfold SetTable.tooFull; exact decide_eq_true z)
    have e:t1.fill=es1.size:=by
     unfold Ri
     rw[ok1.dum,ok1.size]
     rfl
    omega
   refine Ac (Kz S.obj rfl ?_ (small few1))
   rw[Yv] at tf
   rw[tf]
   simp only[Na,Ct,if_false]
   refine Al ?_
   dsimp only
   refine Al (h true es1 (ep+1) t1 _ (Cw s.heap a _) ⟨Su S.obj es1 t1,ent1,nd1,⟨ok1,room⟩,led1,few1⟩ ?_)
   unfold ins
   rw[if_neg hk]
   exact pk1
end
theorem Fx{α:Type}:∀{l:List α} {i:Nat} (h:i<l.length),(l[i]::l.eraseIdx i).Perm l
 | [],_,h=>absurd h (Dy _)
 | a::l,0,h=>Lp _
 | a::l,i+1,h=>by
  have:=Fx (l:=l) (i:=i) (by simpa using h)
  exact (Ge a _ _).trans (Ou a this)
theorem kU{α:Type}(next:Nat->Nat):∀(fuel k:Nat) (left:List α) (out:Array α),left.length=fuel->(pickOrder.go next fuel k left out).toList.Perm (out.toList++left)
 | 0,k,left,out,h=>by
  unfold pickOrder.go
  have : left=[]:=List.eq_nil_of_length_eq_zero h
  subst this
  simp
 | fuel+1,k,left,out,h=>by
  unfold pickOrder.go
  have hi:next k % left.length<left.length:=Hh _ (by omega)
  rw[Cd hi]
  dsimp only
  refine (kU next fuel (k+1) _ _ (by rw[List.length_eraseIdx,if_pos hi]; omega)).trans ?_
  rw[Hn,Ea]
  exact List.Perm.append_left _ (Fx hi)
theorem pC{α:Type}(next:Nat->Nat)(xs:Array α):(pickOrder next xs).toList.Perm xs.toList:=by
 unfold pickOrder
 simpa using kU next xs.size 0 xs.toList #[] (by simp)
section
variable{prog:Bu}{w:World}{A:Df}{E:Value->Aj->Prop}{s:Aj}
theorem Um{Q:Bool->Aj->Prop}(h:Q (bt w) s):wpAny (model prog w) A setsByText Q E s:=by
 unfold setsByText
 exact Ac (dW (Al h))
theorem vK{a:Addr}{es:Array (Int×Value)}{ep:Nat}{t:Az}{Q:Array (Int×Value)->Aj->Prop}(S:SetS w s.heap a es ep t)(h:Q (if bt w then pickOrder (w.params.setOrder a ep) es else es) s):wpAny (model prog w) A (setWalk a) Q E s:=by
 unfold setWalk
 refine Ac (Kl S ?_)
 dsimp only
 refine Ac (Um ?_)
 cases hb:bt w with
 | true =>
  rw[hb] at h
  rw[if_pos rfl] at h ⊢
  exact Ac (dW (Al h))
 | false =>
  have hl:=S.led hb
  have hp:=S.tab.plain
  rw[hb] at h
  obtain ⟨mask,place,dummies,finger,led,moves,plain⟩:=t
  have hl':led=true:=hl
  have hp':plain=true:=hp
  subst hl' hp'
  exact Ac (m:=(pure ():Sem Unit)) (Al (Al h))
theorem nR{a:Addr}{es:Array (Int×Value)}{ep:Nat}:(if bt w then pickOrder (w.params.setOrder a ep) es else es).toList.Perm es.toList:=by
 cases bt w with
 | true=>exact pC _ _
 | false=>exact Lp _
end
def fN(U:List Int)(l:List Int):Prop:=∀x∈l,x∈U
theorem len_leI:∀{l1 l2:List Int},l1.Nodup->(∀e∈l1,e∈l2)->l1.length<=l2.length
 | [],_,_,_=>Dx _
 | a::l1,l2,nd,h=>by
  have nd':=Bt.mp nd
  have ha:=h a (Aa ..)
  have:=len_leI (l2:=l2.erase a) nd'.2 λe he=>(Lj (show e≠a from λz=>nd'.1 (by rw[<- z]; exact he))).mpr (h e (Ab _ he))
  rw[Ja ha] at this
  have p:0<l2.length:=Jz ha
  rw[Bq]
  omega
theorem fN.size{U:List Int}{es:Array (Int×Value)}(h:fN U (Lg es))(nd:(Lg es).Nodup):es.size<=U.length:=by
 have:=len_leI nd h
 rw[Ae,Af] at this
 exact this
theorem vD{x k:Int}{l:List Int}:x∈ins k l↔x=k\/x∈l:=by
 unfold ins
 split
 ·rename_i h
  constructor
  ·exact .inr
  ·rintro (z | z)
   ·rw[z]; exact h
   ·exact z
 ·rw[Ai]
theorem Vg:isSubtype (.type "set") (.type "set")=pure true:=by rw[isSubtype_type]; kernel_rfl
section
variable{prog:Bu}{w:World}{A:Df}{E:Value->Aj->Prop}{s:Aj}
theorem SetS.ty{a:Addr}{es:Array (Int×Value)}{ep:Nat}{t:Az}(S:SetS w s.heap a es ep t):s.TypeIs (.ref a) "set" := ⟨_,S.obj,rfl⟩
theorem nA{h:Heap}:SetS w (h.push (Es #[] 0 (.fresh 0 0 (!bt w)))) h.objs.size #[] 0 (.fresh 0 0 (!bt w)) :=
 ⟨Ay _ rfl,(λe he=>by simp at he),Dw,⟨⟨mG,rfl,rfl,Dw,(λj hj=>by simp [SetTable.fresh] at hj),rfl⟩,by show 0 * 5<7 * 3; decide⟩,(λz=>by show (!bt w)=true; rw[z]; rfl),by decide⟩
end
end NdS
namespace NdS
open PySem PyProof.Rows
section
variable{prog:Bu}{w:World}{A:Df}{R:Result->Aj->Prop}
theorem pX{U:List Int}(hU:U.length<=62){a it l:Addr}(n1:a≠it)(n2:a≠l)(n3:l≠it){items:Array Value}{ns:List Int}(hI:Jc items.toList ns)(hN:fN U ns)(hh:A.in1.handled=none):∀(k i:Nat) (s:Aj) (es:Array (Int×Value)) (ep:Nat) (t:Az),items.size - i=k->i<=items.size->s.heap.IsTupleIter it l i->s.heap.IsTuple l items->SetS w s.heap a es ep t->fN U (Lg es)->(∀es' ep' t' h' tk,(∀b o,b≠a->b≠it->s.heap.get? b=some o->h'.get? b=some o)->SetS w h' a es' ep' t'->(∀x,x∈Lg es'↔x∈Lg es\/x∈ns.drop i)->R (.ok (.ret .none)) { s with heap:=h',toks:=tk })->Ld (model prog w) A (.builtin "set.update.loop" ⟨[.ref a,.ref it],[]⟩) R s:=by
 have len:ns.length=items.size:=by rw[<- hI.length,Af]
 intro k
 induction k with
 | zero =>
  intro i s es ep t hk hi hit hl S hu hR
  have e:i=items.size:=by omega
  refine Et Eu ?_
  rw[Ee Cs _]
  show wpAny _ A.in1 (Sb (.ref it) >>= _) _ _ s
  refine Ac (uL hh hit hl (by rw[e]; simp) λh' x=>?_)
  refine Al (hR es ep t h' s.toks (λb o _ q e=>x b o q e) (S.keep λo q=>x a o n1 q) λx=>?_)
  rw[e,<- len,List.drop_length]
  simp
 | succ k ih =>
  intro i s es ep t hk hi hit hl S hu hR
  have lt:i<items.size:=by omega
  have lt':i<ns.length:=by omega
  obtain ⟨tk,ev⟩:=IntsAre.int_at hI i items[i] (by simp [lt])
  have eg:ns.getD i 0=ns[i]:=by simp [List.getD,lt']
  rw[eg] at ev
  refine Et Eu ?_
  rw[Ee Cs _]
  show wpAny _ A.in1 (Sb (.ref it) >>= _) _ _ s
  refine Ac (uD hit hl (x:=items[i]) (by simp [lt]) λh1 hit1 sb1=>?_)
  rw[ev]
  show wpAny _ A.in1 (Lc [Oo ns[i] tk] (setAdd a (.int ns[i] tk)) >>= _) _ _ _
  refine Ac (Ef ?_)
  unfold setAdd
  refine Ef (Ac ((Bs prog w).pyHash (k:=ns[i]) (intKind_is _ _ _ _) ?_))
  have S1:SetS w h1 a es ep t:=S.keep λo q=>(sb1.2 a n1).trans q
  have z:=hu.size S1.nd
  refine zZ (s:={ s with heap:=h1,toks:=s.toks+1 }) S1 (by omega) λb es2 ep2 t2 h2 sb2 S2 p2=>?_
  have m2:∀x,x∈Lg es2↔x=ns[i]\/x∈Lg es:=λx=>by rw[p2.mem_iff,vD]
  refine Al ⟨Mf Cs _,?_⟩
  refine ih (i+1) { s with heap:=h2,toks:=s.toks+1 } es2 ep2 t2 (by omega) lt ?_ ?_ S2 (λx hx=>?_) λes3 ep3 t3 h3 tk3 k3 S3 m3=>?_
  ·obtain ⟨o,ho,r⟩:=hit1
   exact ⟨o,(sb2.2 it (Lo n1)).trans ho,r⟩
  ·obtain ⟨o,ho,r⟩:=hl
   exact ⟨o,(sb2.2 l (Lo n2)).trans ((sb1.2 l n3).trans ho),r⟩
  ·rcases (m2 x).mp hx with q | q
   ·rw[q]; exact hN _ (Os lt')
   ·exact hu x q
  ·refine hR es3 ep3 t3 h3 tk3 (λb o q1 q2 e=>k3 b o q1 q2 ((sb2.2 b q1).trans ((sb1.2 b q2).trans e))) S3 λx=>?_
   rw[m3,m2,dY lt',Ai]
   constructor
   ·rintro ((q | q) | q)
    ·exact .inr (.inl q)
    ·exact .inl q
    ·exact .inr (.inr q)
   ·rintro (q | q | q)
    ·exact .inl (.inr q)
    ·exact .inl (.inl q)
    ·exact .inr q
end
section
variable{prog:Bu}{w:World}{A:Df}{E:Value->Aj->Prop}{s:Aj}
theorem eY(v:Value){Q:Value->Aj->Prop}(h:Q (.ref s.heap.objs.size) { s with heap:=s.heap.push (Es #[] 0 (.fresh 0 0 (!bt w))) }):Ld (model prog w) A (.call (.builtin "set.__new__") ⟨[.type "set",v],[]⟩) (wants Q E) s:=by
 have sub:=Vg
 obtain ⟨hp,g,d,tk,os⟩:=s
 refine Tg (show wpAny _ A.in1 (do checkBuiltinCall "set.__new__" ⟨[.type "set",v],[]⟩; again (.builtin "set.__new__" ⟨[.type "set",v],[]⟩)) _ _ _ from ?_)
 refine Ac (Kn (PySem.F.newCall_set_1 v) (Al ⟨Mf PySem.F.plain_set_new _,Et PySem.F.entry_set_new ?_⟩))
 rw[Ee PySem.F.plain_set_new _]
 unfold Builtin.«set.__new__» Builtin.Frozenset.newClass
 dsimp only
 wp_walk
 refine dW (Al ?_)
 dsimp only
 simp only[newObj]
 exact Ac (wpAny_alloc (Al (Al h)))
theorem vS{U:List Int}(hU:U.length<=62){l:Addr}{items:Array Value}{ns:List Int}{Q:Value->Aj->Prop}(hh:A.handled=none)(hl:s.heap.IsTuple l items)(hI:Jc items.toList ns)(hN:fN U ns)(h:∀es ep t h' tk,(∀b o,s.heap.get? b=some o->h'.get? b=some o)->SetS w h' s.heap.objs.size es ep t->(∀x,x∈Lg es↔x∈ns)->Q (.ref s.heap.objs.size) { s with heap:=h',toks:=tk }):wpAny (model prog w) A (call (.type "set") [.ref l]) Q E s:=by
 obtain ⟨c,tl,hmro⟩:=PySem.F.called_set.mro
 have hmade:=PySem.F.called_set.made
 have hsub:=PySem.F.called_set.sub
 have h1:=PySem.F.called_set.notType
 have h2:=PySem.F.called_set.canCreate
 have hct:=PySem.F.typeCall_set_1 (.ref l)
 refine wpAny_call (Tg (show wpAny _ _ (callAny (.type "set") _) _ _ _ from ?_))
 refine Al ⟨Code.quiet_builtin _ (by decide +kernel),Et PySem.F.entry_type_call ?_⟩
 rw[Around.under_plain (weight_type_call_type "set" [.ref l] []) rfl]
 repeat (any_goals (first | assumption | wp_step))
 refine Jb (eY (.ref l) (E:=E) (Q:=λv s1=>v=.ref s.heap.objs.size/\s1={ s with heap:=s.heap.push (Es #[] 0 (.fresh 0 0 (!bt w))) }) ⟨rfl,rfl⟩) λr s1 hr=>?_
 rcases r with e | (_ | _ | _ | v)
 ·exact hr
 ·exact hr.elim
 ·exact hr.elim
 ·exact hr.elim
 obtain ⟨rfl,rfl⟩:=hr
 have S0:=nA (w:=w) (h:=s.heap)
 have T0:Shared.TypeIs { s with heap:=s.heap.push (Es #[] 0 (.fresh 0 0 (!bt w))) } (.ref s.heap.objs.size) "set" := ⟨_,S0.obj,rfl⟩
 have hli:=PySem.F.called_set.init.lookup
 have hbi:=PySem.F.called_set.init.bind (.ref s.heap.objs.size)
 repeat (any_goals (first | assumption | wp_step))
 refine Jb (codeAny_call_builtin (R:=wants (λr s2=>r=.none/\∃es ep t h' tk,s2={ s with heap:=h',toks:=tk }/\(∀b o,s.heap.get? b=some o->h'.get? b=some o)/\SetS w h' s.heap.objs.size es ep t/\∀x,x∈Lg es↔x∈ns) E)
  PySem.F.called_set.init.plain PySem.F.entry_set_init (check_set_init_1 T0 ?_)) λr s2 hr=>?_
 ·obtain ⟨⟨oc,od,odt,osl⟩,ho,hc,n,hd⟩:=id hl
  have hc':oc=.type "tuple" := hc
  have hd':odt=.seq items n:=hd
  subst hc' hd'
  have ho':=Ag (Es #[] 0 (.fresh 0 0 (!bt w))) ho
  have hl1:(s.heap.push (Es #[] 0 (.fresh 0 0 (!bt w)))).IsTuple l items:=⟨_,ho',rfl,n,rfl⟩
  have f1:=PySem.F.sub_tuple_set
  have f2:=PySem.F.sub_tuple_frozenset
  have f3:(Eb "tuple" == Eb "dict")=false:=by decide
  have lt:=Bc ho
  unfold Builtin.«set.__init__» noKeywords Ra
  generalize hPI:pyIter=PI
  wp_walk
  subst hPI
  refine wpAny_pyIter_tuple hl1 (Ac (wpAny_runValue ?_))
  have sz:(s.heap.push (Es #[] 0 (.fresh 0 0 (!bt w)))).objs.size=s.heap.objs.size+1:=Heap.size_push _ _
  have g1:((s.heap.push (Es #[] 0 (.fresh 0 0 (!bt w)))).push { cls:=.type "tuple_iterator",data:=.fields #[.ref l,.int 0 0] }).get? (s.heap.push (Es #[] 0 (.fresh 0 0 (!bt w)))).objs.size=some { cls:=.type "tuple_iterator",data:=.fields #[.ref l,.int 0 0] }:=Ay _ rfl
  refine pX hU (by rw[sz]; exact Cp (Yy _)) (Nat.ne_of_gt lt) (by rw[sz]; exact Cp (Ki lt)) hI hN (by simp [hh]) (items.size - 0) 0 _ #[] 0 (.fresh 0 0 (!bt w)) rfl (Dx _) ⟨_,g1,rfl,rfl⟩ ⟨_,Ag _ ho',rfl,n,rfl⟩
   (S0.keep λo q=>Ag _ q) (λx hx=>by simp at hx) λes ep t h' tk k' S' m'=>?_
  refine Al (Al ⟨rfl,es,ep,t,h',tk,rfl,λb o e=>?_,S',λx=>?_⟩)
  ·have lb:=Bc e
   exact k' b o (Cp lb) (by rw[sz]; exact Cp (Ki lb)) (Ag _ (Ag _ e))
  ·rw[m',Sa]
   simp
 ·rcases r with e | (_ | _ | _ | v)
  ·exact hr
  ·exact hr.elim
  ·exact hr.elim
  ·exact hr.elim
  obtain ⟨rfl,es,ep,t,h',tk,rfl,k',S',m'⟩:=hr
  repeat (any_goals (first | assumption | wp_step))
  exact h es ep t h' tk k' S' m'
end
theorem Qn:Slot "set_iterator" "__next__" "set_iterator.__next__" :=
 .of (owner := "set_iterator") (n := "__next__") (by rw[typeLookup_type,builtinLookup_eq_fast]; kernel_rfl) (by decide +kernel) (by decide +kernel) (by decide +kernel) (by first | exact .inl (by decide +kernel) | exact .inr (by decide +kernel)) (by rw[isSubtype_type]; kernel_rfl)
theorem Wm:entryFor table "set_iterator.__next__" = some Builtin.«set_iterator.__next__»:=entryFor_of_tree (by kernel_rfl)
theorem aD(a:Value):argsOk "set_iterator.__next__" ⟨[a],[]⟩:=by unfold argsOk; kernel_rfl
theorem iQ:entryFor table "set.__iter__" = some Builtin.«frozenset.__iter__» :=
 entryFor_alias (id' := "frozenset.__iter__") (by kernel_rfl) (by first | rfl | decide +kernel) (by decide +kernel) (by kernel_rfl)
abbrev lA(f i:Nat)(a:Addr)(n ep:Nat):Obj:={ cls:=.type "set_iterator",data:=.fields #[La f,La i,.ref a,La n,La ep] }
def arrOf(w:World)(a:Addr)(ep:Nat)(es:Array (Int×Value)):Array (Int×Value):=if bt w then pickOrder (w.params.setOrder a ep) es else es
theorem pQ{w:World}{a:Addr}{ep:Nat}{es:Array (Int×Value)}:(arrOf w a ep es).toList.Perm es.toList:=nR
theorem Nm{w:World}{a:Addr}{ep:Nat}{es:Array (Int×Value)}:(arrOf w a ep es).size=es.size:=by
 have:=(pQ (w:=w) (a:=a) (ep:=ep) (es:=es)).length_eq
 rw[Af,Af] at this
 exact this
def iB(w:World)(I a:Addr)(es:Array (Int×Value))(ep:Nat)(t:Az)(i:Nat)(h:Heap):Prop :=
 (∃f,h.get? I=some (lA f i a es.size ep)/\(bt w=false->Ba t.place f=i))/\SetS w h a es ep t
section
variable{prog:Bu}{w:World}{A:Df}{E:Value->Aj->Prop}{s:Aj}
theorem uQ{a:Addr}{es:Array (Int×Value)}{ep:Nat}{t:Az}{Q:Value->Aj->Prop}(S:SetS w s.heap a es ep t)(h:Q (.ref s.heap.objs.size) { s with heap:=s.heap.push (lA 0 0 a es.size ep) }):wpAny (model prog w) A (pyIter (.ref a)) Q E s:=by
 refine wpAny_pyIter_slot S.ty PySem.F.slot_set_iter (He PySem.F.slot_set_iter S.ty iQ ?_ (PySem.F.args_set_iter_1 _))
 unfold Builtin.«frozenset.__iter__»
 refine Ac (m:=Builtin.Frozenset.slot0 "__iter__" ⟨[.ref a],[]⟩) (Kn (a:=a) rfl ?_)
 unfold Builtin.Frozenset.sizeOf Yx setDrawn setEpoch
 refine Ac (Ac (Ac (Kl S (Al (Al ?_)))))
 refine Ac (Ac (Kl S ?_))
 dsimp only
 refine Ac (Um (Al ?_))
 have hp:=S.tab.plain
 have tail:wpAny (model prog w) A.in1 (do
   let first <- (pure (La 0):Sem Value)
   ret (<- newFields "set_iterator" [first,La 0,.ref a,La es.size,La (<- (do return (<- setState a).2.1))])) (λfin s'=>∃v,fin=.done (.ret v)/\∃T' r,s'.TypeIs v T'/\typeLookup (.type T') "__next__" = pure (some r)/\Q v s') E s:=by
  refine Ac (Al ?_)
  refine Ac (Ac (Kl S (Al ?_)))
  refine Ac (Du (Al ⟨_,rfl, "set_iterator",_,⟨_,Ay _ rfl,rfl⟩,Qn.lookup,h⟩))
 obtain ⟨mask,place,dummies,finger,led,moves,plain⟩:=t
 have hp':plain=true:=hp
 subst hp'
 cases hb:bt w with
 | true=>exact tail
 | false=>exact tail
theorem Yn{a:Addr}{es:Array (Int×Value)}{ep f i:Nat}{t:Az}{Q:Option (Value×Nat)->Aj->Prop}(S:SetS w s.heap a es ep t)(hf:bt w=false->Ba t.place f=i)(h1:∀(hi:i<es.size) f',(bt w=false->Ba t.place f'=i+1)->Q (some (((arrOf w a ep es)[i]'(by rw[Nm]; exact hi)).2,f')) s)(h2:es.size<=i->Q none s):wpAny (model prog w) A (setNext a f i ep) Q E s:=by
 unfold setNext
 refine Ac (Kl S ?_)
 dsimp only
 refine Ac (Um ?_)
 cases hb:bt w with
 | true =>
  rw[if_pos rfl,if_neg (by simp)]
  refine Ac (vK S (Al ?_))
  show Q (((arrOf w a ep es)[i]?).map λe=>(e.2,f)) s
  by_cases hi:i<es.size
  ·rw[Co (by rw[Nm]; exact hi)]
   exact h1 hi f (λz=>by rw[hb] at z; cases z)
  ·rw[Ov (by rw[Nm]; omega)]
   exact h2 (by omega)
 | false =>
  have hl:=S.led hb
  have hp:=S.tab.plain
  have tail:wpAny (model prog w) A (pure (match es[Ba t.place f]?,t.place[Ba t.place f]? with
    | some (_,x),some j=>some (x,j+1)
    | _,_=>none):Sem (Option (Value×Nat))) Q E s:=by
   rw[hf hb]
   by_cases hi:i<es.size
   ·have hi2:i<t.place.size:=by rw[S.tab.size]; exact hi
    rw[Co hi,Co hi2]
    refine Al ?_
    have:=h1 hi (t.place[i]+1) (λ_=>iU S.tab.rise hi2)
    have e:arrOf w a ep es=es:=by unfold arrOf; rw[hb]; rfl
    simp only[e] at this
    exact this
   ·rw[Ov (by omega)]
    exact Al (h2 (by omega))
  obtain ⟨mask,place,dummies,finger,led,moves,plain⟩:=t
  have hl':led=true:=hl
  have hp':plain=true:=hp
  subst hl' hp'
  exact Ac (m:=(pure ():Sem Unit)) (Al tail)
theorem oN{I a:Addr}{es:Array (Int×Value)}{ep:Nat}{t:Az}{i:Nat}{Q:Option Value->Aj->Prop}(st:iB w I a es ep t i s.heap)(ne:a≠I)(hi:i<es.size)(h:∀h',iB w I a es ep t (i+1) h'->Gd I s.heap h'->Q (some ((arrOf w a ep es)[i]'(by rw[Nm]; exact hi)).2) { s with heap:=h' }):wpAny (model prog w) A (Sb (.ref I)) Q E s:=by
 obtain ⟨⟨f,ho,hf⟩,S⟩:=st
 have T:s.TypeIs (.ref I) "set_iterator" := ⟨_,ho,rfl⟩
 unfold Sb
 refine Ac (wpAny_attempt (Ko (name:=Kg "__next__") T Qn (He Qn T Wm ?_ (aD _))))
 unfold Builtin.«set_iterator.__next__»
 refine Ac (m:=slotArgs "__next__" 0 ⟨[.ref I],[]⟩) (Kn (a:=(Cr I,[])) rfl ?_)
 dsimp only
 refine Ac (wpAny_fieldsOf ho rfl ?_)
 show wpAny (model prog w) A.in1 (do
  if (((<- Yx a).size:Nat):Int) != (es.size:Int) then
   rule "set_iterator.__next__.size-changed"
   Re (.ref I) 3 (La (-1))
   raiseError "RuntimeError" "Set changed size during iteration"
  match <- setNext a (f:Int).toNat (i:Int).toNat (ep:Int).toNat with
  | some (x,next) =>
   Re (.ref I) 0 (La next)
   Re (.ref I) 1 (La ((i:Int)+1))
   ret x
  | none=>Re (.ref I) 2 .none; raiseNew (<- newExc (.type "StopIteration") [])) _ _ _
 unfold Yx
 refine Ac (Ac (Kl S (Al ?_)))
 rw[if_neg (by simp)]
 simp only[Oj]
 refine Ac (Yn S hf (λ_ f' hf'=>?_) (λz=>absurd hi (by omega)))
 dsimp only
 refine Ac (wpAny_setField ho rfl (by simp) ?_)
 have g1:(s.heap.update I (Obj.mapFields (·.setIfInBounds 0 (La f')))).get? I=some (lA f' i a es.size ep):=Ks _ ho rfl
 refine Ac (wpAny_setField g1 rfl (by simp) (Al ⟨_,rfl,Al (h _ ⟨⟨f',?_,hf'⟩,?_⟩ ((Cw ..).trans (Cw ..)))⟩))
 ·exact Ks _ g1 rfl
 ·refine S.keep λo q=>?_
  exact ((Cw _ _ _).2 a ne).trans (((Cw _ _ _).2 a ne).trans q)
theorem tZ{I a:Addr}{es:Array (Int×Value)}{ep:Nat}{t:Az}{Q:Option Value->Aj->Prop}(hh:A.handled=none)(st:iB w I a es ep t es.size s.heap)(h:∀h',Heap.ExtBut I s.heap h'->Q none { s with heap:=h' }):wpAny (model prog w) A (Sb (.ref I)) Q E s:=by
 obtain ⟨⟨f,ho,hf⟩,S⟩:=st
 have T:s.TypeIs (.ref I) "set_iterator" := ⟨_,ho,rfl⟩
 unfold Sb
 refine Ac (wpAny_attempt (Ko (name:=Kg "__next__") T Qn (He Qn T Wm ?_ (aD _))))
 unfold Builtin.«set_iterator.__next__»
 refine Ac (m:=slotArgs "__next__" 0 ⟨[.ref I],[]⟩) (Kn (a:=(Cr I,[])) rfl ?_)
 dsimp only
 refine Ac (wpAny_fieldsOf ho rfl ?_)
 show wpAny (model prog w) A.in1 (do
  if (((<- Yx a).size:Nat):Int) != (es.size:Int) then
   rule "set_iterator.__next__.size-changed"
   Re (.ref I) 3 (La (-1))
   raiseError "RuntimeError" "Set changed size during iteration"
  match <- setNext a (f:Int).toNat (es.size:Int).toNat (ep:Int).toNat with
  | some (x,next) =>
   Re (.ref I) 0 (La next)
   Re (.ref I) 1 (La ((es.size:Int)+1))
   ret x
  | none=>Re (.ref I) 2 .none; raiseNew (<- newExc (.type "StopIteration") [])) _ _ _
 unfold Yx
 refine Ac (Ac (Kl S (Al ?_)))
 rw[if_neg (by simp)]
 simp only[Oj]
 refine Ac (Yn S hf (λz _ _=>absurd z (Gj _)) (λ_=>?_))
 dsimp only
 refine Ac (wpAny_setField ho rfl (by simp) (Ac ?_))
 simp only[newExc,newTuple]
 refine Ac (Du ?_ (by size_fits))
 refine Ac (m:=firstArgMember _ _) (Kn (a:=Ot) (by first | rfl | (simp only[firstArgMember]; rfl)) (Du ?_ (by size_fits)))
 simp only[raiseNew]
 refine Ac (wpAny_handled ?_)
 rw[show A.in1.handled=none from hh]
 refine Ac (Al (wpAny_throw ?_))
 refine Ac (wpAny_isInstance (T := "StopIteration") (b:=true) ⟨_,Ay _ rfl,rfl⟩ isSubtype_stop ?_)
 exact Al (h _ (((Cw ..).extBut.push _).push _))
end
theorem aS:Slot "set_iterator" "__iter__" "set_iterator.__iter__" :=
 .of (owner := "set_iterator") (n := "__iter__") (by rw[typeLookup_type,builtinLookup_eq_fast]; kernel_rfl) (by decide +kernel) (by decide +kernel) (by decide +kernel) (by first | exact .inl (by decide +kernel) | exact .inr (by decide +kernel)) (by rw[isSubtype_type]; kernel_rfl)
theorem iW:entryFor table "set_iterator.__iter__" = some Builtin.«dict_keyiterator.__iter__» :=
 entryFor_alias (id' := "dict_keyiterator.__iter__") (by kernel_rfl) (by first | rfl | decide +kernel) (by decide +kernel) (by kernel_rfl)
theorem nB(a:Value):argsOk "set_iterator.__iter__" ⟨[a],[]⟩:=by unfold argsOk; kernel_rfl
section
variable{prog:Bu}{w:World}{A:Df}{E:Value->Aj->Prop}{s:Aj}
theorem oU(hh:A.handled=none){I a:Addr}(ne:a≠I)(es:Array (Int×Value))(ep:Nat)(t:Az):Walks prog w A I [I,a] [I] es.size (λi v=>∃e,(arrOf w a ep es)[i]? = some e/\v=e.2) (λi h=>iB w I a es ep t i h) where
 sub:=λb hb=>by simp at hb; simp [hb]
 frame:=λi h h' ⟨⟨f,ho,hf⟩,S⟩ hk=>⟨⟨f,hk I (by simp) _ ho,hf⟩,S.keep λo q=>hk a (by simp) o q⟩
 item:=λi s Q E hi st hQ=>oN st ne hi λh' st' sb=>hQ _ h' s.toks ⟨_,Co (by rw[Nm]; exact hi),rfl⟩ st' λb o hb e=>(sb.2 b (λz=>hb (by simp [z]))).trans e
 done:=λs Q E st hQ=>tZ hh st λh' x=>hQ h' s.toks λb o hb e=>x b o (λz=>hb (by simp [z])) e
 self:=λi s Q E st hQ=>by
  obtain ⟨⟨f,ho,hf⟩,S⟩:=st
  have T:s.TypeIs (.ref I) "set_iterator" := ⟨_,ho,rfl⟩
  refine wpAny_pyIter_slot T aS (He aS T iW ?_ (nB _))
  exact Al ⟨_,rfl, "set_iterator",_,T,Qn.lookup,hQ⟩
theorem sX{r:Addr}{Q:Bool->Aj->Prop}(hT:s.TypeIs (.ref r) "set")(h:Q false s):wpAny (model prog w) A (Tw (.ref r)) Q E s:=by
 unfold Tw
 refine Ac (wpAny_specialOf hT PySem.F.slot_set_len.lookup ?_)
 generalize hid:("set.__len__" : String)=id0
 wp_delta
 rw[show splitId id0=some ("set", "__len__") from by subst hid; decide +kernel]
 subst hid
 refine Ac (wpAny_isInstance (T := "set") (b:=true) hT Vg ?_)
 refine wpAny_ite_split (λz=>absurd z (by decide)) (λ_=>wpAny_ite_split (λ_=>?_) (λz=>absurd (by decide +kernel) z))
 exact Ac (Nv hT (Al h))
theorem vM(a:Addr)(es:Array (Int×Value))(ep:Nat)(t:Az):PySem.W.KdlSrc prog w "set" a a es.size (λi v=>∃e,(arrOf w a ep es)[i]? = some e/\v=e.2) (λh=>SetS w h a es ep t) where
 type:=λs S=>S.ty
 there:=λh S=>⟨Bc S.obj,Bc S.obj⟩
 keep:=λh h' S k=>S.keep λo q=>k a (.inl rfl) o q
 notList:=by decide
 notTuple:=by decide
 hint:=λA E s Q S h=>sX S.ty h
 iter:=λA s hh S=>by
  have lt:=Bc S.obj
  refine ⟨lA 0 0 a es.size ep,λi h=>iB w s.heap.objs.size a es ep t i h,λE Q h=>uQ S h,?_,⟨⟨0,Ay _ rfl,λ_=>gK S.tab.rise⟩,S.keep λo q=>Ag _ q⟩⟩
  exact oU hh (Cp lt) es ep t
theorem Ze{arr:Array (Int×Value)}(he:∀e∈arr.toList,Xd e){acc:Array Value}(h:ItemsOf (λi v=>∃e,arr[i]? = some e/\v=e.2) acc arr.size):Jc acc.toList (arr.toList.map Xx):=by
 have key:∀(l:List (Int×Value)) (vs:List Value),(∀e∈l,Xd e)->vs.length=l.length->(∀(j:Nat) v,vs[j]? = some v->∃e,l[j]? = some e/\v=e.2)->Jc vs (l.map Xx):=by
  intro l
  induction l with
  | nil =>
   intro vs _ hl _
   cases vs with
   | nil=>exact .nil
   | cons v vs=>cases hl
  | cons e l ih =>
   intro vs he hl hv
   cases vs with
   | nil=>cases hl
   | cons v vs =>
    obtain ⟨k,tk,rfl⟩:=he e (Aa ..)
    obtain ⟨e',h1,h2⟩:=hv 0 v rfl
    cases h1
    subst h2
    exact .cons k tk (ih vs (λe hm=>he e (Ab _ hm)) (by simpa using hl) λj u hj=>hv (j+1) u (by simpa using hj))
 refine key arr.toList acc.toList he (by rw[Af,Af]; exact h.1) λj v hj=>?_
 obtain ⟨e,h1,h2⟩:=h.2 j v (by rw[<- Ep]; exact hj)
 exact ⟨e,by rw[Ep]; exact h1,h2⟩
theorem jW{a:Addr}{es:Array (Int×Value)}{ep:Nat}{t:Az}{Q:Value->Aj->Prop}(hh:A.handled=none)(S:SetS w s.heap a es ep t)(h:∀(p:Addr) (out:Array Value) (ns:List Int) (n:Nat) (h1 h':Heap) (tk:Nat),Jc out.toList ns->ns.Perm (Lg es)->ns.Pairwise (·<=·)->(∀b o,s.heap.get? b=some o->h1.get? b=some o)->h1.objs.size<=p->(∀b o,h1.get? b=some o->h'.get? b=some o)->h'.get? p=some (seqObj "list" out n)->Q (.ref p) { s with heap:=h',toks:=tk }):wpAny (model prog w) A (call (.builtin "sorted") [.ref a]) Q E s:=by
 refine Calls.call_function_entry kind_sorted plain_sorted entry_sorted (args_sorted1 _) ?_
 unfold Builtin.«sorted»
 refine Ac (m:=checkCount "sorted" 1 1 _) (Al (Ac (PySem.W.kdu_collect (A:=A.in1) (vM a es ep t) hh S (small S.few) λh1 tk acc k1 hacc=>?_)))
 have hacc':ItemsOf (λi v=>∃e,(arrOf w a ep es)[i]? = some e/\v=e.2) acc (arrOf w a ep es).size:=by rw[Nm]; exact hacc
 have hI:=Ze (λe he=>S.ent e (pQ.mem_iff.mp he)) hacc'
 have len:acc.toList.length<64:=by rw[Af,hacc.1]; exact S.few
 refine Ac (wpAny_newList ?_ (Bm (Iq len) (by rw[Hm]; decide)))
 have g1:(h1.push (seqObj "list" acc.toList.toArray 0)).get? h1.objs.size=some (seqObj "list" acc.toList.toArray 0):=Ay _ rfl
 refine Ac (Ef (He slot_list_sort ⟨_,g1,rfl⟩ entry_list_sort (list_sort_tree (s:={ s with heap:=h1.push (seqObj "list" acc.toList.toArray 0),toks:=tk }) g1 hI len λout ns' a1 a2 a3=>⟨_,rfl,?_⟩) (args_list_sort _)))
 refine Al ⟨_,rfl,?_⟩
 have g2:=get?_update_seq g1 (λ_=>#[])
 have g3:=Ag (seqObj "list" #[] 0) (Ag (seqObj "tuple" acc.toList.toArray 0) g2)
 have g4:=get?_update_seq g3 (λ_=>out)
 refine h h1.objs.size out ns' _ h1 _ tk a1 (a2.trans (pQ.map Xx)) a3 k1 (Ah _) (λb o e=>?_) g4
 have nb:b≠h1.objs.size:=Cp (Bc e)
 exact ((Cw _ _ _).2 b nb).trans (Ag _ (Ag _ (((Cw _ _ _).2 b nb).trans (Ag _ e))))
end
end NdS
namespace Nd
open PySem PySem.Spec PyProof.Rows L2 NdS
def tE(w:World)(a:Addr)(ks:List Int)(h:Heap):Prop:=∃es ep t,SetS w h a es ep t/\∀x,x∈Lg es↔x∈ks
abbrev jV(w:World)(a:Addr)(ks:List Int):HO:=.ext (tE w a ks)
theorem vU{P:Bu}{w w':World}{H:Hp}{h:Heap}{a:Addr}{ks:List Int}(e:tE w a ks h):Hu P w' H h a (jV w a ks) :=
 ⟨e,let ⟨_,_,_,S,_⟩:=e; ⟨_,S.obj⟩,λh1 h2 ⟨es,ep,t,S,m⟩ k=>⟨es,ep,t,S.keep λo q=>k o q,m⟩⟩
theorem tS{P:Bu}{w:World}{H:Hp}{h:Heap}{a:Addr}{ks:List Int}(ok:Xz P w H h)(e:H a=some (jV w a ks)):tE w a ks h :=
 (show Hu P w H h a (jV w a ks) from ok a _ e).1
section
variable{X:Cx}
def T6(w:World)(K:PySem.W.Frag):List V->Hp->VK->Prop:=λxs H Q=>∃(a:Addr) (ns U:List Int),xs=[.ref a]/\To K H a (ns.map V.int)/\U.length<=62/\fN U ns/\∀p,H p=none->Q (.ref p) (upd H p (jV w p ns))
theorem pT(hc:X.calm=true):Jn X (.type "set") (T6 X.w X.K):=by
 intro pins s σ H xs us Q I r h
 obtain ⟨a,ns,U,rfl,hs,hU,hN,q⟩:=h
 obtain ⟨u,rfl,ru⟩:=vals1 r
 cases ru
 obtain ⟨its,rv,⟨o,e,hcl,n,hd⟩,_⟩:=I.tuple hs
 refine vS hU (I.ok.hd hc) ⟨o,e,hcl,n,hd⟩ (by simpa using intsAre_of rv) hN λes ep t h' tk k S m=>?_
 exact ⟨.ref s.heap.objs.size,_,I.laid k (Ah _) (vU ⟨es,ep,t,S,m⟩),rfl,q _ (I.hok.fresh (Ah _))⟩
theorem Tc:∀{vs:List Value} {ns:List Int},Jc vs ns->Ek (ns.map V.int) vs
 | _,_,.nil=>.nil
 | _,_,.cons n t h=>.cons ⟨t,rfl⟩ (Tc h)
def vR(w:World):List V->Hp->VK->Prop:=λxs H Q=>∃(a:Addr) (ks:List Int),xs=[.ref a]/\H a=some (jV w a ks)/\∀(p:Addr) (ns:List Int),H p=none->ns.Nodup->ns.Pairwise (·<=·)->(∀x,x∈ns↔x∈ks)->Q (.ref p) (upd H p (.lst (ns.map V.int)))
theorem cQ(hc:X.calm=true):Jn X (.builtin "sorted") (vR X.w):=by
 intro pins s σ H xs us Q I r h
 obtain ⟨a,ks,rfl,ha,q⟩:=h
 obtain ⟨u,rfl,ru⟩:=vals1 r
 cases ru
 obtain ⟨es,ep,t,S,m⟩:=tS I.hok ha
 refine jW (I.ok.hd hc) S λp out ns n h1 h' tk hi hp hs k1 hge k2 hg=>?_
 have I1:Inv X pins σ H { s with heap:=h1,toks:=tk }:=I.kept k1
 have nd:ns.Nodup:=hp.nodup_iff.mpr S.nd
 have hl:ns.length<64:=by
  rw[hp.length_eq,Ae,Af]
  exact S.few
 refine ⟨.ref p,upd H p (.lst (ns.map V.int)),I1.laid (t':=tk) k2 hge ⟨by rw[Ae,Hm]; omega,out.toList,n,Tc hi,by simpa using hg⟩,rfl,q p ns (I1.hok.fresh hge) nd hs λx=>by rw[hp.mem_iff,m]⟩
end
end Nd
namespace Nd
open PySem L2
def Vf(d:Addr)(H H':Hp):Prop:=∀b o,b≠d->H b=some o->H' b=some o
theorem Vf.trans{d:Addr}{H H1 H2:Hp}(a:Vf d H H1)(b:Vf d H1 H2):Vf d H H2:=λc o n h=>b c o n (a c o n h)
theorem Vf.upd{d:Addr}{H:Hp}{o:HO}:Vf d H (upd H d o):=λb o n h=>by rw[Dr n]; exact h
theorem Yw{n:Nat}(h:n<=1000000):n<=Aw:=by rw[Hm]; omega
theorem Vv(a b:Int)(h:0<b):0<=a % b/\a % b<b:=⟨Int.emod_nonneg _ (by omega),Int.emod_lt_of_pos _ h⟩
def Ck(h:Int)(ns:List Int):Prop:=ns.Pairwise (· < ·)/\∀x∈ns,0<=x/\x<h
theorem Ck.nil(h:Int):Ck h []:=⟨Dw,λx hx=>by cases hx⟩
theorem Ck.more{h:Int}{ns:List Int}(r:Ck h ns)(h0:0<=h):Ck (h+1) (ns++[h]) :=
 ⟨Li.mpr ⟨r.1,Jk _ _,λa ha b hb=>by rw[Am.mp hb]; exact (r.2 a ha).2⟩,λx hx=>by
  rcases Bg.mp hx with z | z
  ·have:=r.2 x z; omega
  ·have:=Am.mp z; omega⟩
theorem Ck.up{h h':Int}{ns:List Int}(r:Ck h ns)(l:h<=h'):Ck h' ns:=⟨r.1,λx hx=>by have:=r.2 x hx; omega⟩
def Zl(H:Hp)(d:Addr)(c k:Int)(f:Bool):Prop:=H d=some (.lst [.int c,.int k,.bl f])
def kE:Sp:=λvs H Q _=>∃c:Int,vs=[.int c]/\∀(p:Addr) (f:Bool) (H':Hp),H p=none->Zl H' p c 0 f->Yc H H'->Q (.ref p) H'
def sJ:Sp:=λvs H Q _=>∃(d:Addr) (c k:Int) (f:Bool),vs=[.ref d]/\Zl H d c k f/\0<=k/\k<=1000000/\∀(r c':Int) (H':Hp),Zl H' d c' (k+1) f->Vf d H H'->Q (.int r) H'
theorem Ck.sub{h:Int}{xs ys:List Int}(r:Ck h xs)(s:ys.Sublist xs):Ck h ys:=⟨List.Pairwise.sublist s r.1,λx hx=>r.2 x (s.subset hx)⟩
def Bv(ns:List Int):Ad:=.tuple (ns.map By)
theorem Yp(ns:List Int):(Bv ns).depth<=1:=by
 have : (Bv ns).depth<=Bb (ns.map By)+1:=by simp [Bv,Cg]
 rw[jT] at this
 exact this
def U4:List Int:=(Br 60).map λi:Nat=>(i:Int)
theorem Wg{x:Int}(h0:0<=x)(h1:x<60):x∈U4:=Bh.mpr ⟨x.toNat,El.mpr (by omega),by omega⟩
theorem wI(TD:List Ad):Dh (.list TD) (.list [])=TD.isEmpty:=by cases TD <;> simp [Dh,Ir]
theorem aO:∀{l1 l2:List Int},l1.Pairwise (· < ·)->l2.Pairwise (· < ·)->(∀x,x∈l1↔x∈l2)->l1=l2
 | [],[],_,_,_=>rfl
 | [],b::l,_,_,h=>by have:=(h b).mpr Aa; cases this
 | a::l,[],_,_,h=>by have:=(h a).mp Aa; cases this
 | a::l1,b::l2,p1,p2,h=>by
  obtain ⟨h1,q1⟩:=Ax.mp p1
  obtain ⟨h2,q2⟩:=Ax.mp p2
  have e:a=b:=by
   rcases Ai.mp ((h a).mp Aa) with z | z
   ·exact z
   ·rcases Ai.mp ((h b).mpr Aa) with y | y
    ·exact y.symm
    ·have:=h1 b y; have:=h2 a z; omega
  subst e
  rw[aO q1 q2 λx=>⟨λhx=>?_,λhx=>?_⟩]
  ·rcases Ai.mp ((h x).mp (Ab _ hx)) with z | z
   ·have:=h1 x hx; omega
   ·exact z
  ·rcases Ai.mp ((h x).mpr (Ab _ hx)) with z | z
   ·have:=h2 x hx; omega
   ·exact z
def Oz(b:Bool):Str:=if b=true then "back" else "front"
def order{α:Type}(a b:α)(l:List α):Option Bool->List α
 | none=>l
 | some true=>[a,b]
 | some false=>[b,a]
structure TD(K:PySem.W.Frag)(H:Hp)(x:V)(d:Ad)(n m:Nat):Prop where
 rd:RdV K H x d
 fits:Jh 22 d
 nd:Gk d<=n
 dp:d.depth<=m
abbrev yY(K:PySem.W.Frag):List V->Hp->VK->Prop:=λxs H Q=>∃p ys,xs=[V.ref p]/\((Oy K H p ys/\∀l,H l=none->Q (.ref l) (upd H l (.tup ys)))\/(To K H p ys/\Q (.ref p) H))
theorem Wy{X:Cx}:Jn X (.type "tuple") (yY X.K):=Zb
end Nd
namespace DL
open PySem L2 Nd
def KL(K:PySem.W.Frag)(H:Hp)(a:Addr)(xs:List V):Prop :=
 (∃o,H a=some (.frz o (.lst xs)))\/∃(its:Array Value) (n:Nat),K.lookup a=some { cls:=.type "list",data:=.seq its n }/\its.size<=Aw/\Ek xs its.toList
def Yd:Nat->Ad
 | 0=>.none
 | n+1=>.tuple [Yd n]
def P7(ks:List (List Int×Ad)):List (Ad×Ad):=(Yd 100,.none)::ks.map λp=>(Bv p.1,p.2)
def Q0(ks:List (Int×Ad)):List (Ad×Ad):=(Yd 100,.bool true)::ks.map λp=>(.int p.1,p.2)
def S5(a:Addr)(ks:List (List Int×Ad)):List (Ad×Ad):=(Yd 100,.int a)::ks.map λp=>(Bv p.1,p.2)
def sN(w:List Int):List Wf:=w.map Qy
mutual
inductive RdF (K:PySem.W.Frag) (H:Hp):V->Ad->List Addr->Prop
 | non:RdF K H .non .none []
 | bl (b:Bool):RdF K H (.bl b) (.bool b) []
 | int (i:Int):RdF K H (.int i) (.int i) []
 | str (x:Str):RdF K H (.str x) (.str x) []
 | lst {a:Addr} {xs:List V} {ds:List Ad} {F:List Addr}:H a=some (.lst xs)->ds.length<=Aw->RdFs K H xs ds F->RdF K H (.ref a) (.list ds) (a::F)
 | tup {a:Addr} {xs:List V} {ds:List Ad} {F:List Addr}:H a=some (.tup xs)->ds.length<=Aw->RdFs K H xs ds F->RdF K H (.ref a) (.tuple ds) F
 | dic {a:Addr} {kv:List (List Wf×V)} {ks:List (List Int×Ad)}:H a=some (.dT kv)->kv.map (·.1)=ks.map (λp=>sN p.1)->RdFs K H (kv.map (·.2)) (ks.map (·.2)) []->RdF K H (.ref a) (.dict (P7 ks)) [a]
 | dik {a:Addr} {kv:List (Wf×V)} {ks:List (Int×Ad)}:H a=some (.dK kv)->kv.map (·.1)=ks.map (λp=>(Qy p.1:Wf))->RdFs K H (kv.map (·.2)) (ks.map (·.2)) []->RdF K H (.ref a) (.dict (Q0 ks)) [a]
 | dnm {a:Addr} {kv:List (List Wf×V)} {ks:List (List Int×Ad)}:H a=some (.dT kv)->kv.map (·.1)=ks.map (λp=>sN p.1)->RdFs K H (kv.map (·.2)) (ks.map (·.2)) []->RdF K H (.ref a) (.dict (S5 a ks)) [a]
inductive RdFs (K:PySem.W.Frag) (H:Hp):List V->List Ad->List Addr->Prop
 | nil:RdFs K H [] [] []
 | cons {x:V} {d:Ad} {xs:List V} {ds:List Ad} {F G:List Addr}:RdF K H x d F->RdFs K H xs ds G->RdFs K H (x::xs) (d::ds) (F++G)
end
def L5(o:HO):Prop:=(∃xs,o=.tup xs)\/∃ob u,o=.frz ob u
def Kp(F:List Addr)(H H':Hp):Prop:=∀b o,H b=some o->(b∈F\/L5 o)->H' b=some o
theorem Kp.of{F:List Addr}{H H':Hp}(s:Yc H H'):Kp F H H':=λb o e _=>s b o e
theorem Kp.sub{F G:List Addr}{H H':Hp}(k:Kp F H H')(h:∀a∈G,a∈F):Kp G H H':=λb o e z=>k b o e (z.imp (h b) id)
section
variable{K:PySem.W.Frag}{H H':Hp}
theorem KL.kp{a:Addr}{xs:List V}{F:List Addr}(h:KL K H a xs)(k:Kp F H H'):KL K H' a xs:=by
 rcases h with ⟨o,h⟩ | h
 ·exact .inl ⟨o,k _ _ h (.inr (.inr ⟨_,_,rfl⟩))⟩
 ·exact .inr h
theorem KL.sq{a:Addr}{xs:List V}(h:KL K H a xs):Oy K H a xs:=by
 rcases h with ⟨o,h⟩ | ⟨its,n,h,hz,r⟩
 ·exact .inl (.inr ⟨o,h⟩)
 ·exact .inr ⟨_,its,n,h,rfl,rfl,rfl,hz,r⟩
mutual
theorem RdF.kp:∀{v:V} {d:Ad} {F:List Addr},RdF K H v d F->Kp F H H'->RdF K H' v d F
 | _,_,_,.non,_=>.non
 | _,_,_,.bl b,_=>.bl b
 | _,_,_,.int i,_=>.int i
 | _,_,_,.str x,_=>.str x
 | _,_,_,.lst h l hs,k=>.lst (k _ _ h (.inl Aa)) l (RdFs.kp hs (k.sub λ_ z=>Ab _ z))
 | _,_,_,.tup h l hs,k=>.tup (k _ _ h (.inr (.inl ⟨_,rfl⟩))) l (RdFs.kp hs k)
 | _,_,_,.dic h e hs,k=>.dic (k _ _ h (.inl Aa)) e (RdFs.kp hs (k.sub λ_ z=>nomatch z))
 | _,_,_,.dik h e hs,k=>.dik (k _ _ h (.inl Aa)) e (RdFs.kp hs (k.sub λ_ z=>nomatch z))
 | _,_,_,.dnm h e hs,k=>.dnm (k _ _ h (.inl Aa)) e (RdFs.kp hs (k.sub λ_ z=>nomatch z))
theorem RdFs.kp:∀{v:List V} {d:List Ad} {F:List Addr},RdFs K H v d F->Kp F H H'->RdFs K H' v d F
 | _,_,_,.nil,_=>.nil
 | _,_,_,.cons h hs,k=>.cons (RdF.kp h (k.sub λ_ z=>An _ z)) (RdFs.kp hs (k.sub λ_ z=>Ap _ z))
end
theorem Mi:∀n,(Yd n).depth=n
 | 0=>by simp [Yd,Cg]
 | n+1=>by
  have:=Mi n
  simp only[Yd,Cg,Bb,this]
  omega
theorem sS{ks:List (Int×Ad)}:100<=(PyData.dict (Q0 ks)).depth:=by
 have:=Mi 100
 simp only[Q0,Cg,PyData.depthKv,this]
 omega
theorem tV{a:Addr}{ks:List (List Int×Ad)}:100<=(PyData.dict (S5 a ks)).depth:=by
 have:=Mi 100
 simp only[S5,Cg,PyData.depthKv,this]
 omega
theorem rE{ks:List (List Int×Ad)}:100<=(PyData.dict (P7 ks)).depth:=by
 have:=Mi 100
 simp only[P7,Cg,PyData.depthKv,this]
 omega
mutual
theorem RdF.rd:∀{v:V} {d:Ad} {F:List Addr},RdF K H v d F->d.depth<=90->RdV K H v d
 | _,_,_,.non,_=>.non
 | _,_,_,.bl b,_=>.bl b
 | _,_,_,.int i,_=>.int i
 | _,_,_,.str x,_=>.str x
 | _,_,_,.lst h l hs,z=>.lst (Oy.of h) (RdFs.rd hs (by simp only[Cg] at z; omega))
 | _,_,_,.tup h l hs,z=>.tup (To.of h) (RdFs.rd hs (by simp only[Cg] at z; omega))
 | _,_,_,.dic h e hs,z=>absurd (Bm rE z) (by decide)
 | _,_,_,.dik h e hs,z=>absurd (Bm sS z) (by decide)
 | _,_,_,.dnm h e hs,z=>absurd (Bm tV z) (by decide)
theorem RdFs.rd:∀{v:List V} {d:List Ad} {F:List Addr},RdFs K H v d F->Bb d<=90->RdVs K H v d
 | _,_,_,.nil,_=>.nil
 | _,_,_,.cons h hs,z=>.cons (RdF.rd h (by simp only[Bb] at z; omega)) (RdFs.rd hs (by simp only[Bb] at z; omega))
end
mutual
theorem RdF.dom:∀{v:V} {d:Ad} {F:List Addr},RdF K H v d F->∀a∈F,∃o,H a=some o
 | _,_,_,.non,_,z=>nomatch z
 | _,_,_,.bl b,_,z=>nomatch z
 | _,_,_,.int i,_,z=>nomatch z
 | _,_,_,.str x,_,z=>nomatch z
 | _,_,_,.lst h l hs,b,z=>by
  rcases Ai.mp z with rfl | z
  ·exact ⟨_,h⟩
  ·exact RdFs.dom hs b z
 | _,_,_,.tup h l hs,b,z=>RdFs.dom hs b z
 | _,_,_,.dic h e hs,b,z=>⟨_,Am.mp z▸h⟩
 | _,_,_,.dik h e hs,b,z=>⟨_,Am.mp z▸h⟩
 | _,_,_,.dnm h e hs,b,z=>⟨_,Am.mp z▸h⟩
theorem RdFs.dom:∀{v:List V} {d:List Ad} {F:List Addr},RdFs K H v d F->∀a∈F,∃o,H a=some o
 | _,_,_,.nil,_,z=>nomatch z
 | _,_,_,.cons h hs,b,z=>by
  rcases Bg.mp z with z | z
  ·exact RdF.dom h b z
  ·exact RdFs.dom hs b z
end
theorem RdFs.len:∀{v:List V} {d:List Ad} {F:List Addr},RdFs K H v d F->v.length=d.length
 | _,_,_,.nil=>rfl
 | _,_,_,.cons _ t=>by rw[Bq,Bq,RdFs.len t]
theorem RdFs.get:∀{v:List V} {d:List Ad} {F:List Addr} {i:Nat} {e:Ad},RdFs K H v d F->d[i]? = some e->∃x G,v[i]? = some x/\RdF K H x e G/\G.Sublist F
 | _,_,_,_,_,.nil,z=>by simp at z
 | _,_,_,0,_,.cons h _,z=>by
  simp at z
  subst z
  exact ⟨_,_,rfl,h,List.sublist_append_left _ _⟩
 | _,_,_,i+1,e,.cons _ t,z=>by
  obtain ⟨x,G,h1,h2,h3⟩:=RdFs.get (i:=i) (e:=e) t (by simpa using z)
  exact ⟨x,G,by simpa using h1,h2,h3.trans (Da _ _)⟩
theorem RdFs.app:∀{v w:List V} {d e:List Ad} {F G:List Addr},RdFs K H v d F->RdFs K H w e G->RdFs K H (v++w) (d++e) (F++G)
 | _,_,_,_,_,_,.nil,h=>h
 | _,_,_,_,_,_,.cons a t,h=>by
  rw[Ea]
  exact .cons a (RdFs.app t h)
theorem RdFs.snoc{v:List V}{d:List Ad}{F G:List Addr}{x:V}{e:Ad}(t:RdFs K H v d F)(h:RdF K H x e G):RdFs K H (v++[x]) (d++[e]) (F++G):=by
 have:=t.app (.cons h .nil)
 rw[Fi] at this
 exact this
end
mutual
def imm:Ad->Bool
 | .list _=>false
 | .dict _=>false
 | .tuple xs=>Dk xs
 | _=>true
def Dk:List Ad->Bool
 | []=>true
 | x::xs=>imm x && Dk xs
end
theorem iV:∀{xs:List Ad},Dk xs=true↔∀x∈xs,imm x=true
 | []=>by simp [Dk]
 | x::xs=>by simp [Dk,iV (xs:=xs)]
theorem Ly{α:Type}{f:α->Ad}(h:∀a,imm (f a)=true)(l:List α):Dk (l.map f)=true:=iV.mpr λx hx=>by
 obtain ⟨a,_,rfl⟩:=Bh.mp hx
 exact h a
theorem qB(ns:List Int):imm (Bv ns)=true:=by
 unfold Bv
 rw[imm]
 exact Ly (λ_=>by simp [imm]) ns
section
variable{K:PySem.W.Frag}{H H':Hp}
mutual
theorem RdF.imm:∀{v:V} {d:Ad} {F:List Addr},RdF K H v d F->DL.imm d=true->F=[]
 | _,_,_,.non,_=>rfl
 | _,_,_,.bl b,_=>rfl
 | _,_,_,.int i,_=>rfl
 | _,_,_,.str x,_=>rfl
 | _,_,_,.lst h l hs,k=>by simp [DL.imm] at k
 | _,_,_,.tup h l hs,k=>RdFs.imm hs (by simpa [DL.imm] using k)
 | _,_,_,.dic h e hs,k=>by simp [DL.imm] at k
 | _,_,_,.dik h e hs,k=>by simp [DL.imm] at k
 | _,_,_,.dnm h e hs,k=>by simp [DL.imm] at k
theorem RdFs.imm:∀{v:List V} {d:List Ad} {F:List Addr},RdFs K H v d F->Dk d=true->F=[]
 | _,_,_,.nil,_=>rfl
 | _,_,_,.cons h hs,k=>by
  rw[Dk,Eg] at k
  rw[RdF.imm h k.1,RdFs.imm hs k.2]
  rfl
end
end
inductive Md where
 | pk | sh | tp | ow
 deriving DecidableEq
inductive DV where
 | un
 | dat (m:Md) (d:Ad)
 | drw
 | dT (kvs:List (List Wf×Ad))
 | val (v:V)
 | scr (ns:List Int)
 | acc (ds:List Ad)
 | grd (Hc:Hp)
 | tpl (xs:List V)
structure DS where
 sl:List DV
 n:Nat
structure Ent where
 v:Option V
 x:DV
 F:List Addr
def Lx:DV->Bool
 | .dat .pk _=>true
 | _=>false
def C3:DV->Bool
 | .drw=>true
 | _=>false
def A4:DV->Bool
 | .drw=>true
 | .acc _=>true
 | .dT _=>true
 | .grd _=>true
 | _=>false
def cells(e:Ent):List Addr:=match e.x with
 | .dat .ow _=>e.F
 | .dat .tp _=>e.F.take 1
 | .drw=>e.F
 | .dT _=>e.F
 | .acc _=>e.F.take 1
 | .grd _=>e.F
 | _=>[]
theorem Gf(e:Ent):∀a∈cells e,a∈e.F:=by
 obtain ⟨v,x,F⟩:=e
 intro a h
 cases x with
 | un=>exact nomatch h
 | val _=>exact nomatch h
 | scr _=>exact nomatch h
 | drw=>exact h
 | dT _=>exact h
 | grd _=>exact h
 | tpl _=>exact nomatch h
 | acc _=>exact (Hq _ _).subset h
 | dat m d =>
  cases m with
  | pk=>exact nomatch h
  | sh=>exact nomatch h
  | tp=>exact (Hq _ _).subset h
  | ow=>exact h
def Sg(e f:Ent):Prop:=((Lx f.x=false\/A4 e.x=true)->∀a∈cells e,a∉f.F)/\((Lx e.x=false\/A4 f.x=true)->∀a∈cells f,a∉e.F)
theorem Sg.symm{e f:Ent}(h:Sg e f):Sg f e:=⟨h.2,h.1⟩
def Hv(K:PySem.W.Frag)(H:Hp)(n:Nat)(e:Ent):Prop:=match e.x with
 | .un=>e.F=[]
 | .dat m d=>∃v,e.v=some v/\RdF K H v d e.F/\(m=.ow->e.F.Nodup)/\(m=.tp->∀a l,e.F=a::l->a∉l)
 | .drw=>∃dr c k f,e.v=some (.ref dr)/\e.F=[dr]/\Zl H dr c k f/\0<=k/\k<=(n:Int)
 | .dT kvs=>∃a ks,e.v=some (.ref a)/\e.F=[a]/\H a=some (.dT ks)/\ks.map (·.1)=kvs.map (·.1)/\RdFs K H (ks.map (·.2)) (kvs.map (·.2)) []
 | .val v=>e.v=some v/\e.F=[]
 | .scr ns=>∃a,e.v=some (.ref a)/\e.F=[]/\KL K H a (ns.map V.int)/\ns.length<=63
 | .acc ds=>∃a xs G,e.v=some (.ref a)/\e.F=a::G/\H a=some (.lst xs)/\RdFs K H xs ds G/\ds.length<=Aw/\a∉G
 | .grd Hc=>∀a∈e.F,∃o,Hc a=some o/\H a=some o
 | .tpl xs=>∃t,e.v=some (.ref t)/\H t=some (.tup xs)/\e.F=[]
structure At(K:PySem.W.Frag)(H0:Hp)(X:Addr->Prop)(n:Nat)(E:List Ent)(H:Hp):Prop where
 ok:∀e∈E,Hv K H n e
 sep:E.Pairwise Sg
 new:∀e∈E,∀a∈cells e,H0 a=none\/(X a/\C3 e.x=true)
 same:∀b o,¬ X b->H0 b=some o->H b=some o
 dom:∀b o,H0 b=some o->∃o',H b=some o'
 xd:∀b,X b->H0 b≠none/\∃c k f,Zl H b c k f/\0<=k/\k<=(n:Int)
section
variable{K:PySem.W.Frag}{H0 H H':Hp}{X:Addr->Prop}{n n':Nat}{E E' S T:List Ent}{e f:Ent}
theorem At.perm(h:At K H0 X n E H)(p:E.Perm E'):At K H0 X n E' H :=
 ⟨λe he=>h.ok e (p.mem_iff.mpr he),(p.pairwise_iff λ{a b}=>Sg.symm).mp h.sep,λe he=>h.new e (p.mem_iff.mpr he),h.same,h.dom,h.xd⟩
theorem At.sub(h:At K H0 X n E H)(p:E'.Sublist E):At K H0 X n E' H :=
 ⟨λe he=>h.ok e (p.subset he),h.sep.sublist p,λe he=>h.new e (p.subset he),h.same,h.dom,h.xd⟩
theorem At.drop(h:At K H0 X n (S++e::T) H):At K H0 X n (S++T) H:=h.sub ((Dn S).append (Dd _ _))
theorem pO:(S++e::T).Perm (e::(S++T)):=Kv
theorem At.mid(h:At K H0 X n (S++e::T) H):At K H0 X n (e::(S++T)) H:=h.perm pO
theorem At.tomid(h:At K H0 X n (e::(S++T)) H):At K H0 X n (S++e::T) H:=h.perm pO.symm
theorem Hv.dom(h:Hv K H n e):∀a∈e.F,∃o,H a=some o:=by
 obtain ⟨v,x,F⟩:=e
 intro a ha
 cases x with
 | un=>rw[show F=[] from h] at ha; cases ha
 | val _=>rw[show F=[] from h.2] at ha; cases ha
 | scr _ =>
  obtain ⟨_,_,hF,_⟩:=h
  rw[show F=[] from hF] at ha; cases ha
 | dat m d =>
  obtain ⟨w,_,h,_⟩:=h
  obtain ⟨xs,z⟩:=h.dom a ha
  exact ⟨_,z⟩
 | drw =>
  obtain ⟨dr,c,k,f,_,hF,h,_⟩:=h
  rw[show F=[dr] from hF] at ha
  rw[Am.mp ha]
  exact ⟨_,h⟩
 | grd Hc =>
  obtain ⟨o,_,z⟩:=h a ha
  exact ⟨o,z⟩
 | tpl xs =>
  obtain ⟨_,_,_,hF⟩:=h
  rw[show F=[] from hF] at ha; cases ha
 | dT kvs =>
  obtain ⟨b,ks,_,hF,h,_⟩:=h
  rw[show F=[b] from hF] at ha
  rw[Am.mp ha]
  exact ⟨_,h⟩
 | acc ds =>
  obtain ⟨b,ks,G,_,hF,h,hr,_⟩:=h
  rw[show F=b::G from hF] at ha
  rcases Ai.mp ha with rfl | ha
  ·exact ⟨_,h⟩
  ·obtain ⟨xs,z⟩:=hr.dom a ha
   exact ⟨_,z⟩
theorem Hv.kp(h:Hv K H n e)(k:Kp e.F H H')(hn:n<=n'):Hv K H' n' e:=by
 obtain ⟨v,x,F⟩:=e
 cases x with
 | un=>exact h
 | val _=>exact h
 | scr _ =>
  obtain ⟨a,h1,h2,h3,h4⟩:=h
  exact ⟨a,h1,h2,h3.kp k,h4⟩
 | dat m d =>
  obtain ⟨w,h1,h2,h3⟩:=h
  exact ⟨w,h1,h2.kp k,h3⟩
 | drw =>
  obtain ⟨dr,c,kk,f,h1,hF,h2,h3,h4⟩:=h
  have hF':F=[dr]:=hF
  subst hF'
  exact ⟨dr,c,kk,f,h1,rfl,k _ _ h2 (.inl Aa),h3,by omega⟩
 | tpl xs =>
  obtain ⟨t,h1,h2,h3⟩:=h
  exact ⟨t,h1,k _ _ h2 (.inr (.inl ⟨_,rfl⟩)),h3⟩
 | grd Hc =>
  intro a ha
  obtain ⟨o,h1,h2⟩:=h a ha
  exact ⟨o,h1,k _ _ h2 (.inl ha)⟩
 | dT kvs =>
  obtain ⟨b,ks,h1,hF,h2,h3,h4⟩:=h
  have hF':F=[b]:=hF
  subst hF'
  exact ⟨b,ks,h1,rfl,k _ _ h2 (.inl Aa),h3,h4.kp (k.sub λ_ z=>nomatch z)⟩
 | acc ds =>
  obtain ⟨b,ks,G,h1,hF,h2,h3,h4⟩:=h
  have hF':F=b::G:=hF
  subst hF'
  exact ⟨b,ks,G,h1,rfl,k _ _ h2 (.inl Aa),h3.kp (k.sub λ_ z=>Ab _ z),h4⟩
theorem At.grow(h:At K H0 X n E H)(s:Yc H H')(hn:n<=n'):At K H0 X n' E H' :=
 ⟨λe he=>(h.ok e he).kp (Kp.of s) hn,h.sep,h.new,λb o nx e=>s _ _ (h.same b o nx e),λb o e=>let ⟨o',q⟩:=h.dom b o e; ⟨o',s _ _ q⟩,λb hb=>let ⟨z,c,k,f,h1,h2,h3⟩:=h.xd b hb; ⟨z,c,k,f,s _ _ h1,h2,by omega⟩⟩
theorem At.free(h:At K H0 X n E H){a:Addr}(ha:H a=none):∀e∈E,a∉e.F:=λe he z=>by
 obtain ⟨o,q⟩:=(h.ok e he).dom a z
 rw[ha] at q; cases q
theorem At.push(h:At K H0 X n E H)(ok:Hv K H n e)(sep:∀f∈E,Sg e f)(new:∀a∈cells e,H0 a=none\/(X a/\C3 e.x=true)):At K H0 X n (e::E) H :=
 ⟨λg hg=>by
  rcases Ai.mp hg with rfl | hg
  ·exact ok
  ·exact h.ok g hg,Ax.mpr ⟨sep,h.sep⟩,λg hg=>by
  rcases Ai.mp hg with rfl | hg
  ·exact new
  ·exact h.new g hg,h.same,h.dom,h.xd⟩
theorem At.new0(h:At K H0 X n E H){p:Addr}(hp:H p=none):H0 p=none:=by
 cases q:H0 p with
 | none=>rfl
 | some o =>
  obtain ⟨o',z⟩:=h.dom p o q
  rw[hp] at z; cases z
theorem wG{v:Option V}{m:Md}{d:Ad}:Sg ⟨v,.dat m d,[]⟩ f:=by
 refine ⟨λ_ a ha=>?_,λ_ a _=>Bw⟩
 have:=Gf _ a ha
 cases this
theorem At.pushI(h:At K H0 X n (S++T) H){v:V}{m:Md}{d:Ad}(r:RdF K H v d []):At K H0 X n (S++⟨some v,.dat m d,[]⟩::T) H :=
 (h.push (e:=⟨some v,.dat m d,[]⟩) ⟨v,rfl,r,λ_=>Do,λ_ a l z=>nomatch z⟩ (λf _=>wG) (λa ha=>nomatch Gf _ a ha)).tomid
def wk:Md->Md->Bool
 | _,.pk=>true
 | .pk,_=>false
 | _,.sh=>true
 | .sh,_=>false
 | _,.tp=>true
 | .tp,.ow=>false
 | .ow,.ow=>true
theorem gV{v:Option V}{m m':Md}{d:Ad}{F:List Addr}(w:wk m m'=true):∀a∈cells ⟨v,.dat m' d,F⟩,a∈cells ⟨v,.dat m d,F⟩:=by
 intro a ha
 cases m <;> cases m' <;> first | exact absurd w (by decide) | exact ha | exact absurd ha Bw | exact (Hq 1 F).subset ha
theorem nX{α:Type}{F:List α}(h:F.Nodup):∀a l,F=a::l->a∉l:=λa l e=>by
 subst e
 exact (Bt.mp h).1
theorem Hv.wk{v:Option V}{m m':Md}{d:Ad}{F:List Addr}(w:wk m m'=true)(h:Hv K H n ⟨v,.dat m d,F⟩):Hv K H n ⟨v,.dat m' d,F⟩:=by
 obtain ⟨u,h1,h2,h3,h4⟩:=h
 refine ⟨u,h1,h2,λe=>?_,λe=>?_⟩
 ·subst e
  cases m <;> first | exact absurd w (by decide) | exact h3 rfl
 ·subst e
  cases m <;> first | exact absurd w (by decide) | exact h4 rfl | exact nX (h3 rfl)
theorem Sg.wk{v:Option V}{m m':Md}{d:Ad}{F:List Addr}(w:wk m m'=true)(h:Sg ⟨v,.dat m d,F⟩ f):Sg ⟨v,.dat m' d,F⟩ f:=by
 refine ⟨λhp a ha=>?_,λhp a ha=>?_⟩
 ·rcases hp with hp | hp
  ·exact h.1 (.inl hp) a (gV w a ha)
  ·cases hp
 ·rcases hp with hp | hp
  ·refine h.2 (.inl ?_) a ha
   cases m <;> cases m' <;> first | rfl | exact absurd w (by decide) | exact absurd hp (by show ¬ (true=false); decide)
  ·exact h.2 (.inr hp) a ha
theorem At.wk{v:Option V}{m m':Md}{d:Ad}{F:List Addr}(w:wk m m'=true)(h:At K H0 X n (⟨v,.dat m d,F⟩::E) H):At K H0 X n (⟨v,.dat m' d,F⟩::E) H:=by
 have hs:=Ax.mp h.sep
 refine (h.sub (Dd _ _)).push ((h.ok _ Aa).wk w) (λf hf=>(hs.1 f hf).wk w) λa ha=>?_
 rcases h.new _ Aa a (gV w a ha) with z | z
 ·exact .inl z
 ·cases z.2
end
abbrev DE:=DS->(DV->DS->Prop)->Prop
abbrev DT:=DS->(Bool->DS->Prop)->Prop
abbrev DA:=DS->(List DV->DS->Prop)->Prop
structure DEnds where
 nx:DS->Prop
 rt:DV->DS->Prop
 bk:DS->Prop:=λ_=>False
 ct:DS->Prop:=λ_=>False
abbrev DB:=DEnds->DS->Prop
abbrev DG:=DV->DS->(DS->Prop)->Prop
abbrev uF:=List DV->DS->(DS->Prop)->Prop
def vs(S:List Ent):L2.St:=S.map Ent.v
def Sl(S:List Ent)(δ:DS):Prop:=S.map Ent.x=δ.sl
section
variable(K:PySem.W.Frag)
def LE(de:DE):TE:=λσ H Q=>∃(H0:Hp) (X:Addr->Prop) (S T:List Ent) (δ:DS) (P:DV->DS->Prop),vs S=σ/\Sl S δ/\At K H0 X δ.n (S++T) H/\de δ P /\
 ∀x δ' v F S' H',vs S'=σ->Sl S' δ'->At K H0 X δ'.n (S'++⟨some v,x,F⟩::T) H'->P x δ'->Q v H'
def LT(dt:DT):TT:=λσ H Q=>∃(H0:Hp) (X:Addr->Prop) (S T:List Ent) (δ:DS) (P:Bool->DS->Prop),vs S=σ/\Sl S δ/\At K H0 X δ.n (S++T) H/\dt δ P /\
 ∀b δ' S' H',vs S'=σ->Sl S' δ'->At K H0 X δ'.n (S'++T) H'->P b δ'->Q b H'
def LA(da:DA):TA:=λσ H Q=>∃(H0:Hp) (X:Addr->Prop) (S T:List Ent) (δ:DS) (P:List DV->DS->Prop),vs S=σ/\Sl S δ/\At K H0 X δ.n (S++T) H/\da δ P /\
 ∀xs δ' As us S' H',vs S'=σ->Sl S' δ'->As.map Ent.x=xs->As.map Ent.v=us.map some->At K H0 X δ'.n (S'++(As++T)) H'->P xs δ'->Q us H'
def LS(db:DB):TS:=λD σ H=>∃(H0:Hp) (X:Addr->Prop) (S T:List Ent) (δ:DS) (P:DEnds),vs S=σ/\Sl S δ/\(∀e∈T,Lx e.x=false)/\At K H0 X δ.n (S++T) H/\db P δ /\
 (∀δ' S' H',Sl S' δ'->At K H0 X δ'.n (S'++T) H'->P.nx δ'->D.nx (vs S') H') /\
 (∀x δ' v F S' H',Sl S' δ'->At K H0 X δ'.n (S'++⟨some v,x,F⟩::T) H'->P.rt x δ'->D.rt v H') /\
 (∀δ' S' H',Sl S' δ'->At K H0 X δ'.n (S'++T) H'->P.bk δ'->D.bk (vs S') H') /\
 (∀δ' S' H',Sl S' δ'->At K H0 X δ'.n (S'++T) H'->P.ct δ'->D.ct (vs S') H')
def LG(dg:DG):TG:=λv σ H Q=>∃(H0:Hp) (X:Addr->Prop) (S T:List Ent) (δ:DS) (x:DV) (F:List Addr) (P:DS->Prop),vs S=σ/\Sl S δ/\At K H0 X δ.n (S++⟨some v,x,F⟩::T) H/\dg x δ P /\
 ∀δ' S' H',Sl S' δ'->At K H0 X δ'.n (S'++T) H'->P δ'->Q (vs S') H'
def W1(dg:uF):vJ:=λus σ H Q=>∃(H0:Hp) (X:Addr->Prop) (S T As:List Ent) (δ:DS) (P:DS->Prop),vs S=σ/\Sl S δ/\As.map Ent.v=us.map some/\At K H0 X δ.n (S++(As++T)) H/\dg (As.map Ent.x) δ P /\
 ∀δ' S' H',Sl S' δ'->At K H0 X δ'.n (S'++T) H'->P δ'->Q (vs S') H'
end
abbrev Ei(X:Cx)(e:Expr)(de:DE):Prop:=PE X e (LE X.K de)
abbrev dS(X:Cx)(e:Expr)(dt:DT):Prop:=PT X e (LT X.K dt)
abbrev x4(X:Cx)(e:Expr)(dt:DT):Prop:=PW X e (LT X.K dt)
abbrev oW(X:Cx)(es:List Expr)(da:DA):Prop:=PA X es (LA X.K da)
abbrev lJ(X:Cx)(st:Stmt)(db:DB):Prop:=PS X st (LS X.K db)
abbrev Zd(X:Cx)(st:List Stmt)(db:DB):Prop:=jI X st (LS X.K db)
abbrev M1(X:Cx)(tg:Expr)(dg:DG):Prop:=PG X tg (LG X.K dg)
abbrev vO(X:Cx)(tg:List Expr)(dg:uF):Prop:=i7 X tg (W1 X.K dg)
theorem PE.imp{X:Cx}{e:Expr}{t t':TE}(h:PE X e t)(k:∀σ H Q,t' σ H Q->t σ H Q):PE X e t':=λpins s σ H Q I q=>h pins s σ H Q I (k σ H Q q)
theorem PT.imp{X:Cx}{e:Expr}{t t':TT}(h:PT X e t)(k:∀σ H Q,t' σ H Q->t σ H Q):PT X e t':=λpins s σ H Q I q=>h pins s σ H Q I (k σ H Q q)
theorem PW.imp{X:Cx}{e:Expr}{t t':TT}(h:PW X e t)(k:∀σ H Q,t' σ H Q->t σ H Q):PW X e t':=λwh pins s σ H Q I q=>h wh pins s σ H Q I (k σ H Q q)
theorem PA.imp{X:Cx}{e:List Expr}{t t':TA}(h:PA X e t)(k:∀σ H Q,t' σ H Q->t σ H Q):PA X e t':=λpos pins s σ H Q I q=>h pos pins s σ H Q I (k σ H Q q)
theorem PG.imp{X:Cx}{e:Expr}{t t':TG}(h:PG X e t)(k:∀v σ H Q,t' v σ H Q->t v σ H Q):PG X e t':=λpins s σ H v u Q I r q=>h pins s σ H v u Q I r (k v σ H Q q)
theorem i7.imp{X:Cx}{e:List Expr}{t t':vJ}(h:i7 X e t)(k:∀v σ H Q,t' v σ H Q->t v σ H Q):i7 X e t':=λpins s σ H v u Q I r q=>h pins s σ H v u Q I r (k v σ H Q q)
section
variable{K:PySem.W.Frag}{H:Hp}{v:V}{F:List Addr}
theorem RdF.int_inv{i:Int}(h:RdF K H v (.int i) F):v=.int i/\F=[]:=by cases h; exact ⟨rfl,rfl⟩
theorem RdF.bl_inv{i:Bool}(h:RdF K H v (.bool i) F):v=.bl i/\F=[]:=by cases h; exact ⟨rfl,rfl⟩
theorem RdF.str_inv{i:Str}(h:RdF K H v (.str i) F):v=.str i/\F=[]:=by cases h; exact ⟨rfl,rfl⟩
theorem RdF.list_inv{ds:List Ad}(h:RdF K H v (.list ds) F):∃a xs G,v=.ref a/\H a=some (.lst xs)/\RdFs K H xs ds G/\F=a::G/\ds.length<=Aw:=by
 cases h with
 | lst h l hs=>exact ⟨_,_,_,rfl,h,hs,rfl,l⟩
theorem RdF.tup_inv{ds:List Ad}(h:RdF K H v (.tuple ds) F):∃a xs,v=.ref a/\H a=some (.tup xs)/\RdFs K H xs ds F/\ds.length<=Aw:=by
 cases h with
 | tup h l hs=>exact ⟨_,_,rfl,h,hs,l⟩
end
section
variable{K:PySem.W.Frag}{H0 H H':Hp}{X:Addr->Prop}{n:Nat}{E S T:List Ent}{v:V}{m:Md}{d:Ad}{F:List Addr}
theorem At.told(h:At K H0 X n E H)(he:⟨some v,.dat m d,F⟩∈E):RdF K H v d F:=by
 obtain ⟨w,e1,h1,_⟩:=h.ok _ he
 cases e1
 exact h1
theorem mem_mid{e:Ent}:e∈S++e::T:=Ap _ Aa
theorem Fm{e f:Ent}:f∈S++e::f::T:=Ap _ (Ab _ Aa)
theorem At.drop2{e f:Ent}(h:At K H0 X n (S++e::f::T) H):At K H0 X n (S++T) H:=h.drop.drop
theorem At.dropL{As:List Ent}(h:At K H0 X n (S++(As++T)) H):At K H0 X n (S++T) H:=h.sub ((Dn S).append (Da As T))
end
def eO:Md->Md
 | .ow=>.pk
 | .tp=>.pk
 | m=>m
def B3(i:Nat):DE:=λδ P=>match δ.sl[i]? with
 | some (.dat m d)=>P (.dat (eO m) d) δ
 | _=>False
def dC(d:Ad):DE:=λδ P=>P (.dat .ow d) δ
theorem Io{S:List Ent}{δ:DS}{i:Nat}{x:DV}(h:Sl S δ)(e:δ.sl[i]? = some x):∃ent,S[i]? = some ent/\ent.x=x:=by
 unfold Sl at h
 rw[<- h,Cf] at e
 cases q:S[i]? with
 | none=>rw[q] at e; cases e
 | some ent=>rw[q] at e; exact ⟨ent,rfl,Ca e⟩
theorem Kk{S:List Ent}{i:Nat}{e:Ent}(h:S[i]? = some e):(vs S)[i]? = some e.v:=by
 unfold vs
 rw[Cf,h]
 rfl
theorem At.look{K:PySem.W.Frag}{H0 H:Hp}{X:Addr->Prop}{n:Nat}{S T:List Ent}{u:Option V}{v:V}{m:Md}{d:Ad}{F:List Addr}(h:At K H0 X n (S++T) H)(he:⟨u,.dat m d,F⟩∈S)(hu:u=some v):At K H0 X n (S++⟨some v,.dat (eO m) d,F⟩::T) H:=by
 subst hu
 obtain ⟨S1,S2,rfl⟩:=List.append_of_mem he
 have hp:((S1++⟨some v,.dat m d,F⟩::S2)++T).Perm (⟨some v,.dat m d,F⟩::(S1++(S2++T))):=by
  rw[Ea,Ew]
  exact Kv
 have h2:=h.perm hp
 have hs:=Ax.mp h2.sep
 refine (h.push (e:=⟨some v,.dat (eO m) d,F⟩) ?_ (λf hf=>?_) λa ha=>?_).tomid
 ·obtain ⟨w,e1,h1,_⟩:=h2.ok _ Aa
  refine ⟨w,e1,h1,λz=>?_,λz=>?_⟩ <;> cases m <;> cases z
 ·refine ⟨λ_ a ha=>?_,λhq a ha=>?_⟩
  ·cases m <;> exact nomatch ha
  ·rcases Ai.mp (hp.mem_iff.mp hf) with rfl | hf
   ·rcases hq with hq | hq
    ·cases m <;> first | cases hq; done | exact nomatch ha
    ·cases hq
   ·refine (hs.1 f hf).2 ?_ a ha
    rcases hq with hq | hq
    ·refine .inl ?_
     cases m <;> first | rfl | exact hq
    ·exact .inr hq
 ·cases m <;> exact nomatch ha
section
variable{X:Cx}{e:Expr}
theorem Ar{i:Nat}(h:PE X e (Ud i)):Ei X e (B3 i):=by
 refine PE.imp h λσ H Q h=>?_
 obtain ⟨H0,Y,S,T,δ,P,rfl,hS,hA,hd,k⟩:=h
 unfold B3 at hd
 split at hd
 ·rename_i m d e1
  obtain ⟨ent,e2,e3⟩:=Io hS e1
  have hm:ent∈S:=Be e2
  obtain ⟨u,x,F⟩:=ent
  subst e3
  obtain ⟨v,hv,_⟩:=hA.ok _ (An _ hm)
  refine ⟨v,by rw[Kk e2]; exact congrArg some hv,k _ δ v F S H rfl hS (hA.look hm hv) hd⟩
 ·exact hd.elim
theorem Xk{v:V}{d:Ad}(h:PE X e (tC v))(r:∀H,RdF X.K H v d []):Ei X e (dC d):=by
 refine PE.imp h λσ H Q h=>?_
 obtain ⟨H0,Y,S,T,δ,P,rfl,hS,hA,hd,k⟩:=h
 exact k _ δ v [] S H rfl hS (hA.pushI (r H)) hd
theorem Ci{i j pos}:Ei X (.Constant (.int i) j pos) (dC (.int i)):=Xk Ey λ_=>.int i
theorem Ox{i j pos}:Ei X (.Constant (.bool i) j pos) (dC (.bool i)):=Xk yN λ_=>.bl i
theorem Ec{i j pos}:Ei X (.Constant (.str i) j pos) (dC (.str i)):=Xk A8 λ_=>.str i
end
def E1(de:DE):DE:=λδ P=>de δ λx δ'=>match x with
 | .dat _ d=>imm d=true/\P (.dat .ow d) δ'
 | _=>False
theorem Xy{X:Cx}{e:Expr}{de:DE}(h:Ei X e de):Ei X e (E1 de):=by
 refine PE.imp h λσ H Q h=>?_
 obtain ⟨H0,Y,S,T,δ,P,rfl,hS,hA,hd,k⟩:=h
 refine ⟨H0,Y,S,T,δ,_,rfl,hS,hA,hd,λx δ' v F S' H' e1 e2 hA' p=>?_⟩
 cases x with
 | dat m d =>
  have r:=hA'.told mem_mid
  obtain rfl:=r.imm p.1
  exact k _ δ' v [] S' H' e1 e2 (hA'.drop.pushI r) p.2
 | _=>exact p.elim
def sV(i:Nat):DE:=λδ P=>match δ.sl[i]? with
 | some (.dat m d)=>P (.dat m d) ⟨δ.sl.set i .un,δ.n⟩
 | _=>False
theorem Xm{α:Type}:∀{l:List α} {i:Nat} {x y:α},l[i]? = some x->(y::l).Perm (x::l.set i y)
 | [],i,x,y,h=>by simp at h
 | z::l,0,x,y,h=>by
  simp at h
  subst h
  exact Ge _ _ _
 | z::l,i+1,x,y,h=>by
  have ih:=Xm (l:=l) (i:=i) (x:=x) (y:=y) (by simpa using h)
  rw[List.set_cons_succ]
  exact (Ge z y l).trans ((ih.cons z).trans (Ge x z _))
theorem Wc{X:Cx}{e:Expr}{i:Nat}(h:PE X e (Ud i)):Ei X e (sV i):=by
 refine PE.imp h λσ H Q h=>?_
 obtain ⟨H0,Y,S,T,δ,P,rfl,hS,hA,hd,k⟩:=h
 unfold sV at hd
 split at hd
 ·rename_i m d e1
  obtain ⟨ent,e2,e3⟩:=Io hS e1
  have hm:ent∈S:=Be e2
  obtain ⟨u,x,F⟩:=ent
  subst e3
  obtain ⟨v,hv,hv2⟩:=hA.ok _ (An _ hm)
  have hv':u=some v:=hv
  subst hv'
  refine ⟨v,by rw[Kk e2],k _ _ v F (S.set i ⟨some v,.un,[]⟩) H ?_ ?_ ?_ hd⟩
  ·unfold vs
   rw[Em]
   apply Kc
   intro j
   rw[Hr]
   split
   ·rename_i hij
    subst hij
    rw[Cf,e2]
    split
    ·rfl
    ·rename_i hj
     rw[Ae] at hj
     exact absurd (Aq.mp e2).1 hj
   ·rfl
  ·unfold Sl at hS ⊢
   rw[Em,hS]
  ·have hp:=hA.push (e:=⟨some v,.un,[]⟩) (show Hv X.K H δ.n ⟨some v,.un,[]⟩ from rfl) (λf _=>⟨λ_ a ha=>(nomatch ha),λ_ a _=>Bw⟩) (λa ha=>(nomatch ha))
   have p1:(⟨some v,.un,[]⟩::(S++T)).Perm ((S.set i ⟨some v,.un,[]⟩)++⟨some v,.dat m d,F⟩::T):=by
    rw[<- Ew]
    exact ((Xm (y:=(⟨some v,.un,[]⟩ : Ent)) e2).append_right T).trans (by rw[Ew]; exact List.perm_middle.symm)
   exact hp.perm p1
 ·exact hd.elim
abbrev D2:=DV->DV->(DV->Prop)->Prop
def jX(K:PySem.W.Frag)(r:R2)(rd:D2):Prop:=∀(H0:Hp) (X:Addr->Prop) (n:Nat) (S T:List Ent) (x y:DV) (v w:V) (F G:List Addr) (H:Hp) (Q:VK) (P:DV->Prop),
 At K H0 X n (S++⟨some w,y,G⟩::⟨some v,x,F⟩::T) H->rd x y P->(∀z u F' H',At K H0 X n (S++⟨some u,z,F'⟩::T) H'->P z->Q u H')->r v w H Q
def Zo(rd:D2)(da db:DE):DE:=λδ P=>da δ λx δ1=>db δ1 λy δ2=>rd x y λz=>P z δ2
theorem kK{K:PySem.W.Frag}{r:R2}{rd:D2}{da db:DE}(o:jX K r rd):∀σ H Q,LE K (Zo rd da db) σ H Q->L4 r (LE K da) (LE K db) σ H Q:=by
 intro σ H Q h
 obtain ⟨H0,Y,S,T,δ,P,rfl,hS,hA,hd,k⟩:=h
 refine ⟨H0,Y,S,T,δ,_,rfl,hS,hA,hd,λx δ1 v F S1 H1 e1 e2 hA1 p1=>?_⟩
 refine ⟨H0,Y,S1,⟨some v,x,F⟩::T,δ1,_,e1,e2,hA1,p1,λy δ2 w G S2 H2 e3 e4 hA2 p2=>?_⟩
 exact o H0 Y δ2.n S2 T x y v w F G H2 Q _ hA2 p2 λz u F' H' hA3 p3=>k z δ2 u F' S2 H' e3 e4 hA3 p3
section
variable{X:Cx}{a b:Expr}{da db:DE}{pos:Pos}{r:R2}{rd:D2}
theorem Xs{op:Operator}(ho:Uj X (Iz op) r)(o:jX X.K r rd)(ha:Ei X a da)(hb:Ei X b db):Ei X (.BinOp a op b pos) (Zo rd da db):=PE.imp (Iu ho ha hb) (kK o)
theorem t9{op:CmpOp}(ho:Uj X (Hf op) r)(o:jX X.K r rd)(ha:Ei X a da)(hb:Ei X b db)(hm:Ff op b=false):Ei X (.Compare a [op] [b] pos) (Zo rd da db):=PE.imp (mL ho ha hb hm) (kK o)
theorem N3(ho:vN X r)(o:jX X.K r rd)(ha:Ei X a da)(hb:Ei X b db)(hs:bV b):Ei X (.Subscript a b pos) (Zo rd da db):=PE.imp (Yl ho ha hb hs) (kK o)
end
def M0(C:Int->Int->Prop)(g:Int->Int->Ad):D2:=λx y P=>match x,y with
 | .dat _ (.int i),.dat _ (.int j)=>C i j/\P (.dat .ow (g i j))
 | _,_=>False
def eJ(g:Int->Int->Ad):D2:=λx y P=>match x,y with
 | .dat _ (.int i),.dat _ (.int j)=>P (.dat .ow (g i j))
 | _,_=>False
section
variable{K:PySem.W.Frag}
theorem J0{C:Int->Int->Prop}{g:Int->Int->V}{g':Int->Int->Ad}(h:∀i j H,RdF K H (g i j) (g' i j) []):jX K (rI C g) (M0 C g'):=by
 intro H0 X n S T x y v w F G H Q P hA hd k
 unfold M0 at hd
 split at hd
 ·obtain ⟨rfl,_⟩:=(hA.told Fm).int_inv
  obtain ⟨rfl,_⟩:=(hA.told mem_mid).int_inv
  exact ⟨_,_,rfl,rfl,hd.1,k _ _ [] H (hA.drop2.pushI (h _ _ H)) hd.2⟩
 ·exact hd.elim
theorem eX{g:Int->Int->V}{g':Int->Int->Ad}(h:∀i j H,RdF K H (g i j) (g' i j) []):jX K (xO g) (eJ g'):=by
 intro H0 X n S T x y v w F G H Q P hA hd k
 unfold eJ at hd
 split at hd
 ·obtain ⟨rfl,_⟩:=(hA.told Fm).int_inv
  obtain ⟨rfl,_⟩:=(hA.told mem_mid).int_inv
  exact ⟨_,_,rfl,rfl,k _ _ [] H (hA.drop2.pushI (h _ _ H)) hd⟩
 ·exact hd.elim
end
abbrev rdAdd:D2:=eJ λi j=>.int (i+j)
abbrev rdSub:D2:=eJ λi j=>.int (i - j)
abbrev rdDiv:D2:=M0 x5 λi j=>.int (i / j)
abbrev rdMod:D2:=M0 (λ_ j=>0<j) λi j=>.int (i % j)
abbrev rdLt:D2:=eJ λi j=>.bool (decide (i<j))
abbrev rdGt:D2:=eJ λi j=>.bool (decide (j<i))
abbrev rdGe:D2:=eJ λi j=>.bool (decide (j<=i))
section
variable{X:Cx}{a b:Expr}{da db:DE}{pos:Pos}
theorem Uq(ha:Ei X a da)(hb:Ei X b db):Ei X (.BinOp a .Add b pos) (Zo rdAdd da db):=Xs Wt (eX λ_ _ _=>.int _) ha hb
theorem o6(ha:Ei X a da)(hb:Ei X b db):Ei X (.BinOp a .Sub b pos) (Zo rdSub da db):=Xs h9 (eX λ_ _ _=>.int _) ha hb
theorem Od(ha:Ei X a da)(hb:Ei X b db):Ei X (.BinOp a .FloorDiv b pos) (Zo rdDiv da db):=Xs bT (J0 λ_ _ _=>.int _) ha hb
theorem Fz(ha:Ei X a da)(hb:Ei X b db):Ei X (.BinOp a .Mod b pos) (Zo rdMod da db):=Xs Uk (J0 λ_ _ _=>.int _) ha hb
end
def gB(ne:Bool):D2:=λx y P=>match x,y with
 | .dat _ d,.dat _ e=>d.depth<=60/\e.depth<=60/\P (.dat .ow (.bool (match ne with | true=>!Dh d e | false=>Dh d e)))
 | _,_=>False
def pP(ne:Bool):D2:=λx y P=>match x,y with
 | .dat _ d,.dat _ (.list es)=>Bb es<=60/\d.depth<=60/\P (.dat .ow (.bool (match ne with | true=>!(es.any λe=>Dh e d) | false=>es.any λe=>Dh e d)))
 | .dat _ d,.dat _ (.tuple es)=>Bb es<=60/\d.depth<=60/\P (.dat .ow (.bool (match ne with | true=>!(es.any λe=>Dh e d) | false=>es.any λe=>Dh e d)))
 | _,_=>False
section
variable{K:PySem.W.Frag}
theorem C9:jX K (E2 K) (gB false):=by
 intro H0 X n S T x y v w F G H Q P hA hd k
 unfold gB at hd
 split at hd
 ·exact ⟨_,_,(hA.told Fm).rd (Bm hd.1 (by decide)),(hA.told mem_mid).rd (Bm hd.2.1 (by decide)),hd.1,k _ _ [] H (hA.drop2.pushI (.bl _)) hd.2.2⟩
 ·exact hd.elim
theorem J2:jX K (J6 K) (gB true):=by
 intro H0 X n S T x y v w F G H Q P hA hd k
 unfold gB at hd
 split at hd
 ·exact ⟨_,_,(hA.told Fm).rd (Bm hd.1 (by decide)),(hA.told mem_mid).rd (Bm hd.2.1 (by decide)),hd.1,k _ _ [] H (hA.drop2.pushI (.bl _)) hd.2.2⟩
 ·exact hd.elim
theorem G3{ne:Bool}:jX K (w5 K ne) (pP ne):=by
 intro H0 X n S T x y v w F G H Q P hA hd k
 unfold pP at hd
 split at hd
 ·obtain ⟨a,xs,G',rfl,hq,hs,_,_⟩:=(hA.told mem_mid).list_inv
  refine ⟨a,xs,_,_,rfl,.inl (Oy.of hq),(hA.told Fm).rd (Bm hd.2.1 (by decide)),hs.rd (Bm hd.1 (by decide)),hd.1,?_⟩
  cases ne with
  | true=>exact k _ _ [] H (hA.drop2.pushI (.bl _)) hd.2.2
  | false=>exact k _ _ [] H (hA.drop2.pushI (.bl _)) hd.2.2
 ·obtain ⟨a,xs,rfl,hq,hs,_⟩:=(hA.told mem_mid).tup_inv
  refine ⟨a,xs,_,_,rfl,.inr (To.of hq),(hA.told Fm).rd (Bm hd.2.1 (by decide)),hs.rd (Bm hd.1 (by decide)),hd.1,?_⟩
  cases ne with
  | true=>exact k _ _ [] H (hA.drop2.pushI (.bl _)) hd.2.2
  | false=>exact k _ _ [] H (hA.drop2.pushI (.bl _)) hd.2.2
 ·exact hd.elim
end
def Oc:Md->Md
 | .ow=>.ow
 | .tp=>.sh
 | m=>m
theorem At.part{K:PySem.W.Frag}{H0 H:Hp}{X:Addr->Prop}{n:Nat}{S T:List Ent}{v w:V}{m:Md}{d e:Ad}{F G:List Addr}(h:At K H0 X n (S++⟨some v,.dat m d,F⟩::T) H)(r:RdF K H w e G)(hG:G.Sublist F):At K H0 X n (S++⟨some w,.dat (Oc m) e,G⟩::T) H:=by
 have h2:=h.mid
 have hs:=Ax.mp h2.sep
 obtain ⟨v',e1,h1,hn,ht⟩:=h2.ok _ Aa
 have cs:∀a∈cells ⟨some w,.dat (Oc m) e,G⟩,a∈cells ⟨some v,.dat m d,F⟩:=λa ha=>by
  cases m with
  | ow=>exact hG.subset ha
  | tp=>exact nomatch ha
  | sh=>exact nomatch ha
  | pk=>exact nomatch ha
 refine (h.drop.push (e:=⟨some w,.dat (Oc m) e,G⟩) ⟨w,rfl,r,λz=>?_,λz=>?_⟩ (λf hf=>?_) λa ha=>?_).tomid
 ·cases m with
  | ow=>exact (hn rfl).sublist hG
  | _=>cases z
 ·cases m <;> cases z
 ·refine ⟨λhp a ha=>(hs.1 f hf).1 ?_ a (cs a ha),λhp a ha z=>(hs.1 f hf).2 ?_ a ha (hG.subset z)⟩
  ·rcases hp with hp | hp
   ·exact .inl hp
   ·cases hp
  ·rcases hp with hp | hp
   ·refine .inl ?_
    cases m <;> first | rfl | exact hp
   ·exact .inr hp
 ·rcases h2.new _ Aa a (cs a ha) with z | z
  ·exact .inl z
  ·cases z.2
def tT:D2:=λx y P=>match x,y with
 | .dat m (.list ds),.dat _ (.int i)=>∃d,Sm ds i=some d/\P (.dat (Oc m) d)
 | .dat m (.tuple ds),.dat _ (.int i)=>∃d,Sm ds i=some d/\P (.dat (Oc m) d)
 | .dat _ (.str z),.dat _ (.int i)=>z.length<=Aw/\∃c,Sm z.cps.toList i=some c/\P (.dat .ow (.str ⟨#[c]⟩))
 | _,_=>False
theorem rA{K:PySem.W.Frag}{H:Hp}{xs:List V}{ds:List Ad}{F:List Addr}{i:Int}{d:Ad}(r:RdFs K H xs ds F)(h:Sm ds i=some d):∃x G,Sm xs i=some x/\RdF K H x d G/\G.Sublist F:=by
 unfold Sm at h ⊢
 rw[r.len]
 cases e:pE ds.length i with
 | none=>rw[e] at h; cases h
 | some j =>
  rw[e] at h
  exact r.get h
theorem K0{K:PySem.W.Frag}:jX K (U5 K) tT:=by
 intro H0 X n S T x y v w F G H Q P hA hd k
 unfold tT at hd
 split at hd
 ·obtain ⟨d,hi,p⟩:=hd
  obtain ⟨rfl,_⟩:=(hA.told mem_mid).int_inv
  have r:=hA.told Fm
  have hA':=hA.drop
  obtain ⟨a,xs,G0,rfl,hq,hs,hG,_⟩:=r.list_inv
  obtain ⟨x,G',h1,h2,h3⟩:=rA hs hi
  subst hG
  exact .inl ⟨_,_,_,_,rfl,rfl,Oy.of hq,h1,k _ _ G' H (hA'.part h2 (h3.trans (Dd _ _))) p⟩
 ·obtain ⟨d,hi,p⟩:=hd
  obtain ⟨rfl,_⟩:=(hA.told mem_mid).int_inv
  have r:=hA.told Fm
  have hA':=hA.drop
  obtain ⟨a,xs,rfl,hq,hs,_⟩:=r.tup_inv
  obtain ⟨x,G',h1,h2,h3⟩:=rA hs hi
  exact .inr (.inl ⟨_,_,_,_,rfl,rfl,To.of hq,h1,k _ _ G' H (hA'.part h2 h3) p⟩)
 ·obtain ⟨hz,c,hi,p⟩:=hd
  obtain ⟨rfl,_⟩:=(hA.told mem_mid).int_inv
  obtain ⟨rfl,_⟩:=(hA.told Fm).str_inv
  exact .inr (.inr ⟨_,_,_,rfl,rfl,hz,hi,k _ _ [] H (hA.drop2.pushI (.str _)) p⟩)
 ·exact hd.elim
theorem Ny{X:Cx}{a b:Expr}{da db:DE}{pos:Pos}(ha:Ei X a da)(hb:Ei X b db)(hs:bV b:=by intro _ _; rfl):Ei X (.Subscript a b pos) (Zo tT da db):=N3 zX K0 ha hb hs
def lU:Md->Md
 | .ow=>.ow
 | .pk=>.pk
 | _=>.tp
def fF(i:Bool)(m:Md)(ds:List Ad)(P:DV->Prop):Prop:=match i with
 | true=>Dk ds=true/\P (.dat .ow (.list ds))
 | false=>P (.dat (lU m) (.list ds))
def Zg(i:Bool)(m:Md)(ds:List Ad)(P:DV->Prop):Prop:=match i with
 | true=>Dk ds=true/\P (.dat .ow (.tuple ds))
 | false=>P (.dat (Oc m) (.tuple ds))
section
variable{K:PySem.W.Frag}{H0 H:Hp}{X:Addr->Prop}{n:Nat}{S T:List Ent}{v w:V}{m:Md}{d e:Ad}{F G:List Addr}{p:Addr}{xs:List V}{ds:List Ad}{P:DV->Prop}{i:Bool}
theorem At.newI(h:At K H0 X n (S++T) H)(r:RdFs K H xs ds G)(hi:Dk ds=true)(hz:ds.length<=Aw)(hp:H p=none)(m:Md):At K H0 X n (S++⟨some (.ref p),.dat m (.list ds),[p]⟩::T) (upd H p (.lst xs)):=by
 obtain rfl:=r.imm hi
 have s1:=Fu hp (.lst xs)
 have h1:=h.grow (n':=n) s1 (Ah _)
 refine (h1.push (e:=⟨some (.ref p),.dat m (.list ds),[p]⟩) ⟨_,rfl,.lst Dt hz (r.kp (Kp.of s1)),λ_=>Bt.mpr ⟨Bw,Do⟩,λ_ a l z=>by cases z; exact Bw⟩ (λf hf=>?_) λa ha=>?_).tomid
 ·have nf:=h.free hp f hf
  refine ⟨λ_ a ha z=>?_,λ_ a ha z=>?_⟩
  ·have:=Gf _ a ha
   rw[Am.mp this] at z
   exact nf z
  ·rw[Am.mp z] at ha
   exact nf (Gf _ _ ha)
 ·have:=Gf _ a ha
  rw[Am.mp this]
  exact .inl (h.new0 hp)
theorem At.newL(h:At K H0 X n (S++⟨some v,.dat m d,F⟩::T) H)(r:RdFs K H xs ds G)(hG:G.Sublist F)(hz:ds.length<=Aw)(hp:H p=none)(q:fF i m ds P):∃z F',At K H0 X n (S++⟨some (.ref p),z,F'⟩::T) (upd H p (.lst xs))/\P z:=by
 cases i with
 | true=>exact ⟨_,_,h.drop.newI r q.1 hz hp .ow,q.2⟩
 | false =>
  have q:P (.dat (lU m) (.list ds)):=q
  refine ⟨_,p::G,?_,q⟩
  have s1:=Fu hp (.lst xs)
  have h2:=h.mid
  have hs:=Ax.mp h2.sep
  obtain ⟨v',e1,_,hn,_⟩:=h2.ok _ Aa
  have h1:=h.drop.grow (n':=n) s1 (Ah _)
  have npF:p∉F:=h2.free hp _ Aa
  have npG:p∉G:=λz=>npF (hG.subset z)
  have cs:∀a∈cells ⟨some (.ref p),.dat (lU m) (.list ds),p::G⟩,a=p\/(a∈cells ⟨some v,.dat m d,F⟩):=λa ha=>by
   cases m with
   | ow =>
    rcases Ai.mp ha with z | z
    ·exact .inl z
    ·exact .inr (hG.subset z)
   | tp=>exact .inl (Am.mp ha)
   | sh=>exact .inl (Am.mp ha)
   | pk=>exact nomatch ha
  refine (h1.push (e:=⟨some (.ref p),.dat (lU m) (.list ds),p::G⟩) ⟨_,rfl,.lst Dt hz (r.kp (Kp.of s1)),λz=>?_,λz a l e=>?_⟩ (λf hf=>?_) λa ha=>?_).tomid
  ·cases m with
   | ow=>exact Bt.mpr ⟨npG,(hn rfl).sublist hG⟩
   | _=>cases z
  ·cases e
   exact npG
  ·have nf:=h2.free hp f (Ab _ hf)
   refine ⟨λhq a ha z=>?_,λhq a ha z=>?_⟩
   ·rcases cs a ha with rfl | hc
    ·exact nf z
    ·refine (hs.1 f hf).1 ?_ a hc z
     rcases hq with hq | hq
     ·exact .inl hq
     ·cases hq
   ·rcases Ai.mp z with rfl | z
    ·exact nf (Gf _ _ ha)
    ·refine (hs.1 f hf).2 ?_ a ha (hG.subset z)
     rcases hq with hq | hq
     ·refine .inl ?_
      cases m <;> first | rfl | exact hq
     ·exact .inr hq
  ·rcases cs a ha with rfl | hc
   ·exact .inl (h2.new0 hp)
   ·rcases h2.new _ Aa a hc with z | z
    ·exact .inl z
    ·cases z.2
theorem At.newT(h:At K H0 X n (S++⟨some v,.dat m d,F⟩::T) H)(r:RdFs K H xs ds G)(hG:G.Sublist F)(hz:ds.length<=Aw)(hp:H p=none)(q:Zg i m ds P):∃z F',At K H0 X n (S++⟨some (.ref p),z,F'⟩::T) (upd H p (.tup xs))/\P z:=by
 have s1:=Fu hp (.tup xs)
 have h1:=h.grow (n':=n) s1 (Ah _)
 cases i with
 | true =>
  obtain rfl:=r.imm q.1
  exact ⟨_,[],h1.drop.pushI (.tup Dt hz (r.kp (Kp.of s1))),q.2⟩
 | false=>exact ⟨_,G,h1.part (.tup Dt hz (r.kp (Kp.of s1))) hG,q⟩
theorem At.oldT{t:Addr}(h:At K H0 X n (S++⟨some v,.dat m d,F⟩::T) H)(r:RdFs K H xs ds G)(hG:G.Sublist F)(hz:ds.length<=Aw)(ht:H t=some (.tup xs))(q:Zg i m ds P):∃z F',At K H0 X n (S++⟨some (.ref t),z,F'⟩::T) H/\P z:=by
 cases i with
 | true =>
  obtain rfl:=r.imm q.1
  exact ⟨_,[],h.drop.pushI (.tup ht hz r),q.2⟩
 | false=>exact ⟨_,G,h.part (.tup ht hz r) hG,q⟩
end
def zO:DA:=λδ P=>P [] δ
def xS(de:DE)(da:DA):DA:=λδ P=>de δ λx δ1=>da δ1 λxs δ2=>P (x::xs) δ2
section
variable{X:Cx}{e:Expr}{es:List Expr}{de:DE}{da:DA}
theorem Av:oW X [] zO:=by
 refine PA.imp Jd λσ H Q h=>?_
 obtain ⟨H0,Y,S,T,δ,P,rfl,hS,hA,hd,k⟩:=h
 exact k [] δ [] [] S H rfl hS rfl rfl hA hd
theorem Ak(ha:Ei X e de)(hr:oW X es da)(hs:Bd (e::es) X.env=(false,eval e X.env)::Bd es X.env:=by rfl):oW X (e::es) (xS de da):=by
 refine PA.imp (Fh ha hr hs) λσ H Q h=>?_
 obtain ⟨H0,Y,S,T,δ,P,rfl,hS,hA,hd,k⟩:=h
 refine ⟨H0,Y,S,T,δ,_,rfl,hS,hA,hd,λx δ1 v F S1 H1 e1 e2 hA1 p1=>?_⟩
 refine ⟨H0,Y,S1,⟨some v,x,F⟩::T,δ1,_,e1,e2,hA1,p1,λxs δ2 As us S2 H2 e3 e4 ex eu hA2 p2=>?_⟩
 refine k (x::xs) δ2 (⟨some v,x,F⟩::As) (v::us) S2 H2 e3 e4 (by rw[Au,ex]) (by rw[Au,Au,eu]) (hA2.perm ((Lp S2).append ?_)) p2
 exact Kv
end
def allOw:List DV->Bool
 | []=>true
 | .dat .ow _::xs=>allOw xs
 | _=>false
def noPk:List DV->Bool
 | []=>true
 | .dat .pk _::_=>false
 | .dat _ _::xs=>noPk xs
 | _=>false
def datas:List DV->Option (List Ad)
 | []=>some []
 | .dat _ d::xs=>(datas xs).map (d::·)
 | _=>none
def pkMd(top:Md)(xs:List DV):Md:=if allOw xs=true then .ow else if noPk xs=true then top else .pk
section
variable{K:PySem.W.Frag}{H0 H:Hp}{X:Addr->Prop}{n:Nat}{S T As:List Ent}
theorem Xe:∀{As:List Ent} {us:List V} {ds:List Ad},As.map Ent.v=us.map some->datas (As.map Ent.x)=some ds->(∀e∈As,Hv K H n e)->RdFs K H us ds (As.flatMap Ent.F)
 | [],us,ds,e,h,_=>by
  cases us with
  | nil=>cases h; exact .nil
  | cons _ _=>cases e
 | ent::As,us,ds,e,h,ok=>by
  cases us with
  | nil=>cases e
  | cons u us =>
   rw[Au,Au] at e
   obtain ⟨e1,e2⟩:=Kd e
   obtain ⟨v,x,F⟩:=ent
   have e1':v=some u:=e1
   subst e1'
   rw[Au] at h
   cases x with
   | dat m d =>
    rw[show datas (DV.dat m d::As.map Ent.x)=(datas (As.map Ent.x)).map (d::·) from rfl] at h
    cases q:datas (As.map Ent.x) with
    | none=>rw[q] at h; cases h
    | some es =>
     rw[q] at h
     cases h
     obtain ⟨w,ew,rw',_⟩:=ok _ Aa
     cases ew
     rw[Kb]
     exact .cons rw' (Xe e2 q λf hf=>ok f (Ab _ hf))
   | _=>cases h
theorem Nk:∀{As:List Ent},allOw (As.map Ent.x)=true->∀e∈As,∃d,e.x=.dat .ow d
 | [],_,_,h=>nomatch h
 | ⟨v,x,F⟩::As,h,e,he=>by
  rw[Au] at h
  have hx:(∃d,x=.dat .ow d)/\allOw (As.map Ent.x)=true:=by
   cases x with
   | dat m d=>cases m <;> first | exact ⟨⟨d,rfl⟩,h⟩ | cases h
   | _=>cases h
  rcases Ai.mp he with rfl | he
  ·exact hx.1
  ·exact Nk hx.2 e he
theorem fM:∀{As:List Ent},noPk (As.map Ent.x)=true->∀e∈As,Lx e.x=false
 | [],_,_,h=>nomatch h
 | ⟨v,x,F⟩::As,h,e,he=>by
  rw[Au] at h
  have hx:Lx x=false/\noPk (As.map Ent.x)=true:=by
   cases x with
   | dat m d=>cases m <;> first | exact ⟨rfl,h⟩ | cases h
   | _=>cases h
  rcases Ai.mp he with rfl | he
  ·exact hx.1
  ·exact fM hx.2 e he
theorem Yi:∀{As:List Ent},(∀e∈As,∃d,e.x=.dat .ow d)->(∀e∈As,Hv K H n e)->As.Pairwise Sg->(As.flatMap Ent.F).Nodup
 | [],_,_,_=>Do
 | ent::As,ho,ok,hs=>by
  rw[Kb]
  have hc:=Ax.mp hs
  obtain ⟨v,x,F⟩:=ent
  obtain ⟨d,hd⟩:=ho _ Aa
  have hd':x=.dat .ow d:=hd
  subst hd'
  obtain ⟨w,_,_,hn,_⟩:=ok _ Aa
  refine Fg.mpr ⟨hn rfl,Yi (λe he=>ho e (Ab _ he)) (λe he=>ok e (Ab _ he)) hc.2,λa ha b hb z=>?_⟩
  subst z
  obtain ⟨f,hf,hb⟩:=Kw.mp hb
  obtain ⟨d',hd'⟩:=ho f (Ab _ hf)
  exact (hc.1 f hf).1 (.inl (by rw[hd']; rfl)) a ha hb
theorem At.pack{v:V}{d:Ad}{N:List Addr}{H':Hp}{top:Md}(h:At K H0 X n (S++(As++T)) H)(s:Yc H H')(hN:∀a∈N,H a=none)(ndN:N.Nodup)(htop:(top=.tp/\N.length=1)\/(top=.sh/\N=[]))(r:RdF K H' v d (N++As.flatMap Ent.F)):At K H0 X n (S++⟨some v,.dat (pkMd top (As.map Ent.x)) d,N++As.flatMap Ent.F⟩::T) H':=by
 have hp:(S++(As++T)).Perm (As++(S++T)):=by
  rw[<- Ea,<- Ea]
  exact mQ.append_right T
 have h2:=h.perm hp
 have hs:=Li.mp h2.sep
 have h1:=(h.dropL).grow (n':=n) s (Ah _)
 have nN:∀a∈N,∀f∈As++(S++T),a∉f.F:=λa ha f hf=>h2.free (hN a ha) f hf
 have nFlat:∀a∈N,a∉As.flatMap Ent.F:=λa ha z=>by
  obtain ⟨f,hf,z⟩:=Kw.mp z
  exact nN a ha f (An _ hf) z
 have cs:∀a∈cells ⟨some v,.dat (pkMd top (As.map Ent.x)) d,N++As.flatMap Ent.F⟩,a∈N\/(allOw (As.map Ent.x)=true/\∃f∈As,a∈cells f):=λa ha=>by
  unfold pkMd at ha
  by_cases hw:allOw (As.map Ent.x)=true
  ·rw[if_pos hw] at ha
   rcases Bg.mp ha with z | z
   ·exact .inl z
   ·obtain ⟨f,hf,z⟩:=Kw.mp z
    obtain ⟨d',hd'⟩:=Nk hw f hf
    refine .inr ⟨hw,f,hf,?_⟩
    unfold cells
    rw[hd']
    exact z
  ·rw[if_neg hw] at ha
   by_cases hk:noPk (As.map Ent.x)=true
   ·rw[if_pos hk] at ha
    rcases htop with ⟨rfl,h1⟩ | ⟨rfl,rfl⟩
    ·match N,h1,ha with
     | [b],_,ha=>exact .inl ha
    ·exact nomatch ha
   ·rw[if_neg hk] at ha
    exact nomatch ha
 refine (h1.push (e:=⟨some v,.dat (pkMd top (As.map Ent.x)) d,N++As.flatMap Ent.F⟩) ⟨_,rfl,r,λz=>?_,λz a l e=>?_⟩ (λf hf=>?_) λa ha=>?_).tomid
 ·have hw:allOw (As.map Ent.x)=true:=by
   unfold pkMd at z
   by_cases hw:allOw (As.map Ent.x)=true
   ·exact hw
   ·rw[if_neg hw] at z
    split at z
    ·rcases htop with ⟨rfl,_⟩ | ⟨rfl,_⟩ <;> cases z
    ·cases z
  refine Fg.mpr ⟨ndN,Yi (Nk hw) (λe he=>h2.ok e (An _ he)) hs.1,λa ha b hb e=>?_⟩
  subst e
  exact nFlat a ha hb
 ·have ht:top=.tp:=by
   unfold pkMd at z
   split at z
   ·cases z
   ·split at z
    ·exact z
    ·cases z
  subst ht
  rcases htop with ⟨_,h1⟩ | ⟨h1,_⟩
  ·match N,h1,e,nFlat with
   | [b],_,e,nFlat =>
    cases e
    exact nFlat a Aa
  ·cases h1
 ·have hf':f∈As++(S++T):=Ap _ hf
  refine ⟨λhq a ha z=>?_,λhq a ha z=>?_⟩
  ·rcases cs a ha with hn | ⟨_,g,hg,hc⟩
   ·exact nN a hn f hf' z
   ·refine (hs.2.2 g hg f hf).1 ?_ a hc z
    rcases hq with hq | hq
    ·exact .inl hq
    ·cases hq
  ·rcases Bg.mp z with z | z
   ·exact nN a z f hf' (Gf _ _ ha)
   ·obtain ⟨g,hg,z⟩:=Kw.mp z
    refine (hs.2.2 g hg f hf).2 ?_ a ha z
    rcases hq with hq | hq
    ·refine .inl ?_
     have hq':Lx (.dat (pkMd top (As.map Ent.x)) d)=false:=hq
     unfold pkMd at hq'
     by_cases hw:allOw (As.map Ent.x)=true
     ·obtain ⟨d',hd'⟩:=Nk hw g hg
      rw[hd']
      rfl
     ·rw[if_neg hw] at hq'
      by_cases hk:noPk (As.map Ent.x)=true
      ·exact fM hk g hg
      ·rw[if_neg hk] at hq'
       cases hq'
    ·exact .inr hq
 ·rcases cs a ha with hn | ⟨_,g,hg,hc⟩
  ·exact .inl (h2.new0 (hN a hn))
  ·rcases h2.new g (An _ hg) a hc with z | z
   ·exact .inl z
   ·obtain ⟨d',hd'⟩:=Nk (by assumption) g hg
    rw[hd'] at z
    cases z.2
end
def C1(da:DA):DE:=λδ P=>da δ λxs δ'=>match datas xs with
 | some ds=>ds.length<=1000/\P (.dat (pkMd .sh xs) (.tuple ds)) δ'
 | none=>False
def E6(da:DA):DE:=λδ P=>da δ λxs δ'=>match datas xs with
 | some ds=>ds.length<=1000/\P (.dat (pkMd .tp xs) (.list ds)) δ'
 | none=>False
section
variable{X:Cx}{es:List Expr}{da:DA}{pos:Pos}
theorem Rw{x1}(h:oW X es da):Ei X (.Tuple es x1 pos) (C1 da):=by
 refine PE.imp (zW h) λσ H Q h=>?_
 obtain ⟨H0,Y,S,T,δ,P,rfl,hS,hA,hd,k⟩:=h
 refine ⟨H0,Y,S,T,δ,_,rfl,hS,hA,hd,λxs δ' As us S' H' e1 e2 ex eu hA' p=>?_⟩
 cases q:datas xs with
 | none=>rw[q] at p; exact p.elim
 | some ds =>
  rw[q] at p
  subst ex
  have r:=Xe eu q λe he=>hA'.ok e (Ap _ (An _ he))
  have hl:=r.len
  have hz:ds.length<=Aw:=sz p.1
  refine ⟨by omega,λt ht=>?_⟩
  have s1:=Fu ht (.tup us)
  exact k _ δ' _ _ S' _ e1 e2 (hA'.pack (N:=[]) s1 (λ_ z=>nomatch z) Do (.inr ⟨rfl,rfl⟩) (.tup Dt hz (r.kp (Kp.of s1)))) p.2
theorem Gq(h:oW X es da):Ei X (.List es pos) (E6 da):=by
 refine PE.imp (qU h) λσ H Q h=>?_
 obtain ⟨H0,Y,S,T,δ,P,rfl,hS,hA,hd,k⟩:=h
 refine ⟨H0,Y,S,T,δ,_,rfl,hS,hA,hd,λxs δ' As us S' H' e1 e2 ex eu hA' p=>?_⟩
 cases q:datas xs with
 | none=>rw[q] at p; exact p.elim
 | some ds =>
  rw[q] at p
  subst ex
  have r:=Xe eu q λe he=>hA'.ok e (Ap _ (An _ he))
  have hl:=r.len
  have hz:ds.length<=Aw:=sz p.1
  refine ⟨by omega,λt ht=>?_⟩
  have s1:=Fu ht (.lst us)
  exact k _ δ' _ _ S' _ e1 e2 (hA'.pack (N:=[t]) s1 (λa z=>by rw[Am.mp z]; exact ht) (Bt.mpr ⟨Bw,Do⟩) (.inl ⟨rfl,rfl⟩) (.lst Dt hz (r.kp (Kp.of s1)))) p.2
end
end DL
namespace Nd
open PySem PySem.Spec PyProof.Rows L2
section
variable{X:Cx}
def xI:V->Option Int->Option Int->Hp->VK->Prop:=λx lo hi H Q=>∃a xs,x=.ref a/\H a=some (.tup xs)/\∀p H',H' p=some (.tup (Xc xs lo hi))->Yc H H'->Q (.ref p) H'
theorem vB:B0 X xI:=by
 intro pins s σ H x v vl vu lo hi sl Q I rx hs pl pu h
 obtain ⟨a,xs,rfl,hx',q⟩:=h
 have hx:To X.K H a xs:=To.of hx'
 cases rx
 by_cases hw:HT.sIx xs.length 0 lo=0/\HT.sIx xs.length xs.length hi=xs.length
 ·obtain ⟨its,r,ht,hz⟩:=I.tuple hx
  have hlen:its.toArray.size=xs.length:=by rw[Ao]; exact r.length.symm
  refine ⟨"tuple",_,Dq.lookup,ht.typeIs,?_⟩
  refine Rb ht hs pl pu (by rw[hlen]; exact hw) ⟨.ref a,H,I,rfl,q a H ?_ (Yc.refl _)⟩
  unfold Xc
  rw[hw.1,hw.2,Sa,Nat.sub_zero,Ie]
  exact hx'
 ·exact zG pins s σ H (.ref a) (.ref a) vl vu lo hi sl Q I rfl hs pl pu ⟨a,xs,rfl,hx,hw,λp np=>q p _ Dt (Fu np _)⟩
end
end Nd
namespace Ts
open PySem PyProof.Rows
def le(blt:Keyed->Keyed->Bool)(x y:Keyed):Prop:=blt y x=false
abbrev lst(p q out:Array Keyed)(i j:Nat):Array Keyed:=out++q.extract j q.size++p.extract i p.size
def X(xs:Array Keyed)(i:Nat):Keyed:=xs[i]?.getD (Ot,Ot)
variable{blt:Keyed->Keyed->Bool}
end Ts
namespace Ts
open PySem PyProof.Rows L2
end Ts
namespace DL
open PySem L2 Nd
def Km{α:Type}(xs:List α)(lo hi:Option Int):List α:=(xs.drop (HT.sIx xs.length 0 lo)).take (HT.sIx xs.length xs.length hi - HT.sIx xs.length 0 lo)
theorem hW{α β:Type}(f:α->β)(xs:List α)(lo hi:Option Int):Km (xs.map f) lo hi=(Km xs lo hi).map f:=by
 unfold Km
 rw[Ae,List.map_take,List.map_drop]
theorem Lr{α:Type}(xs:List α)(lo hi:Option Int):(Km xs lo hi).Sublist xs:=(Hq _ _).trans (List.drop_sublist _ _)
theorem oP{α:Type}(xs:List α)(k:Nat):Km xs none (some (k:Int))=xs.take k:=by
 unfold Km
 rw[HT.sIx_none,HT.sIx_nat,Sa,Nat.sub_zero]
 by_cases h:k<=xs.length
 ·rw[Nat.min_eq_left h]
 ·rw[Nat.min_eq_right (by omega),Ie,Px (by omega)]
section
variable{K:PySem.W.Frag}{H:Hp}
theorem RdFs.drop:∀(n:Nat) {xs:List V} {ds:List Ad} {F:List Addr},RdFs K H xs ds F->∃G,RdFs K H (xs.drop n) (ds.drop n) G/\G.Sublist F
 | 0,_,_,F,h=>⟨F,h,Dn _⟩
 | n+1,_,_,_,.nil=>⟨[],.nil,Dn _⟩
 | n+1,_,_,_,.cons _ t=>by
  obtain ⟨G,h1,h2⟩:=RdFs.drop n t
  exact ⟨G,h1,h2.trans (Da _ _)⟩
theorem RdFs.take:∀(n:Nat) {xs:List V} {ds:List Ad} {F:List Addr},RdFs K H xs ds F->∃G,RdFs K H (xs.take n) (ds.take n) G/\G.Sublist F
 | 0,_,_,F,h=>⟨[],.nil,List.nil_sublist _⟩
 | n+1,_,_,_,.nil=>⟨[],.nil,Dn _⟩
 | n+1,_,_,_,.cons a t=>by
  obtain ⟨G,h1,h2⟩:=RdFs.take n t
  exact ⟨_,.cons a h1,(Dn _).append h2⟩
theorem RdFs.cut{xs:List V}{ds:List Ad}{F:List Addr}(h:RdFs K H xs ds F)(lo hi:Option Int):∃G,RdFs K H (Xc xs lo hi) (Km ds lo hi) G/\G.Sublist F:=by
 unfold Xc Km
 rw[h.len]
 obtain ⟨G,h1,h2⟩:=h.drop (HT.sIx ds.length 0 lo)
 obtain ⟨G',h3,h4⟩:=h1.take (HT.sIx ds.length ds.length hi - HT.sIx ds.length 0 lo)
 exact ⟨G',h3,h4.trans h2⟩
theorem RdFs.ints:∀ns:List Int,RdFs K H (ns.map V.int) (ns.map By) []
 | []=>.nil
 | n::ns=>RdFs.cons (F:=[]) (.int n) (RdFs.ints ns)
theorem RdFs.ints_inv:∀{ns:List Int} {xs:List V} {F:List Addr},RdFs K H xs (ns.map By) F->xs=ns.map V.int/\F=[]
 | [],_,_,h=>by cases h; exact ⟨rfl,rfl⟩
 | n::ns,_,_,h=>by
  rw[Au] at h
  cases h with
  | cons a t =>
   obtain ⟨rfl,rfl⟩:=a.int_inv
   obtain ⟨rfl,rfl⟩:=RdFs.ints_inv t
   exact ⟨rfl,rfl⟩
theorem RdFs.bools_inv:∀{ns:List Bool} {xs:List V} {F:List Addr},RdFs K H xs (ns.map PyData.bool) F->xs=ns.map V.bl/\F=[]
 | [],_,_,h=>by cases h; exact ⟨rfl,rfl⟩
 | n::ns,_,_,h=>by
  rw[Au] at h
  cases h with
  | cons a t =>
   obtain ⟨rfl,rfl⟩:=a.bl_inv
   obtain ⟨rfl,rfl⟩:=RdFs.bools_inv t
   exact ⟨rfl,rfl⟩
end
theorem Wn{a b:List Ad}:Dk (a++b)=(Dk a && Dk b):=by
 induction a with
 | nil=>simp [Dk]
 | cons x a ih=>simp [Dk,ih,Bool.and_assoc]
theorem Mh(ns:List Int):Dk (ns.map By)=true:=Ly (λ_=>by simp [imm]) ns
def kP:D2:=λx y P=>match x,y with
 | .dat _ (.list ds),.dat _ (.list es)=>Dk ds=true/\Dk es=true/\ds.length+es.length<=1000000/\P (.dat .ow (.list (ds++es)))
 | _,_=>False
def bD:D2:=λx y P=>match x,y with
 | .dat _ (.tuple ds),.dat _ (.tuple es)=>Dk ds=true/\Dk es=true/\ds.length+es.length<=1000000/\P (.dat .ow (.tuple (ds++es)))
 | _,_=>False
def V4:D2:=λx y P=>match x,y with
 | .dat _ (.list ds),.dat _ (.int k)=>Dk ds=true /\ -1000000<=k/\k<=1000000/\ds.length * k.toNat<=1000000/\P (.dat .ow (.list (Gu k.toNat ds).flatten))
 | _,_=>False
def cN:D2:=λx y P=>match x,y with
 | .dat _ (.str i),.dat _ (.str j)=>i.length+j.length<=1000000/\P (.dat .ow (.str (i++j)))
 | _,_=>False
section
variable{K:PySem.W.Frag}
theorem t5:jX K C7 kP:=by
 intro H0 X n S T x y v w F G H Q P hA hd k
 unfold kP at hd
 split at hd
 ·obtain ⟨i1,i2,hz,p⟩:=hd
  obtain ⟨b,ys,G1,rfl,hb,rb,_,_⟩:=(hA.told mem_mid).list_inv
  obtain ⟨a,xs,G2,rfl,ha,ra,_,_⟩:=(hA.told Fm).list_inv
  have l1:=ra.len
  have l2:=rb.len
  refine ⟨a,b,xs,ys,rfl,rfl,ha,hb,Yw (by omega),λq hq=>?_⟩
  exact k _ _ _ _ (hA.drop2.newI (ra.app rb) (by rw[Wn,i1,i2]; rfl) (by rw[Bj]; exact Yw (by omega)) hq .ow) p
 ·exact hd.elim
theorem vG:jX K (yD K) bD:=by
 intro H0 X n S T x y v w F G H Q P hA hd k
 unfold bD at hd
 split at hd
 ·obtain ⟨i1,i2,hz,p⟩:=hd
  obtain ⟨b,ys,rfl,hb,rb,zb⟩:=(hA.told mem_mid).tup_inv
  obtain ⟨a,xs,rfl,ha,ra,za⟩:=(hA.told Fm).tup_inv
  have l1:=ra.len
  have l2:=rb.len
  obtain rfl:=ra.imm i1
  obtain rfl:=rb.imm i2
  refine ⟨a,b,xs,ys,rfl,rfl,To.of ha,To.of hb,Yw (by omega),λe=>?_,λe=>?_,λq hq=>?_⟩
  ·subst e
   obtain rfl:=Oq.mp (l1.symm.trans rfl)
   exact k _ _ [] _ (hA.drop2.pushI (.tup hb zb rb)) p
  ·subst e
   obtain rfl:=Oq.mp (l2.symm.trans rfl)
   rw[Fi] at p
   exact k _ _ [] _ (hA.drop2.pushI (.tup ha za ra)) p
  ·have s1:=Fu hq (.tup (xs++ys))
   exact k _ _ [] _ ((hA.drop2.grow s1 (Ah _)).pushI (.tup Dt (by rw[Bj]; exact Yw (by omega)) ((ra.app rb).kp (Kp.of s1)))) p
 ·exact hd.elim
theorem vZ:jX K (λx y H Q=>∃i j,x=.str i/\y=.str j/\i.length+j.length<=Aw/\Q (.str (i++j)) H) cN:=by
 intro H0 X n S T x y v w F G H Q P hA hd k
 unfold cN at hd
 split at hd
 ·obtain ⟨rfl,_⟩:=(hA.told mem_mid).str_inv
  obtain ⟨rfl,_⟩:=(hA.told Fm).str_inv
  exact ⟨_,_,rfl,rfl,Yw hd.1,k _ _ [] H (hA.drop2.pushI (.str _)) hd.2⟩
 ·exact hd.elim
end
section
variable{X:Cx}{a b:Expr}{da db:DE}{pos:Pos}
theorem g0(ha:Ei X a da)(hb:Ei X b db):Ei X (.BinOp a .Add b pos) (Zo kP da db):=Xs zT t5 ha hb
theorem wH(ha:Ei X a da)(hb:Ei X b db):Ei X (.BinOp a .Add b pos) (Zo bD da db):=Xs vE vG ha hb
theorem bM(ha:Ei X a da)(hb:Ei X b db):Ei X (.BinOp a .Add b pos) (Zo cN da db):=Xs jZ vZ ha hb
end
abbrev DO:=DS->(Option Int->DS->Prop)->Prop
def LO(K:PySem.W.Frag)(do_:DO):TO:=λσ H Q=>∃(H0:Hp) (X:Addr->Prop) (S T:List Ent) (δ:DS) (P:Option Int->DS->Prop),vs S=σ/\Sl S δ/\At K H0 X δ.n (S++T) H/\do_ δ P /\
 ∀o δ' S' H',vs S'=σ->Sl S' δ'->At K H0 X δ'.n (S'++T) H'->P o δ'->Q o H'
abbrev B5(X:Cx)(e:Option Expr)(d:DO):Prop:=PO X e (LO X.K d)
theorem PO.imp{X:Cx}{e:Option Expr}{t t':TO}(h:PO X e t)(k:∀σ H Q,t' σ H Q->t σ H Q):PO X e t':=λpins s σ H Q I q=>h pins s σ H Q I (k σ H Q q)
def lX:DO:=λδ P=>P none δ
def yH(de:DE):DO:=λδ P=>de δ λx δ'=>match x with
 | .dat _ (.int i)=>P (some i) δ'
 | _=>False
section
variable{X:Cx}{e:Expr}{de:DE}{lo hi:Option Expr}{dl dh:DO}{pos p2:Pos}
theorem Sw:B5 X none lX:=by
 refine PO.imp uU λσ H Q h=>?_
 obtain ⟨H0,Y,S,T,δ,P,rfl,hS,hA,hd,k⟩:=h
 exact k _ δ S H rfl hS hA hd
theorem So(h:Ei X e de):B5 X (some e) (yH de):=by
 refine PO.imp (uY h) λσ H Q h=>?_
 obtain ⟨H0,Y,S,T,δ,P,rfl,hS,hA,hd,k⟩:=h
 refine ⟨H0,Y,S,T,δ,_,rfl,hS,hA,hd,λx δ' v F S' H' e1 e2 hA' p=>?_⟩
 split at p
 ·obtain ⟨rfl,_⟩:=(hA'.told mem_mid).int_inv
  exact ⟨_,rfl,k _ δ' S' H' e1 e2 hA'.drop p⟩
 ·exact p.elim
def V6(i:Bool)(de:DE)(dl dh:DO):DE:=λδ P=>de δ λx δ1=>dl δ1 λl δ2=>dh δ2 λh δ3=>match x with
 | .dat m (.list ds)=>fF i m (Km ds l h) λz=>P z δ3
 | .dat m (.tuple ds)=>Zg i m (Km ds l h) λz=>P z δ3
 | _=>False
def T3(K:PySem.W.Frag):V->Option Int->Option Int->Hp->VK->Prop:=λx lo hi H Q=>A1 K x lo hi H Q\/xI x lo hi H Q
theorem Yh{i:Bool}(he:Ei X e de)(hl:B5 X lo dl)(hh:B5 X hi dh):Ei X (.Subscript e (.Slice lo hi none p2) pos) (V6 i de dl dh):=by
 refine PE.imp (gP (r:=T3 X.K) (vP.or vB) he hl hh) λσ H Q h=>?_
 obtain ⟨H0,Y,S,T,δ,P,rfl,hS,hA,hd,k⟩:=h
 refine ⟨H0,Y,S,T,δ,_,rfl,hS,hA,hd,λx δ1 v F S1 H1 e1 e2 hA1 p1=>?_⟩
 refine ⟨H0,Y,S1,⟨some v,x,F⟩::T,δ1,_,e1,e2,hA1,p1,λl δ2 S2 H2 e3 e4 hA2 p2=>?_⟩
 refine ⟨H0,Y,S2,⟨some v,x,F⟩::T,δ2,_,e3,e4,hA2,p2,λh δ3 S3 H3 e5 e6 hA3 p3=>?_⟩
 split at p3
 ·obtain ⟨a,xs,G,rfl,ha,ra,rfl,hz⟩:=(hA3.told mem_mid).list_inv
  refine .inl ⟨a,xs,rfl,Oy.of ha,λp hp=>?_⟩
  obtain ⟨G',h1,h2⟩:=ra.cut l h
  obtain ⟨z,F',hA4,p4⟩:=hA3.newL h1 (h2.trans (Dd _ _)) (Bm (Lr _ _ _).length_le hz) hp p3
  exact k z δ3 _ F' S3 _ e5 e6 hA4 p4
 ·obtain ⟨a,xs,rfl,ha,ra,hz⟩:=(hA3.told mem_mid).tup_inv
  refine .inr ⟨a,xs,rfl,ha,λp H' hp s1=>?_⟩
  obtain ⟨G',h1,h2⟩:=ra.cut l h
  obtain ⟨z,F',hA4,p4⟩:=(hA3.grow s1 (Ah _)).oldT (h1.kp (Kp.of s1)) h2 (Bm (Lr _ _ _).length_le hz) hp p3
  exact k z δ3 _ F' S3 _ e5 e6 hA4 p4
 ·exact p3.elim
end
end DL
namespace NdS
open PySem PyProof.Rows
end NdS
namespace Nd
open PySem PySem.Spec PyProof.Rows L2 NdS
end Nd
namespace DL
open PySem L2 Nd
def eZ(x:Int):List Int->List Int
 | []=>[x]
 | y::l=>if x<y then x::y::l else if x=y then y::l else y::eZ x l
def Xp(ns:List Int):List Int:=ns.foldr eZ []
theorem iE{x z:Int}:∀{l:List Int},z∈eZ x l↔z=x\/z∈l
 | []=>by simp [eZ]
 | y::l=>by
  unfold eZ
  split
  ·simp
  ·split
   ·rename_i h1 h2
    subst h2
    simp
   ·simp only[Ai,iE (l:=l)]
    constructor
    ·rintro (h | h | h) <;> simp [h]
    ·rintro (h | h | h) <;> simp [h]
theorem Zu{x:Int}:∀{l:List Int},l.Pairwise (· < ·)->(eZ x l).Pairwise (· < ·)
 | [],_=>Jk _ _
 | y::l,h=>by
  obtain ⟨h1,h2⟩:=Ax.mp h
  unfold eZ
  split
  ·rename_i hx
   refine Ax.mpr ⟨λz hz=>?_,h⟩
   rcases Ai.mp hz with rfl | hz
   ·exact hx
   ·exact Int.lt_trans hx (h1 z hz)
  ·split
   ·exact h
   ·refine Ax.mpr ⟨λz hz=>?_,Zu h2⟩
    rcases iE.mp hz with rfl | hz
    ·omega
    ·exact h1 z hz
theorem Qd:∀ns:List Int,(Xp ns).Pairwise (· < ·)
 | []=>Dw
 | n::ns=>Zu (Qd ns)
theorem qE{x:Int}:∀{ns:List Int},x∈Xp ns↔x∈ns
 | []=>Iff.rfl
 | n::ns=>by
  rw[show Xp (n::ns)=eZ n (Xp ns) from rfl,iE,qE (ns:=ns),Ai]
theorem vX{l ns:List Int}(h:l.Pairwise (· < ·))(m:∀x,x∈l↔x∈ns):l=Xp ns:=aO h (Qd ns) λx=>(m x).trans qE.symm
abbrev DC:=List DV->(DV->Prop)->Prop
def Sf(K:PySem.W.Frag)(r:List V->Hp->VK->Prop)(rd:DC):Prop:=∀(H0:Hp) (X:Addr->Prop) (n:Nat) (S T As:List Ent) (us:List V) (H:Hp) (Q:VK) (P:DV->Prop),
 As.map Ent.v=us.map some->At K H0 X n (S++(As++T)) H->rd (As.map Ent.x) P->(∀z u F' H',At K H0 X n (S++⟨some u,z,F'⟩::T) H'->P z->Q u H')->r us H Q
def O6(rd:DC)(da:DA):DE:=λδ P=>da δ λxs δ1=>rd xs λz=>P z δ1
section
variable{X:Cx}{x:Str}{p pos:Pos}{e:Expr}{es:List Expr}{da:DA}{id T:String}{r:List V->Hp->VK->Prop}{rd:DC}
theorem xJ{K:PySem.W.Frag}(o:Sf K r rd):∀σ H Q,LE K (O6 rd da) σ H Q->P3 r (LA K da) σ H Q:=by
 intro σ H Q h
 obtain ⟨H0,Y,S,T,δ,P,rfl,hS,hA,hd,k⟩:=h
 refine ⟨H0,Y,S,T,δ,_,rfl,hS,hA,hd,λxs δ' As us S' H' e1 e2 ex eu hA' p=>?_⟩
 subst ex
 exact o H0 Y δ'.n S' T As us H' Q _ eu hA' p λz u F' H'' hA3 p3=>k z δ' u F' S' H'' e1 e2 hA3 p3
theorem Gg(hc:Jn X (.builtin id) r)(o:Sf X.K r rd)(hg:Gl X x)(hm:X.mg x=none)(hv:Ho x=some (.builtin id))(ha:oW X (e::es) da)(hn:x ≠ "__name__" := by decide)(hdb:(x == ("__debug__" : Str))=false:=by decide)(he:Bd (e::es) X.env=(false,eval e X.env)::Bd es X.env:=by rfl)(hpl:(Gc pos (Bd es X.env)).any (·.1)=false:=by rfl):Ei X (.Call (.Name x p) (e::es) [] pos) (O6 rd da) :=
 PE.imp (Wx hc hg hm hv ha hn hdb he hpl) (xJ o)
theorem Iw(hc:Jn X (.type T) r)(o:Sf X.K r rd)(hg:Gl X x)(hm:X.mg x=none)(hv:Ho x=some (.type T))(ha:oW X (e::es) da)(hn:x ≠ "__name__" := by decide)(hdb:(x == ("__debug__" : Str))=false:=by decide)(he:Bd (e::es) X.env=(false,eval e X.env)::Bd es X.env:=by rfl)(hpl:(Gc pos (Bd es X.env)).any (·.1)=false:=by rfl):Ei X (.Call (.Name x p) (e::es) [] pos) (O6 rd da) :=
 PE.imp (Nq hc hg hm hv ha hn hdb he hpl) (xJ o)
end
theorem zJ{α β:Type}{f:α->β}{l:List α}{x:β}(h:l.map f=[x]):∃a,l=[a]/\f a=x:=by
 cases l with
 | nil=>cases h
 | cons a t =>
  obtain ⟨h1,h2⟩:=Kd h
  exact ⟨a,by rw[List.map_eq_nil_iff.mp h2],h1⟩
theorem L7{α β:Type}{f:α->β}{l:List α}{x y:β}(h:l.map f=[x,y]):∃a b,l=[a,b]/\f a=x/\f b=y:=by
 cases l with
 | nil=>cases h
 | cons a t =>
  obtain ⟨h1,h2⟩:=Kd h
  obtain ⟨b,rfl,h3⟩:=zJ h2
  exact ⟨a,b,rfl,h1,h3⟩
theorem Il{K:PySem.W.Frag}{H0 H:Hp}{X:Addr->Prop}{n:Nat}{S T As:List Ent}{us:List V}{x:DV}(eu:As.map Ent.v=us.map some)(hA:At K H0 X n (S++(As++T)) H)(ex:As.map Ent.x=[x]):∃v F,us=[v]/\At K H0 X n (S++⟨some v,x,F⟩::T) H:=by
 obtain ⟨⟨v,y,F⟩,rfl,h1⟩:=zJ ex
 obtain ⟨u,rfl,h2⟩:=zJ eu.symm
 have h1':y=x:=h1
 have h2':some u=v:=h2
 subst h1' h2'
 exact ⟨u,F,rfl,hA⟩
theorem tM{K:PySem.W.Frag}{H0 H:Hp}{X:Addr->Prop}{n:Nat}{S T As:List Ent}{us:List V}{x y:DV}(eu:As.map Ent.v=us.map some)(hA:At K H0 X n (S++(As++T)) H)(ex:As.map Ent.x=[x,y]):∃v F w G,us=[v,w]/\At K H0 X n (S++⟨some v,x,F⟩::⟨some w,y,G⟩::T) H:=by
 obtain ⟨⟨v,x',F⟩,⟨w,y',G⟩,rfl,h1,h2⟩:=L7 ex
 obtain ⟨u,u',rfl,h3,h4⟩:=L7 eu.symm
 have h1':x'=x:=h1
 have h2':y'=y:=h2
 have h3':some u=v:=h3
 have h4':some u'=w:=h4
 subst h1' h2' h3' h4'
 exact ⟨u,F,u',G,rfl,hA⟩
def kS:DC:=λxs P=>match xs with
 | [.dat _ (.list ds)]=>P (.dat .ow (.int ds.length))
 | [.dat _ (.tuple ds)]=>P (.dat .ow (.int ds.length))
 | [.dat _ (.str z)]=>z.length<=1000000/\P (.dat .ow (.int z.length))
 | _=>False
def P9(i:Bool):DC:=λxs P=>match xs with
 | [.dat m (.list ds)]=>fF i m ds P
 | [.dat m (.tuple ds)]=>fF i m ds P
 | _=>False
def bZ(i:Bool):DC:=λxs P=>match xs with
 | [.dat m (.list ds)]=>Zg i m ds P
 | [.dat m (.tuple ds)]=>P (.dat m (.tuple ds))
 | _=>False
def Q5:DC:=λxs P=>match xs with
 | [.dat _ (.list ds)]=>∃ns:List Int,ds=ns.map By/\ns≠[]/\∀M∈ns,(∀x∈ns,M<=x)->P (.dat .ow (.int M))
 | _=>False
def sU:DC:=λxs P=>match xs with
 | [.dat _ (.list ds)]=>∃bs:List Bool,ds=bs.map PyData.bool/\P (.dat .ow (.bool (bs.all id)))
 | _=>False
def uJ:Ad->String
 | .none => "NoneType"
 | .bool _ => "bool"
 | .int _ => "int"
 | .str _ => "str"
 | .list _ => "list"
 | .tuple _ => "tuple"
 | .dict _ => "dict"
def Rl(d:Ad)(n:String):Bool:=uJ d == n || (uJ d == "bool" && n == "int")
def sT:DC:=λxs P=>match xs with
 | [.dat _ d,.val (.ty n)]=>(n = "int" \/ n = "bool" \/ n = "str" \/ n = "list" \/ n = "tuple")/\P (.dat .ow (.bool (Rl d n)))
 | _=>False
def qL:DC:=λxs P=>match xs with
 | [.dat _ d]=>(∃b,b<=400/\Jh b d/\(b+12) * Gk d<=Aw)/\d.depth<=90/\P (.dat .ow (.str (Yb d)))
 | _=>False
section
variable{K:PySem.W.Frag}
theorem Xu:Sf K (λxs H Q=>∃x n,xs=[x]/\F4 K x H n/\Q (.int n) H) kS:=by
 intro H0 X n S T As us H Q P eu hA hd k
 unfold kS at hd
 split at hd
 ·rename_i ex
  obtain ⟨v,F,rfl,hA⟩:=Il eu hA ex
  obtain ⟨a,xs,G,rfl,ha,ra,_,_⟩:=(hA.told mem_mid).list_inv
  exact ⟨_,_,rfl,.inl ⟨xs,Oy.of ha,ra.len.symm⟩,k _ _ [] H (hA.drop.pushI (.int _)) hd⟩
 ·rename_i ex
  obtain ⟨v,F,rfl,hA⟩:=Il eu hA ex
  obtain ⟨a,xs,rfl,ha,ra,_⟩:=(hA.told mem_mid).tup_inv
  exact ⟨_,_,rfl,.inr ⟨xs,To.of ha,ra.len.symm⟩,k _ _ [] H (hA.drop.pushI (.int _)) hd⟩
 ·rename_i ex
  obtain ⟨v,F,rfl,hA⟩:=Il eu hA ex
  obtain ⟨rfl,_⟩:=(hA.told mem_mid).str_inv
  exact ⟨_,_,rfl,⟨Yw hd.1,rfl⟩,k _ _ [] H (hA.drop.pushI (.int _)) hd.2⟩
 ·exact hd.elim
theorem Yt{i:Bool}:Sf K (yY K) (bZ i):=by
 intro H0 X n S T As us H Q P eu hA hd k
 unfold bZ at hd
 split at hd
 ·rename_i ex
  obtain ⟨v,F,rfl,hA⟩:=Il eu hA ex
  obtain ⟨a,xs,G,rfl,ha,ra,rfl,hz⟩:=(hA.told mem_mid).list_inv
  refine ⟨a,xs,rfl,.inl ⟨Oy.of ha,λl hl=>?_⟩⟩
  obtain ⟨z,F',h1,h2⟩:=hA.newT ra (Dd _ _) hz hl hd
  exact k _ _ _ _ h1 h2
 ·rename_i ex
  obtain ⟨v,F,rfl,hA⟩:=Il eu hA ex
  obtain ⟨a,xs,rfl,ha,ra,hz⟩:=(hA.told mem_mid).tup_inv
  exact ⟨a,xs,rfl,.inr ⟨To.of ha,k _ _ F H hA hd⟩⟩
 ·exact hd.elim
theorem p9:Sf K (λxs H Q=>∃(p:Addr) (bs:List Bool),xs=[.ref p]/\Oy K H p (bs.map V.bl)/\Q (.bl (bs.all id)) H) sU:=by
 intro H0 X n S T As us H Q P eu hA hd k
 unfold sU at hd
 split at hd
 ·rename_i ex
  obtain ⟨v,F,rfl,hA⟩:=Il eu hA ex
  obtain ⟨bs,rfl,h1⟩:=hd
  obtain ⟨a,xs,G,rfl,ha,ra,rfl,hz⟩:=(hA.told mem_mid).list_inv
  obtain ⟨rfl,_⟩:=ra.bools_inv
  exact ⟨a,bs,rfl,Oy.of ha,k _ _ [] H (hA.drop.pushI (.bl _)) h1⟩
 ·exact hd.elim
theorem vW{T n:String}{b:Bool}(h1:(Eb T == Eb n)=false)(h2:PySem.W.kitMeta n=true)(h3:(fastBuiltinMro T).map (λx=>x.contains (Eb n))=some b):PySem.W.kitOne K (.type T) (.type n)=some b:=i5 h1 h2 h3
theorem vC{d:Ad}{n:String}(hn:n = "int" \/ n = "bool" \/ n = "str" \/ n = "list" \/ n = "tuple"):PySem.W.kitOne K (.type (uJ d)) (.type n)=some (Rl d n):=by
 have main:∀T:String,(T = "NoneType" \/ T = "bool" \/ T = "int" \/ T = "str" \/ T = "list" \/ T = "tuple" \/ T = "dict")->PySem.W.kitOne K (.type T) (.type n)=some (T == n || (T == "bool" && n == "int")):=by
  intro T hT
  rcases hT with rfl | rfl | rfl | rfl | rfl | rfl | rfl <;> rcases hn with rfl | rfl | rfl | rfl | rfl <;> first | exact A6 | exact vW (by decide +kernel) (by decide +kernel) (by decide +kernel)
 unfold Rl
 refine main _ ?_
 cases d <;> simp [uJ]
theorem Rn:Sf K (U8 K) sT:=by
 intro H0 X n S T As us H Q P eu hA hd k
 unfold sT at hd
 split at hd
 ·rename_i ex
  obtain ⟨v,F,w,G,rfl,hA⟩:=tM eu hA ex
  have hw:w=.ty _:=Ca (hA.ok _ Fm).1
  subst hw
  have r:=hA.told mem_mid
  refine ⟨v,_,.type (uJ _),_,rfl,?_,vC hd.1,k _ _ [] H (hA.drop2.pushI (.bl _)) hd.2⟩
  ·cases r with
   | non=>exact .non
   | bl b=>exact .bl b
   | int i=>exact .int i
   | str x=>exact .str x
   | lst h l hs=>exact .lst h
   | tup h l hs=>exact .tup h
   | dic h e hs=>exact .dT h
   | dik h e hs=>exact .dK h
   | dnm h e hs=>exact .dT h
 ·exact hd.elim
theorem cD:Sf K (G7 K) qL:=by
 intro H0 X n S T As us H Q P eu hA hd k
 unfold qL at hd
 split at hd
 ·rename_i ex
  obtain ⟨v,F,rfl,hA⟩:=Il eu hA ex
  exact ⟨_,_,rfl,⟨(hA.told mem_mid).rd hd.2.1,hd.1,hd.2.1⟩,k _ _ [] H (hA.drop.pushI (.str _)) hd.2.2⟩
 ·exact hd.elim
end
def dV(v:V):DE:=λδ P=>P (.val v) δ
section
variable{X:Cx}{e:Expr}
theorem n9{v:V}(h:PE X e (tC v)):Ei X e (dV v):=by
 refine PE.imp h λσ H Q h=>?_
 obtain ⟨H0,Y,S,T,δ,P,rfl,hS,hA,hd,k⟩:=h
 exact k _ δ v [] S H rfl hS ((hA.push (e:=⟨some v,.val v,[]⟩) ⟨rfl,rfl⟩ (λf _=>⟨λ_ a ha=>(nomatch ha),λ_ a _=>Bw⟩) (λa ha=>(nomatch ha))).tomid) hd
theorem Xf{x:Str}{n:String}{pos:Pos}(hg:Gl X x)(hm:X.mg x=none)(hv:Ho x=some (.type n))(hn:x ≠ "__name__" := by decide)(hd:(x == ("__debug__" : Str))=false:=by decide):Ei X (.Name x pos) (dV (.ty n)):=n9 (wD hg hm hv rfl hn hd)
end
theorem tL{ns:List Int}(h:∀x∈ns,0<=x/\x<60):(Xp ns).length<=60 :=
 Bm (NdS.len_leI ((Qd ns).imp λ{x y} h=>Int.ne_of_lt h) λe he=>Wg (h e (qE.mp he)).1 (h e (qE.mp he)).2) (by decide)
end DL
namespace Nd
open PySem PySem.Spec PyProof.Rows L2
def M8(K:PySem.W.Frag)(a b:Addr):It :=
  ⟨λi H=>∃xs ys x y,Oy K H a xs/\Oy K H b ys/\xs[i]? = some x/\ys[i]? = some y,
   λi H x H'=>∃p u v,x=.ref p/\H p=none/\H'=upd H p (.tup [u,v])/\(∀xs,Oy K H a xs->xs[i]? = some u)/\∀ys,Oy K H b ys->ys[i]? = some v,
   λi H=>∃xs ys,Oy K H a xs/\Oy K H b ys/\(xs.length<=i\/ys.length<=i)⟩
theorem qX{P:Bu}{w:World}{K:PySem.W.Frag}{elts:List Expr}{k:Nat}{pos:Pos}(a b z TI TO i1 i2:Addr)(D:ZipApart z TI TO i1 i2 a b):Turn P w K (.Tuple elts k pos) (M8 K a b) [z,TI,TO,i1,i2] z (λi h=>IsZip h z TI TO .none/\IsPair h TI (.ref i1) (.ref i2)/\(∃u v,IsPair h TO u v)/\h.IsListIter i1 a i/\h.IsListIter i2 b i) where
 mem:=Aa
 obj:=λi h st c hc=>by
  obtain ⟨hz,hTI,⟨u,v,hTO⟩,⟨o1,e1,c1,d1⟩,⟨o2,e2,c2,d2⟩⟩:=st
  simp only[Ai,Bw,or_false] at hc
  rcases hc with rfl | rfl | rfl | rfl | rfl
  ·exact ⟨_,hz,λv z=>by cases z⟩
  ·exact ⟨_,hTI,λv z=>by cases z⟩
  ·exact ⟨_,hTO,λv z=>by cases z⟩
  ·exact ⟨o1,e1,λv z=>by rw[d1] at z; cases z⟩
  ·exact ⟨o2,e2,λv z=>by rw[d2] at z; cases z⟩
 keep:=λi h h' st kp=>by
  obtain ⟨hz,hTI,⟨u,v,hTO⟩,h1,h2⟩:=st
  exact ⟨kp z (by simp) _ hz,kp TI (by simp) _ hTI,⟨u,v,kp TO (by simp) _ hTO⟩,h1.at λo q=>kp i1 (by simp) o q,h2.at λo q=>kp i2 (by simp) o q⟩
 item:=by
  intro X hP hw hK hc i pins s σ H E I hf st hg
  subst hP hw hK
  obtain ⟨xs,ys,x,y,hq1,hq2,hx,hy⟩:=hg
  obtain ⟨its1,rv1,p1,hz1⟩:=I.list hq1
  obtain ⟨its2,rv2,p2,hz2⟩:=I.list hq2
  obtain ⟨u1,hu1,ru1⟩:=rv1.get hx
  obtain ⟨u2,hu2,ru2⟩:=rv2.get hy
  obtain ⟨hz,hTI,⟨o1,o2,hTO⟩,hi1,hi2⟩:=st
  have zl:z<s.heap.objs.size:=Bc hz
  have TIl:TI<s.heap.objs.size:=Bc hTI
  have TOl:TO<s.heap.objs.size:=Bc hTO
  have i1l:i1<s.heap.objs.size:=by obtain ⟨_,q,_⟩:=hi1; exact Bc q
  have i2l:i2<s.heap.objs.size:=by obtain ⟨_,q,_⟩:=hi2; exact Bc q
  refine wpAny_pyNext_zip_item D hz hTI hTO hi1 hi2 p1.isList p2.isList (x:=u1) (y:=u2) (by simpa using hu1) (by simpa using hu2) λh1 a1 a2 a3 a4 a5 a6 hk=>⟨_,rfl,wpAny_letOwnedTupleGo_zip a1 λh2 he2 hs2=>?_⟩
  have hs2':Gd z h1 h2:=hs2
  have I1:Inv X pins σ (upd H s.heap.objs.size (.tup [x,y])) { s with heap:=s.heap.push { cls:=.type "tuple",data:=.seq #[u1,u2] } } :=
   I.laid (t':=s.toks) (λb o q=>Ag _ q) (Ah _) ⟨by show 2<=Aw; decide,[u1,u2],.cons ru1 (.cons ru2 .nil),_,Ay _ rfl,rfl,0,rfl⟩
  have nT:∀c∈[z,TI,TO,i1,i2],c≠s.heap.objs.size:=λc hc=>by
   simp only[Ai,Bw,or_false] at hc
   rcases hc with rfl | rfl | rfl | rfl | rfl <;> exact Cp (by assumption)
  have fr:∀c∈[z,TI,TO,i1,i2],(upd H s.heap.objs.size (.tup [x,y])) c=none:=λc hc=>by rw[Dr (nT c hc)]; exact (hf c hc).1
  refine ⟨.ref s.heap.objs.size,_,mH (fp:=[z,TI,TO,i1,i2]) (s:={ s with heap:=s.heap.push { cls:=.type "tuple",data:=.seq #[u1,u2] } }) (h':=h2) (t':=s.toks) I1 (λc o hc q=>?_) (λc hc=>⟨fr c hc,(hf c hc).2⟩),rfl,⟨_,x,y,rfl,I.hok.fresh (Ah _),rfl,(λzs hzs=>by rw[I.list_inj hzs hq1]; exact hx),λzs hzs=>by rw[I.list_inj hzs hq2]; exact hy⟩,⟨he2,?_,⟨u1,u2,?_⟩,?_,?_⟩,fr⟩
  ·simp only[Ai,Bw,or_false,not_or] at hc
   refine (hs2'.2 c hc.1).trans ?_
   by_cases hbT:c=s.heap.objs.size
   ·subst hbT
    have q':=(Ay s.heap (o:={ cls:=.type "tuple",data:=.seq #[u1,u2] }) rfl).symm.trans q
    rw[show h1.get? s.heap.objs.size=_ from a5]
    exact q'
   ·refine hk c o hc.1 hc.2.2.1 hc.2.2.2.1 hc.2.2.2.2 ?_
    have q0:(s.heap.push { cls:=.type "tuple",data:=.seq #[u1,u2] }).get? c=some o:=q
    rcases Heap.get?_push_cases q0 with zz | zz
    ·exact absurd zz.1 hbT
    ·exact zz
  ·exact (hs2'.2 TI D.TIz).trans (hk TI _ D.TIz D.TITO D.TIi1 D.TIi2 hTI)
  ·exact (hs2'.2 TO D.TOz).trans a2
  ·exact a3.at λo q=>(hs2'.2 i1 D.i1z).trans q
  ·exact a4.at λo q=>(hs2'.2 i2 D.i2z).trans q
 done:=by
  intro X hP hw hK hc i pins s σ H E I hf st hg
  subst hP hw hK
  obtain ⟨xs,ys,hq1,hq2,hx⟩:=hg
  obtain ⟨its1,rv1,p1,hz1⟩:=I.list hq1
  obtain ⟨its2,rv2,p2,hz2⟩:=I.list hq2
  obtain ⟨hz,hTI,⟨o1,o2,hTO⟩,hi1,hi2⟩:=st
  have hl1:=rv1.length
  have hl2:=rv2.length
  refine wpAny_pyNext_zip_end (I.ok.hd hc) D hz hTI hTO hi1 hi2 p1.isList p2.isList ?_ λh1 hk=>⟨rfl,mH (fp:=[z,TI,TO,i1,i2]) (t':=s.toks) I (λc o hc q=>?_) hf⟩
  ·rcases hx with h | h
   ·exact .inl (by simp; omega)
   ·exact .inr (by simp; omega)
  ·simp only[Ai,Bw,or_false,not_or] at hc
   exact hk c o hc.1 hc.2.2.1 hc.2.2.2.1 hc.2.2.2.2 q
 self:=λ_ _ _ _ _ st h=>wpAny_pyIter_zip st.1 h
theorem oE(I l1 l2:Nat)(h1:l1<I)(h2:l2<I):ZipApart (I+4) (I+2) (I+3) I (I+1) l1 l2:=by
 constructor <;> (intro e; have e':(_:Nat)=_:=e; omega)
section
variable{X:Cx}
def Q9(K:PySem.W.Frag)(ta:TA):TI:=λσ H R=>ta σ H λvs H1=>∃a b,vs=[.ref a,.ref b]/\(∃xs,Oy K H1 a xs)/\(∃ys,Oy K H1 b ys)/\R (M8 K a b) H1
theorem x6{elts:List Expr}{k:Nat}{tp:Pos}{a b:Expr}{ta:TA}{p pos:Pos}(hg:Gl X "zip")(hm:X.mg "zip" = none)(ha:PA X [a,b] ta)(hs:Bd [a,b] X.env=(false,eval a X.env)::Bd [b] X.env:=by rfl)(hp:(Gc pos (Bd [b] X.env)).any (·.1)=false:=by rfl):PI X (.Tuple elts k tp) (.Call (.Name "zip" p) [a,b] [] pos) (Q9 X.K ta):=by
 intro pins s σ H R I h
 refine Call_ (Xi I hg hm (u:=.type "zip") (by decide +kernel) (Kq (Hb (ha pos pins s σ H _ I h) λus s1 ⟨vs,H1,I1,r1,q1⟩=>?_) hs hp))
 obtain ⟨l1,l2,e,⟨xs,hq1⟩,⟨ys,hq2⟩,q⟩:=q1
 subst e
 obtain ⟨u1,u2,rfl,ru1,ru2⟩:=vals2 r1
 cases ru1
 cases ru2
 obtain ⟨its1,rv1,pl1,hz1⟩:=I1.list hq1
 obtain ⟨its2,rv2,pl2,hz2⟩:=I1.list hq2
 have hlt1:l1<s1.heap.objs.size:=let ⟨o,q,_⟩:=pl1.isList; Bc q
 have hlt2:l2<s1.heap.objs.size:=let ⟨o,q,_⟩:=pl2.isList; Bc q
 refine call_zip_2 pl1.isList pl2.isList λh2 hz hTI hTO hi1 hi2 hsz hk=>wpAny_pyIter_zip hz ?_
 have fr1:∀n,Pr X pins H1 (s1.heap.objs.size+n):=λn=>I1.fpOk (Nat.le_add_right _ _) (I1.hok.fresh (Nat.le_add_right _ _))
 have fr:∀c∈[s1.heap.objs.size+4,s1.heap.objs.size+2,s1.heap.objs.size+3,s1.heap.objs.size,s1.heap.objs.size+1],Pr X pins H1 c:=λc hc=>by
  simp only[Ai,Bw,or_false] at hc
  rcases hc with rfl | rfl | rfl | rfl | rfl
  ·exact fr1 4
  ·exact fr1 2
  ·exact fr1 3
  ·exact fr1 0
  ·exact fr1 1
 exact ⟨s1.heap.objs.size+4,_,_,_,H1,rfl,I1.kept (t':=s1.toks) hk,qX l1 l2 _ _ _ _ _ (oE _ _ _ hlt1 hlt2),⟨hz,hTI,⟨_,_,hTO⟩,hi1,hi2⟩,fr,q⟩
end
theorem wF{K:PySem.W.Frag}{a b:Addr}{xs ys:List V}{g:TG}{tb:TS}{D:Ends}{σ:L2.St}{H:Hp}(Pv:Nat->L2.St->Hp->Prop)(h0:Pv 0 σ H)(hl:∀i σ H,Pv i σ H->Oy K H a xs/\Oy K H b ys)(hs:∀i x y σ H p,xs[i]? = some x->ys[i]? = some y->H p=none->Pv i σ H->g (.ref p) σ (upd H p (.tup [x,y])) λσ2 H2=>tb { D with nx:=Pv (i+1),ct:=Pv (i+1),bk:=D.nx } σ2 H2)(hd:∀σ H,Pv (min xs.length ys.length) σ H->D.nx σ H):∃W:Nat->Nat->L2.St->Hp->Prop,(∃m,W 0 m σ H)/\∀i m σ H,W i m σ H->((M8 K a b).stop i H/\D.nx σ H)\/((M8 K a b).go i H/\∃N:L2.St->Hp->Prop,(∀σ' H',N σ' H'->∃m',m'<m/\W (i+1) m' σ' H')/\∀x H',(M8 K a b).yld i H x H'->g x σ H' λσ2 H2=>tb { D with nx:=N,ct:=N,bk:=D.nx } σ2 H2):=by
 refine ⟨λi m σ H=>m=min xs.length ys.length - i/\i<=min xs.length ys.length/\Pv i σ H,⟨min xs.length ys.length,by simp,Dx _,h0⟩,?_⟩
 (intro i m σ H q_; obtain ⟨rfl,hi,p⟩ := q_)
 obtain ⟨g1,g2⟩:=hl i σ H p
 by_cases hlt:i<min xs.length ys.length
 ·have l1:i<xs.length:=by omega
  have l2:i<ys.length:=by omega
  refine .inr ⟨⟨xs,ys,xs[i],ys[i],g1,g2,by simp [l1],by simp [l2]⟩,Pv (i+1),λσ' H' q=>⟨_,by omega,rfl,by omega,q⟩,?_⟩
  (intro x H' q_; obtain ⟨q,u,v,rfl,nq,rfl,e1,e2⟩ := q_)
  exact hs i u v σ H q (e1 _ g1) (e2 _ g2) nq p
 ·have e:i=min xs.length ys.length:=by omega
  subst e
  exact .inl ⟨⟨xs,ys,g1,g2,by omega⟩,hd σ H p⟩
end Nd
namespace Nd
open PySem PySem.Spec PyProof.Rows L2
open AutoSeq1 (wpAny_loadPart')
end Nd
namespace DL
open PySem L2 Nd
def dB(de:DE):DT:=λδ P=>de δ λx δ'=>match x with
 | .dat _ (.bool b)=>P b δ'
 | _=>False
def Zj:Ad->Bool
 | .none=>false
 | .bool b=>b
 | .int i=>i != 0
 | .str s=>(s.length:Int) != 0
 | .list ds=>!ds.isEmpty
 | .tuple ds=>!ds.isEmpty
 | .dict _=>true
def B7:Ad->Prop
 | .str s=>s.length<=1000000
 | .dict _=>False
 | _=>True
def o4(de:DE):DT:=λδ P=>de δ λx δ'=>match x with
 | .dat _ d=>B7 d/\P (Zj d) δ'
 | _=>False
def xR(dt:DT):DT:=λδ P=>dt δ λb δ'=>P (!b) δ'
def xF(dt du:DT):DT:=λδ P=>dt δ λb δ'=>match b with
 | true=>du δ' P
 | false=>P false δ'
def D0(dt du:DT):DT:=λδ P=>dt δ λb δ'=>match b with
 | true=>P true δ'
 | false=>du δ' P
def J4(de:DE):DE:=λδ P=>de δ λx δ'=>match x with
 | .dat _ (.bool b)=>P (.dat .ow (.bool (!b))) δ'
 | _=>False
def J8(da db:DE):DE:=λδ P=>da δ λx δ'=>match x with
 | .dat _ (.bool true)=>db δ' P
 | .dat _ (.bool false)=>P (.dat .ow (.bool false)) δ'
 | _=>False
def C6(dt:DT)(da db:DE):DE:=λδ P=>dt δ λb δ'=>match b with
 | true=>da δ' P
 | false=>db δ' P
section
variable{K:PySem.W.Frag}{de:DE}
theorem I0:∀σ H Q,LT K (dB de) σ H Q->LE K de σ H λx H'=>∃k,x=.bl k/\Q k H':=by
 intro σ H Q h
 obtain ⟨H0,Y,S,T,δ,P,rfl,hS,hA,hd,k⟩:=h
 refine ⟨H0,Y,S,T,δ,_,rfl,hS,hA,hd,λx δ1 v F S1 H1 e1 e2 hA1 p1=>?_⟩
 split at p1
 ·obtain ⟨rfl,_⟩:=(hA1.told mem_mid).bl_inv
  exact ⟨_,rfl,k _ δ1 S1 H1 e1 e2 hA1.drop p1⟩
 ·exact p1.elim
theorem B2{H:Hp}{v:V}{d:Ad}{F:List Addr}(r:RdF K H v d F)(h:B7 d):vA K v H (Zj d):=by
 cases r with
 | non=>rfl
 | bl b=>rfl
 | int i=>rfl
 | str x=>exact ⟨Yw h,rfl⟩
 | lst e l hs =>
  refine .inl ⟨_,Oy.of e,?_⟩
  have:=hs.len
  rename_i xs ds G
  cases xs <;> cases ds <;> first | rfl | cases this
 | tup e l hs =>
  refine .inr (.inl ⟨_,To.of e,?_⟩)
  have:=hs.len
  rename_i xs ds
  cases xs <;> cases ds <;> first | rfl | cases this
 | dic _ _ _=>exact h.elim
 | dik _ _ _=>exact h.elim
 | dnm _ _ _=>exact h.elim
theorem u9:∀σ H Q,LT K (o4 de) σ H Q->LE K de σ H λx H'=>∃k,vA K x H' k/\Q k H':=by
 intro σ H Q h
 obtain ⟨H0,Y,S,T,δ,P,rfl,hS,hA,hd,k⟩:=h
 refine ⟨H0,Y,S,T,δ,_,rfl,hS,hA,hd,λx δ1 v F S1 H1 e1 e2 hA1 p1=>?_⟩
 split at p1
 ·exact ⟨_,B2 (hA1.told mem_mid) p1.1,k _ δ1 S1 H1 e1 e2 hA1.drop p1.2⟩
 ·exact p1.elim
end
section
variable{X:Cx}{a b c e:Expr}{da db de:DE}{dt du:DT}{pos:Pos}{Ic:List Expr}
theorem Pk(h:Ei X e de)(he:∀whole,isTrue e X.env whole=(do let v <- whole; standAt e.pos; Lc [v] (truthy v)):=by intro _; rfl):dS X e (dB de):=PT.imp (jA h he) I0
theorem Ui{op:CmpOp}{r:R2}{rd:D2}(ho:Uj X (Hf op) r)(o:jX X.K r rd)(ha:Ei X a da)(hb:Ei X b db)(hm:Ff op b=false):dS X (.Compare a [op] [b] pos) (dB (Zo rd da db)):=by
 refine PT.imp (uS ho ha hb hm) λσ H Q h=>?_
 exact kK o _ _ _ (I0 σ H Q h)
theorem yQ(ha:Ei X a da)(hb:Ei X b db):dS X (.Compare a [.Lt] [b] pos) (dB (Zo rdLt da db)):=Ui N9 (eX λ_ _ _=>.bl _) ha hb (Ul _)
theorem yW(ha:Ei X a da)(hb:Ei X b db):dS X (.Compare a [.Gt] [b] pos) (dB (Zo rdGt da db)):=Ui K6 (eX λ_ _ _=>.bl _) ha hb (Ul _)
theorem L8(ha:Ei X a da)(hb:Ei X b db):dS X (.Compare a [.GtE] [b] pos) (dB (Zo rdGe da db)):=Ui yI (eX λ_ _ _=>.bl _) ha hb (Ul _)
theorem Nj(hu:X.A.units+64<cLine)(ha:Ei X a da)(hb:Ei X b db):dS X (.Compare a [.Eq] [b] pos) (dB (Zo (gB false) da db)):=Ui (B1 hu) C9 ha hb (Ul _)
theorem Sk(hu:X.A.units+64<cLine)(ha:Ei X a da)(hb:Ei X b db):dS X (.Compare a [.NotEq] [b] pos) (dB (Zo (gB true) da db)):=Ui (r0 hu) J2 ha hb (Ul _)
theorem fX(hu:X.A.units+64<cLine)(ha:Ei X a da)(hb:Ei X b db)(hm:Ff .NotIn b=false:=by with_unfolding_all rfl):dS X (.Compare a [.NotIn] [b] pos) (dB (Zo (pP true) da db)):=Ui (mW hu) G3 ha hb hm
theorem Wi(ha:Ei X a da)(he:∀whole,isTrue a X.env whole=(do let v <- whole; standAt a.pos; Lc [v] (truthy v)):=by intro _; rfl):dS X a (o4 da):=PT.imp (qD ha he) u9
theorem Pn(h:dS X a dt):dS X (.UnaryOp .Not a pos) (xR dt):=by
 refine PT.imp (pH h) λσ H Q h=>?_
 obtain ⟨H0,Y,S,T,δ,P,rfl,hS,hA,hd,k⟩:=h
 exact ⟨H0,Y,S,T,δ,_,rfl,hS,hA,hd,λb δ' S' H' e1 e2 hA' p=>k _ δ' S' H' e1 e2 hA' p⟩
theorem mF(h:dS X a dt):x4 X (.BoolOp .And [a] pos) dt:=uP h
theorem Wo(h:dS X a dt):x4 X (.BoolOp .Or [a] pos) dt:=A7 h
theorem pN(h:dS X a dt)(hb:x4 X (.BoolOp .And (b::Ic) pos) du):x4 X (.BoolOp .And (a::b::Ic) pos) (xF dt du):=by
 refine PW.imp (i6 h hb) λσ H Q h=>?_
 obtain ⟨H0,Y,S,T,δ,P,rfl,hS,hA,hd,k⟩:=h
 refine ⟨H0,Y,S,T,δ,_,rfl,hS,hA,hd,λb δ' S' H' e1 e2 hA' p=>?_⟩
 cases b with
 | true=>exact nH ⟨H0,Y,S',T,δ',P,e1,e2,hA',p,k⟩
 | false=>exact jS (k _ δ' S' H' e1 e2 hA' p)
theorem Wq(h:dS X a dt)(hb:x4 X (.BoolOp .Or (b::Ic) pos) du):x4 X (.BoolOp .Or (a::b::Ic) pos) (D0 dt du):=by
 refine PW.imp (J5 h hb) λσ H Q h=>?_
 obtain ⟨H0,Y,S,T,δ,P,rfl,hS,hA,hd,k⟩:=h
 refine ⟨H0,Y,S,T,δ,_,rfl,hS,hA,hd,λb δ' S' H' e1 e2 hA' p=>?_⟩
 cases b with
 | true=>exact nH (k _ δ' S' H' e1 e2 hA' p)
 | false=>exact jS ⟨H0,Y,S',T,δ',P,e1,e2,hA',p,k⟩
theorem jC(h:x4 X a dt):dS X a dt:=PW.pt h
theorem zC{op}(h:Ei X a da):Ei X (.BoolOp op [a] pos) da:=p8 h
theorem x9(h:Ei X a da)(hb:Ei X (.BoolOp .And (b::Ic) pos) db):Ei X (.BoolOp .And (a::b::Ic) pos) (J8 da db):=by
 refine PE.imp (p7 h hb) λσ H Q h=>?_
 obtain ⟨H0,Y,S,T,δ,P,rfl,hS,hA,hd,k⟩:=h
 refine ⟨H0,Y,S,T,δ,_,rfl,hS,hA,hd,λx δ1 v F S1 H1 e1 e2 hA1 p1=>?_⟩
 split at p1
 ·obtain ⟨rfl,_⟩:=(hA1.told mem_mid).bl_inv
  exact ⟨_,rfl,nH ⟨H0,Y,S1,T,δ1,P,e1,e2,hA1.drop,p1,k⟩⟩
 ·obtain ⟨rfl,_⟩:=(hA1.told mem_mid).bl_inv
  exact ⟨_,rfl,jS (k _ δ1 _ [] S1 H1 e1 e2 (hA1.drop.pushI (.bl _)) p1)⟩
 ·exact p1.elim
theorem i9(h:Ei X a da):Ei X (.UnaryOp .Not a pos) (J4 da):=by
 refine PE.imp (A5 h) λσ H Q h=>?_
 obtain ⟨H0,Y,S,T,δ,P,rfl,hS,hA,hd,k⟩:=h
 refine ⟨H0,Y,S,T,δ,_,rfl,hS,hA,hd,λx δ1 v F S1 H1 e1 e2 hA1 p1=>?_⟩
 split at p1
 ·obtain ⟨rfl,_⟩:=(hA1.told mem_mid).bl_inv
  exact ⟨_,rfl,k _ δ1 _ [] S1 H1 e1 e2 (hA1.drop.pushI (.bl _)) p1⟩
 ·exact p1.elim
theorem Uv(hc:dS X c dt)(ha:Ei X a da)(hb:Ei X b db):Ei X (.IfExp c a b pos) (C6 dt da db):=by
 refine PE.imp (pU hc ha hb) λσ H Q h=>?_
 obtain ⟨H0,Y,S,T,δ,P,rfl,hS,hA,hd,k⟩:=h
 refine ⟨H0,Y,S,T,δ,_,rfl,hS,hA,hd,λb δ' S' H' e1 e2 hA' p=>?_⟩
 cases b with
 | true=>exact nH ⟨H0,Y,S',T,δ',P,e1,e2,hA',p,k⟩
 | false=>exact jS ⟨H0,Y,S',T,δ',P,e1,e2,hA',p,k⟩
end
theorem PS.impD{X:Cx}{st:Stmt}{t t':TS}(h:PS X st t)(k:∀D σ H,t' D σ H->t D σ H):PS X st t':=λpins s σ H D I q=>h pins s σ H D I (k D σ H q)
theorem jI.impD{X:Cx}{st:List Stmt}{t t':TS}(h:jI X st t)(k:∀D σ H,t' D σ H->t D σ H):jI X st t':=λpins s σ H D I q=>h pins s σ H D I (k D σ H q)
def yO:DB:=λD δ=>D.nx δ
def K2(t u:DB):DB:=λD δ=>t { D with nx:=λδ'=>u D δ' } δ
def N6(de:DE):DB:=λD δ=>de δ D.rt
def xN(de:DE):DB:=λD δ=>de δ λ_ δ'=>D.nx δ'
def V7(dt:DT)(t u:DB):DB:=λD δ=>dt δ λb δ'=>match b with
 | true=>t D δ'
 | false=>u D δ'
def qK(de:DE)(dg:DG):DB:=λD δ=>de δ λx δ'=>dg x δ' D.nx
def j8:DB:=λ_ _=>False
section
variable{X:Cx}{st:Stmt}{e tg c:Expr}{t u:DB}{Ic:List Stmt}{de:DE}{dg:DG}{dt:DT}{pos:Pos}
theorem Fc:Zd X [] yO:=by
 refine jI.impD bK λD σ H h=>?_
 obtain ⟨H0,Y,S,T,δ,P,rfl,hS,hT,hA,hd,k1,k2,k3,k4⟩:=h
 exact k1 δ S H hS hA hd
theorem Bz(h1:lJ X st t)(h2:Zd X Ic u):Zd X (st::Ic) (K2 t u):=by
 refine jI.impD (Je h1 h2) λD σ H h=>?_
 obtain ⟨H0,Y,S,T,δ,P,rfl,hS,hT,hA,hd,k1,k2,k3,k4⟩:=h
 exact ⟨H0,Y,S,T,δ,_,rfl,hS,hT,hA,hd,λδ' S' H' e2 hA' p=>⟨H0,Y,S',T,δ',P,rfl,e2,hT,hA',p,k1,k2,k3,k4⟩,k2,k3,k4⟩
theorem Cj(h1:lJ X st t):Zd X [st] t:=Qb h1
theorem Dv(he:Ei X e de):lJ X (.Return (some e) pos) (N6 de):=by
 refine PS.impD (Ym he) λD σ H h=>?_
 obtain ⟨H0,Y,S,T,δ,P,rfl,hS,hT,hA,hd,k1,k2,k3,k4⟩:=h
 exact ⟨H0,Y,S,T,δ,_,rfl,hS,hA,hd,λx δ' v F S' H' e1 e2 hA' p=>k2 x δ' v F S' H' e2 hA' p⟩
theorem dH(he:Ei X e de)(hs:Oh e none pos.line X.env=pure false:=by rfl):lJ X (.Expr e pos) (xN de):=by
 refine PS.impD (Vu he hs) λD σ H h=>?_
 obtain ⟨H0,Y,S,T,δ,P,rfl,hS,hT,hA,hd,k1,k2,k3,k4⟩:=h
 refine ⟨H0,Y,S,T,δ,_,rfl,hS,hA,hd,λx δ' v F S' H' e1 e2 hA' p=>?_⟩
 rw[<- e1]
 exact k1 δ' S' H' e2 hA'.drop p
theorem Gv{a b:List Stmt}(hc:dS X c dt)(ha:Zd X a t)(hb:Zd X b u):lJ X (.If c a b pos) (V7 dt t u):=by
 refine PS.impD (qZ hc ha hb) λD σ H h=>?_
 obtain ⟨H0,Y,S,T,δ,P,rfl,hS,hT,hA,hd,k1,k2,k3,k4⟩:=h
 refine ⟨H0,Y,S,T,δ,_,rfl,hS,hA,hd,λb δ' S' H' e1 e2 hA' p=>?_⟩
 cases b with
 | true=>exact nH ⟨H0,Y,S',T,δ',P,e1,e2,hT,hA',p,k1,k2,k3,k4⟩
 | false=>exact jS ⟨H0,Y,S',T,δ',P,e1,e2,hT,hA',p,k1,k2,k3,k4⟩
theorem jK{K:PySem.W.Frag}{te:TE}{g:TG}(h1:∀σ H Q,LE K de σ H Q->te σ H Q)(h2:∀v σ H Q,LG K dg v σ H Q->g v σ H Q):∀D σ H,LS K (qK de dg) D σ H->w4 te g D σ H:=by
 intro D σ H h
 obtain ⟨H0,Y,S,T,δ,P,rfl,hS,hT,hA,hd,k1,k2,k3,k4⟩:=h
 refine h1 _ _ _ ⟨H0,Y,S,T,δ,_,rfl,hS,hA,hd,λx δ' v F S' H' e1 e2 hA' p=>?_⟩
 exact h2 _ _ _ _ ⟨H0,Y,S',T,δ',x,F,P.nx,e1,e2,hA',p,λδ2 S2 H2 e3 hA2 q=>k1 δ2 S2 H2 e3 hA2 q⟩
theorem o8(he:Ei X e de)(hg:M1 X tg dg)(hs:swapsWithSole [tg] e pos.line X.env=pure false:=by rfl)(hw:swappedStores [tg] e X.env=pure none:=by rfl)(h1:(Fq [tg] X.env).map (·.2)=[assign tg X.env]:=by rfl):lJ X (.Assign [tg] e pos) (qK de dg):=PS.impD (aZ he hg hs hw h1) (jK (λ_ _ _ h=>h) λ_ _ _ _ h=>h)
theorem Nf:lJ X st j8:=by
 refine PS.impD sD λD σ H h=>?_
 obtain ⟨H0,Y,S,T,δ,P,rfl,hS,hT,hA,hd,_⟩:=h
 exact hd
end
def Rq(i:Nat):DG:=λx δ P=>match x with
 | .dat .pk _=>False
 | .dat _ d=>P ⟨δ.sl.set i (.dat .sh d),δ.n⟩
 | .val v=>P ⟨δ.sl.set i (.val v),δ.n⟩
 | .drw=>P ⟨δ.sl.set i .drw,δ.n⟩
 | .dT kvs=>P ⟨δ.sl.set i (.dT kvs),δ.n⟩
 | _=>False
def kD(i:Nat):DG:=λx δ P=>match x with
 | .dat .ow d=>P ⟨δ.sl.set i (.dat .ow d),δ.n⟩
 | .dat .tp d=>P ⟨δ.sl.set i (.dat .tp d),δ.n⟩
 | _=>False
theorem At.store{K:PySem.W.Frag}{H0 H:Hp}{X:Addr->Prop}{n:Nat}{S T:List Ent}{e:Ent}{i:Nat}(h:At K H0 X n (S++e::T) H):At K H0 X n (S.set i e++T) H:=by
 by_cases hi:i<S.length
 ·have hx:S[i]? = some S[i]:=by simp [hi]
  have p:(S++e::T).Perm (S[i]::(S.set i e++T)):=by
   refine List.perm_middle.trans ?_
   rw[<- Ew,<- Ew]
   exact (Xm hx).append_right T
  exact (h.perm p).sub (Dd _ _)
 ·rw[iF (by omega)]
  exact h.drop
theorem rX{S:List Ent}{i:Nat}{v:V}{x:DV}{F:List Addr}:vs (S.set i ⟨some v,x,F⟩)=(vs S).set i (some v):=by
 unfold vs
 rw[Em]
theorem qH{S:List Ent}{δ:DS}{i n:Nat}{v:V}{x:DV}{F:List Addr}(h:Sl S δ):Sl (S.set i ⟨some v,x,F⟩) ⟨δ.sl.set i x,n⟩:=by
 unfold Sl at h ⊢
 rw[Em,h]
theorem mO{K:PySem.W.Frag}{i:Nat}:∀v σ H Q,LG K (Rq i) v σ H Q->aA i v σ H Q:=by
 intro v σ H Q h
 obtain ⟨H0,Y,S,T,δ,x,F,P,rfl,hS,hA,hd,k⟩:=h
 show Q ((vs S).set i (some v)) H
 have fin:∀y,At K H0 Y δ.n (S++⟨some v,y,F⟩::T) H->P ⟨δ.sl.set i y,δ.n⟩->Q ((vs S).set i (some v)) H:=λy hA' p=>by
  rw[<- rX (x:=y) (F:=F)]
  exact k _ _ H (qH hS) hA'.store p
 unfold Rq at hd
 split at hd
 ·exact hd.elim
 ·rename_i m d hm
  refine fin _ ?_ hd
  refine (hA.mid.wk ?_).tomid
  cases m <;> first | rfl | exact (hm rfl).elim
 ·exact fin _ hA hd
 ·exact fin _ hA hd
 ·exact fin _ hA hd
 ·exact hd.elim
theorem zS{K:PySem.W.Frag}{i:Nat}:∀v σ H Q,LG K (kD i) v σ H Q->aA i v σ H Q:=by
 intro v σ H Q h
 obtain ⟨H0,Y,S,T,δ,x,F,P,rfl,hS,hA,hd,k⟩:=h
 show Q ((vs S).set i (some v)) H
 have fin:∀y,At K H0 Y δ.n (S++⟨some v,y,F⟩::T) H->P ⟨δ.sl.set i y,δ.n⟩->Q ((vs S).set i (some v)) H:=λy hA' p=>by
  rw[<- rX (x:=y) (F:=F)]
  exact k _ _ H (qH hS) hA'.store p
 unfold kD at hd
 split at hd
 ·exact fin _ hA hd
 ·exact fin _ hA hd
 ·exact hd.elim
section
variable{X:Cx}{pos:Pos}
theorem Ih{i:Nat}{x:Str}(hN:X.N.Nodup)(hi:X.N[i]? = some x)(hx:Loc X.env.scope x)(hf:X.fn x=true\/X.env.scope.names.lookup x=some .local:=by first | exact .inl rfl | exact .inr rfl | assumption):M1 X (.Name x pos) (Rq i):=PG.imp (Qi hN hi hx hf) mO
theorem Fl{i:Nat}{x:Str}{e:Expr}{de:DE}{pos':Pos}(hN:X.N.Nodup)(hi:X.N[i]? = some x)(hx:Loc X.env.scope x)(he:Ei X e de)(hs:Oh e (some (.Name x pos')) pos.line X.env=pure false:=by rfl)(hf:X.fn x=true\/X.env.scope.names.lookup x=some .local:=by first | exact .inl rfl | exact .inr rfl | assumption):lJ X (.Assign [.Name x pos'] e pos) (qK de (Rq i)):=PS.impD (Uu hN hi hx he hs hf) (jK (λ_ _ _ h=>h) mO)
theorem Qh{i:Nat}{x:Str}{e:Expr}{de:DE}{pos':Pos}(hN:X.N.Nodup)(hi:X.N[i]? = some x)(hx:Loc X.env.scope x)(he:Ei X e de)(hs:Oh e (some (.Name x pos')) pos.line X.env=pure false:=by rfl)(hf:X.fn x=true\/X.env.scope.names.lookup x=some .local:=by first | exact .inl rfl | exact .inr rfl | assumption):lJ X (.Assign [.Name x pos'] e pos) (qK de (kD i)):=PS.impD (Uu hN hi hx he hs hf) (jK (λ_ _ _ h=>h) zS)
end
def sG:uF:=λxs δ P=>match xs with
 | []=>P δ
 | _=>False
def kR(g:DG)(gs:uF):uF:=λxs δ P=>match xs with
 | x::r=>g x δ λδ'=>gs r δ' P
 | []=>False
def qN(n:Nat)(gs:uF):DG:=λx δ P=>match x with
 | .dat m (.tuple ds)=>ds.length=n/\gs (ds.map λd=>.dat (Oc m) d) δ P
 | _=>False
theorem At.unpack{K:PySem.W.Frag}{H0 H:Hp}{X:Addr->Prop}{n:Nat}{m:Md}:∀{us:List V} {ds:List Ad} {F:List Addr} {E:List Ent},RdFs K H us ds F->(m=.ow->F.Nodup)->(∀f∈E,Sg ⟨none,.dat (Oc m) .none,F⟩ f)->(∀a∈cells ⟨none,.dat (Oc m) .none,F⟩,H0 a=none)->At K H0 X n E H->∃As:List Ent,As.map Ent.v=us.map some/\As.map Ent.x=ds.map (λd=>.dat (Oc m) d)/\(∀e∈As,∀a∈e.F,a∈F)/\At K H0 X n (As++E) H
 | _,_,_,_,.nil,_,_,_,h=>⟨[],rfl,rfl,λ_ z=>(nomatch z),h⟩
 | _,_,_,E,.cons (x:=x) (d:=d) (F:=F1) (G:=G1) a t,hn,hs,hnew,h=>by
  have cs:∀{G:List Addr} {u:Option V} {d':Ad},(∀b∈G,b∈F1++G1)->∀b∈cells ⟨u,.dat (Oc m) d',G⟩,b∈cells ⟨none,.dat (Oc m) .none,F1++G1⟩:=λ{G u d'} hG b hb=>by
   cases m with
   | ow=>exact hG b hb
   | _=>exact nomatch hb
  have sub:∀{G:List Addr} {u:Option V} {d':Ad} {f:Ent},(∀b∈G,b∈F1++G1)->Sg ⟨none,.dat (Oc m) .none,F1++G1⟩ f->Sg ⟨u,.dat (Oc m) d',G⟩ f:=λ{G u d' f} hG q=>by
   refine ⟨λhp b hb=>q.1 ?_ b (cs hG b hb),λhp b hb z=>q.2 ?_ b hb (hG b z)⟩
   ·rcases hp with hp | hp
    ·exact .inl hp
    ·cases hp
   ·rcases hp with hp | hp
    ·refine .inl ?_
     cases m <;> exact hp
    ·exact .inr hp
  obtain ⟨As,h1,h2,h3,h4⟩:=At.unpack (m:=m) t (λz=>(Fg.mp (hn z)).2.1) (λf hf=>sub (λb hb=>Ap _ hb) (hs f hf)) (λb hb=>hnew b (cs (λb hb=>Ap _ hb) b hb)) h
  refine ⟨⟨some x,.dat (Oc m) d,F1⟩::As,by rw[Au,Au,h1],by rw[Au,Au,h2],λe he b hb=>?_,?_⟩
  ·rcases Ai.mp he with rfl | he
   ·exact An _ hb
   ·exact Ap _ (h3 e he b hb)
  ·refine h4.push ⟨x,rfl,a,λz=>?_,λz=>?_⟩ (λf hf=>?_) λb hb=>.inl (hnew b (cs (λb hb=>An _ hb) b hb))
   ·cases m with
    | ow=>exact (Fg.mp (hn rfl)).1
    | _=>cases z
   ·cases m <;> cases z
   ·rcases Bg.mp hf with hf | hf
    ·have hx:f.x∈As.map Ent.x:=Bh.mpr ⟨f,hf,rfl⟩
     rw[h2] at hx
     obtain ⟨d',_,ed⟩:=Bh.mp hx
     refine ⟨λhp b hb z=>?_,λhp b hb z=>?_⟩
     ·cases m with
      | ow=>exact (Fg.mp (hn rfl)).2.2 b hb b (h3 f hf b z) rfl
      | _=>exact nomatch hb
     ·cases m with
      | ow=>exact (Fg.mp (hn rfl)).2.2 b z b (h3 f hf b (Gf _ _ hb)) rfl
      | _ =>
       unfold cells at hb
       rw[<- ed] at hb
       exact nomatch hb
    ·exact sub (λb hb=>An _ hb) (hs f hf)
section
variable{X:Cx}{pos:Pos}
theorem wJ:vO X [] sG:=by
 refine i7.imp cK λus σ H Q h=>?_
 obtain ⟨H0,Y,S,T,As,δ,P,rfl,hS,eu,hA,hd,k⟩:=h
 match As,hA,hd,eu with
 | [],hA,hd,eu =>
  cases us with
  | nil=>exact ⟨rfl,k δ S H hS hA hd⟩
  | cons _ _=>cases eu
 | _::_,hA,hd,eu=>exact hd.elim
theorem Wz{e:Expr}{es:List Expr}{g:DG}{gs:uF}(h1:M1 X e g)(h2:vO X es gs)(hs:(Fq (e::es) X.env).map (·.2)=assign e X.env::(Fq es X.env).map (·.2):=by rfl):vO X (e::es) (kR g gs):=by
 refine i7.imp (Ow h1 h2 hs) λus σ H Q h=>?_
 obtain ⟨H0,Y,S,T,As,δ,P,rfl,hS,eu,hA,hd,k⟩:=h
 match As,hA,hd,eu with
 | [],hA,hd,eu=>exact hd.elim
 | ⟨v,x,F⟩::As,hA,hd,eu =>
  cases us with
  | nil=>cases eu
  | cons u us =>
   rw[Au,Au] at eu
   obtain ⟨e1,e2⟩:=Kd eu
   have e1':v=some u:=e1
   subst e1'
   refine ⟨u,us,rfl,H0,Y,S,As++T,δ,x,F,_,rfl,hS,hA,hd,λδ' S' H' e3 hA' p=>?_⟩
   exact ⟨H0,Y,S',T,As,δ',P,rfl,e3,e2,hA',p,k⟩
theorem o9{es:List Expr}{kk:Nat}{gs:uF}{n:Nat}(hc:X.calm=true)(h:vO X es gs)(hn:(Fq es X.env).length=n:=by rfl)(hst:(Fq es X.env).findIdx? (·.1)=none:=by rfl):M1 X (.Tuple es kk pos) (qN n gs):=by
 refine PG.imp (iS hc h hn hst) λv σ H Q h=>?_
 obtain ⟨H0,Y,S,T,δ,x,F,P,rfl,hS,hA,hd,k⟩:=h
 unfold qN at hd
 split at hd
 ·rename_i m ds
  obtain ⟨a,xs,rfl,ha,ra,hz⟩:=(hA.told mem_mid).tup_inv
  have hm:=hA.mid
  have hp:=Ax.mp hm.sep
  obtain ⟨w,_,_,hnd,_⟩:=hm.ok _ Aa
  have cs:∀b∈cells ⟨none,.dat (Oc m) .none,F⟩,b∈cells ⟨some (.ref a),.dat m (.tuple ds),F⟩:=λb hb=>by
   cases m with
   | ow=>exact hb
   | _=>exact nomatch hb
  obtain ⟨As,h1,h2,h3,h4⟩:=At.unpack (m:=m) (E:=S++T) ra hnd (λf hf=>by
   refine ⟨λhq b hb=>(hp.1 f hf).1 ?_ b (cs b hb),λhq b hb=>(hp.1 f hf).2 ?_ b hb⟩
   ·rcases hq with hq | hq
    ·exact .inl hq
    ·cases hq
   ·rcases hq with hq | hq
    ·refine .inl ?_
     cases m <;> first | rfl | exact hq
    ·exact .inr hq) (λb hb=>by
   rcases hm.new _ Aa b (cs b hb) with z | z
   ·exact z
   ·cases z.2) hA.drop
  refine ⟨a,xs,rfl,To.of ha,by rw[ra.len]; exact hd.1,H0,Y,S,T,As,δ,P,rfl,hS,h1,h4.perm ?_,by rw[h2]; exact hd.2,k⟩
  rw[<- Ea,<- Ea]
  exact mQ.append_right T
 ·exact hd.elim
end
theorem jP{K:PySem.W.Frag}{H0 H:Hp}{X:Addr->Prop}{n:Nat}{E:List Ent}(h:At K H0 X n E H):∀{e f:Ent},e∈E->f∈E->e=f\/Sg e f:=by
 have main:∀{E:List Ent},E.Pairwise Sg->∀{e f:Ent},e∈E->f∈E->e=f\/Sg e f:=by
  intro E
  induction E with
  | nil=>intro _ e f he; cases he
  | cons g E ih =>
   intro hp e f he hf
   have hc:=Ax.mp hp
   rcases Ai.mp he with he | he
   ·subst he
    rcases Ai.mp hf with hf | hf
    ·exact .inl hf.symm
    ·exact .inr (hc.1 f hf)
   ·rcases Ai.mp hf with hf | hf
    ·rw[hf]
     exact .inr (hc.1 e he).symm
    ·exact ih hc.2 he hf
 intro e f he hf
 exact main h.sep he hf
abbrev DI:=DS->(Md->List Ad->DS->Prop)->Prop
structure IterOk(K:PySem.W.Frag)(J:It)(hid:List Ent)(m:Md)(ds:List Ad):Prop where
 md:m=.sh\/m=.pk
 hd:∀e∈hid,cells e=[]
 np:m=.sh->∀e∈hid,Lx e.x=false
 go:∀H n i,(∀e∈hid,Hv K H n e)->i<ds.length->J.go i H
 yld:∀H n i x H',(∀e∈hid,Hv K H n e)->i<ds.length->J.yld i H x H'->Yc H H'/\∃d F,ds[i]? = some d/\RdF K H' x d F/\∀a∈F,∃e∈hid,a∈e.F
 stop:∀H n,(∀e∈hid,Hv K H n e)->J.stop ds.length H
def LI(K:PySem.W.Frag)(di:DI):TI:=λσ H R=>∃(H0:Hp) (X:Addr->Prop) (S T:List Ent) (δ:DS) (P:Md->List Ad->DS->Prop),vs S=σ/\Sl S δ/\At K H0 X δ.n (S++T) H/\di δ P /\
 ∀m ds δ' J hid S' H',vs S'=σ->Sl S' δ'->At K H0 X δ'.n (S'++(hid++T)) H'->IterOk K J hid m ds->ds.length<=Aw->P m ds δ'->R J H'
abbrev p6(X:Cx)(tg iter:Expr)(di:DI):Prop:=PI X tg iter (LI X.K di)
theorem PI.imp{X:Cx}{tg e:Expr}{t t':TI}(h:PI X tg e t)(k:∀σ H Q,t' σ H Q->t σ H Q):PI X tg e t':=λpins s σ H Q I q=>h pins s σ H Q I (k σ H Q q)
def Kj:Md->Md
 | .pk=>.pk
 | _=>.sh
theorem kG(m:Md):wk m (Kj m)=true:=by cases m <;> rfl
theorem At.item{K:PySem.W.Frag}{H0 H H':Hp}{X:Addr->Prop}{n:Nat}{S T hid:List Ent}{m:Md}{v:V}{d:Ad}{F:List Addr}(h:At K H0 X n (S++(hid++T)) H)(s:Yc H H')(r:RdF K H' v d F)(hF:∀a∈F,∃e∈hid,a∈e.F)(md:m=.sh\/m=.pk)(hh:∀e∈hid,cells e=[])(np:m=.sh->∀e∈hid,Lx e.x=false):At K H0 X n (S++⟨some v,.dat m d,F⟩::(hid++T)) H':=by
 have h1:=h.grow (n':=n) s (Ah _)
 have c0:∀a,a∉cells ⟨some v,.dat m d,F⟩:=λa ha=>by
  rcases md with rfl | rfl <;> exact nomatch ha
 refine (h1.push (e:=⟨some v,.dat m d,F⟩) ⟨v,rfl,r,λz=>?_,λz=>?_⟩ (λf hf=>⟨λ_ a ha=>absurd ha (c0 a),λhq a ha z=>?_⟩) λa ha=>absurd ha (c0 a)).tomid
 ·rcases md with rfl | rfl <;> cases z
 ·rcases md with rfl | rfl <;> cases z
 ·obtain ⟨e,he,ze⟩:=hF a z
  have he':e∈S++(hid++T):=Ap _ (An _ he)
  rcases jP h he' hf with rfl | q
  ·rw[hh e he] at ha
   cases ha
  ·refine q.2 ?_ a ha ze
   rcases hq with hq | hq
   ·refine .inl (np ?_ e he)
    rcases md with rfl | rfl
    ·rfl
    ·cases hq
   ·exact .inr hq
def V5(de:DE):DI:=λδ P=>de δ λx δ'=>match x with
 | .dat m (.list ds)=>P (Kj m) ds δ'
 | .dat m (.tuple ds)=>P (Kj m) ds δ'
 | _=>False
def gE(da:DA):DI:=λδ P=>da δ λxs δ'=>match xs with
 | [.dat _ (.int j)]=>-1000000<=j/\j<=1000000/\P .sh ((Br j.toNat).map λi:Nat=>.int i) δ'
 | _=>False
def R7(da:DA):DI:=λδ P=>da δ λxs δ'=>match xs with
 | [.dat m (.list ds)]=>P (Kj m) (ds.zipIdx.map λp=>.tuple [.int p.2,p.1]) δ'
 | _=>False
def O3(da:DA):DI:=λδ P=>da δ λxs δ'=>match xs with
 | [.dat m (.tuple ds)]=>P (Kj m) (ds.zipIdx.map λp=>.tuple [.int p.2,p.1]) δ'
 | _=>False
section
variable{K:PySem.W.Frag}
theorem Qt{H:Hp}{n:Nat}{v:V}{m:Md}{d:Ad}{F:List Addr}{hid:List Ent}(h:∀e∈hid,Hv K H n e)(he:⟨some v,.dat m d,F⟩∈hid):RdF K H v d F:=by
 obtain ⟨w,e1,h1,_⟩:=h _ he
 cases e1
 exact h1
theorem pK{v:Option V}{m:Md}{d:Ad}{F:List Addr}:cells ⟨v,.dat (Kj m) d,F⟩=[]:=by cases m <;> rfl
theorem pI{v:Option V}{m:Md}{d:Ad}{F:List Addr}:∀e∈[(⟨v,.dat (Kj m) d,F⟩ : Ent)],cells e=[]:=λe he=>by
 rw[Am.mp he]
 exact pK
theorem yU{v:Option V}{m:Md}{d:Ad}{F:List Addr}:Kj m=.sh->∀e∈[(⟨v,.dat (Kj m) d,F⟩ : Ent)],Lx e.x=false:=λz e he=>by
 rw[Am.mp he]
 show Lx (.dat (Kj m) d)=false
 rw[z]
 rfl
theorem mK(m:Md):Kj m=.sh\/Kj m=.pk:=by cases m <;> simp [Kj]
theorem oS{a:Addr}{m:Md}{ds:List Ad}{F:List Addr}:IterOk K (T1 K a) [⟨some (.ref a),.dat (Kj m) (.list ds),F⟩] (Kj m) ds where
 md:=mK m
 hd:=pI
 np:=yU
 go:=λH n i h hi=>by
  obtain ⟨b,xs,G,e,hb,rb,_,_⟩:=(Qt h Aa).list_inv
  cases e
  have hl:=rb.len
  exact ⟨xs,xs[i],Oy.of hb,by simp [show i<xs.length by omega]⟩
 yld:=λH n i x H' h hi y=>by
  obtain ⟨b,xs,G,e,hb,rb,rfl,_⟩:=(Qt h Aa).list_inv
  cases e
  obtain ⟨rfl,y⟩:=y
  have hx:=y xs (Oy.of hb)
  obtain ⟨x',F',h1,h2,h3⟩:=rb.get (i:=i) (e:=ds[i]) (by simp [hi])
  rw[hx] at h1
  cases h1
  exact ⟨Yc.refl _,ds[i],F',by simp [hi],h2,λc hc=>⟨_,Aa,Ab _ (h3.subset hc)⟩⟩
 stop:=λH n h=>by
  obtain ⟨b,xs,G,e,hb,rb,_,_⟩:=(Qt h Aa).list_inv
  cases e
  exact ⟨xs,Oy.of hb,by rw[rb.len]; exact Ah _⟩
theorem rC{a:Addr}{m:Md}{ds:List Ad}{F:List Addr}:IterOk K (S7 K a) [⟨some (.ref a),.dat (Kj m) (.tuple ds),F⟩] (Kj m) ds where
 md:=mK m
 hd:=pI
 np:=yU
 go:=λH n i h hi=>by
  obtain ⟨b,xs,e,hb,rb,_⟩:=(Qt h Aa).tup_inv
  cases e
  have hl:=rb.len
  exact ⟨xs,xs[i],To.of hb,by simp [show i<xs.length by omega]⟩
 yld:=λH n i x H' h hi y=>by
  obtain ⟨b,xs,e,hb,rb,_⟩:=(Qt h Aa).tup_inv
  cases e
  obtain ⟨rfl,y⟩:=y
  have hx:=y xs (To.of hb)
  obtain ⟨x',F',h1,h2,h3⟩:=rb.get (i:=i) (e:=ds[i]) (by simp [hi])
  rw[hx] at h1
  cases h1
  exact ⟨Yc.refl _,ds[i],F',by simp [hi],h2,λc hc=>⟨_,Aa,h3.subset hc⟩⟩
 stop:=λH n h=>by
  obtain ⟨b,xs,e,hb,rb,_⟩:=(Qt h Aa).tup_inv
  cases e
  exact ⟨xs,To.of hb,by rw[rb.len]; exact Ah _⟩
theorem jG{lo:Int}{n:Nat}:IterOk K (E5 lo n) [] .sh ((Br n).map λi:Nat=>.int (lo+i)) where
 md:=.inl rfl
 hd:=λ_ z=>nomatch z
 np:=λ_ _ z=>nomatch z
 go:=λH k i h hi=>by
  show i<n
  simpa using hi
 yld:=λH k i x H' h hi y=>by
  obtain ⟨rfl,rfl⟩:=y
  rw[Ae,De] at hi
  exact ⟨Yc.refl _,.int (lo+i),[],by simp [hi],.int _,λ_ z=>nomatch z⟩
 stop:=λH k h=>by simp [E5]
end
section
variable{X:Cx}{tg e:Expr}{de:DE}{di:DI}
def dL(de:DE):DI:=λδ P=>de δ λx δ'=>match x with
 | .dat m (.list ds)=>P (Kj m) ds δ'
 | _=>False
def V0(de:DE):DI:=λδ P=>de δ λx δ'=>match x with
 | .dat m (.tuple ds)=>P (Kj m) ds δ'
 | _=>False
theorem uH(h:Ei X e de):p6 X tg e (dL de):=by
 refine PI.imp (vT h) λσ H R h=>?_
 obtain ⟨H0,Y,S,T,δ,P,rfl,hS,hA,hd,k⟩:=h
 refine ⟨H0,Y,S,T,δ,_,rfl,hS,hA,hd,λx δ1 v F S1 H1 e1 e2 hA1 p1=>?_⟩
 split at p1
 ·obtain ⟨a,xs,G,rfl,ha,ra,rfl,hz⟩:=(hA1.told mem_mid).list_inv
  exact ⟨a,rfl,⟨xs,Oy.of ha⟩,k _ _ δ1 _ [_] S1 H1 e1 e2 ((hA1.mid.wk (kG _)).tomid) oS hz p1⟩
 ·exact p1.elim
theorem R4(h:Ei X e de):p6 X tg e (V0 de):=by
 refine PI.imp (d0 h) λσ H R h=>?_
 obtain ⟨H0,Y,S,T,δ,P,rfl,hS,hA,hd,k⟩:=h
 refine ⟨H0,Y,S,T,δ,_,rfl,hS,hA,hd,λx δ1 v F S1 H1 e1 e2 hA1 p1=>?_⟩
 split at p1
 ·obtain ⟨a,xs,rfl,ha,ra,hz⟩:=(hA1.told mem_mid).tup_inv
  exact ⟨a,rfl,⟨xs,To.of ha⟩,k _ _ δ1 _ [_] S1 H1 e1 e2 ((hA1.mid.wk (kG _)).tomid) rC hz p1⟩
 ·exact p1.elim
variable{es:List Expr}{da:DA}{a b:Expr}{p pos tp:Pos}{elts:List Expr}{kt:Nat}
theorem Nn(hg:Gl X "range")(hm:X.mg "range" = none)(ha:oW X [a] da)(hs:Bd [a] X.env=[(false,eval a X.env)]:=by rfl):p6 X tg (.Call (.Name "range" p) [a] [] pos) (gE da):=by
 refine PI.imp (pB hg hm ha hs) λσ H R h=>?_
 obtain ⟨H0,Y,S,T,δ,P,rfl,hS,hA,hd,k⟩:=h
 refine ⟨H0,Y,S,T,δ,_,rfl,hS,hA,hd,λxs δ' As us S' H' e1 e2 ex eu hA' p=>?_⟩
 split at p
 ·obtain ⟨v,F,rfl,hA2⟩:=Il eu hA' ex
  obtain ⟨rfl,_⟩:=(hA2.told mem_mid).int_inv
  obtain ⟨j0,j1,pp⟩:=p
  refine ⟨_,rfl,by omega,by omega,k _ _ δ' _ [] S' H' e1 e2 hA2.drop jG (by rw[Ae,De]; exact Yw (by omega)) ?_⟩
  simpa using pp
 ·exact p.elim
end
def M4(di:DI)(dg:DG)(db:DB):DB:=λD δ=>di δ λm ds δ1=>m=.sh/\∃I:Nat->DS->Prop,I 0 δ1 /\
 (∀i d δ',ds[i]? = some d->I i δ'->dg (.dat .sh d) δ' λδ2=>db { D with nx:=I (i+1),ct:=I (i+1),bk:=D.nx } δ2)/\∀δ',I ds.length δ'->D.nx δ'
section
variable{X:Cx}{tg iter:Expr}{di:DI}{dg:DG}{db:DB}{body:List Stmt}{pos:Pos}
theorem At.dropH{K:PySem.W.Frag}{H0 H:Hp}{X:Addr->Prop}{n:Nat}{S T hid:List Ent}{e:Ent}(h:At K H0 X n (S++e::(hid++T)) H):At K H0 X n (S++e::T) H:=h.sub ((Dn S).append ((Da hid T).cons₂ e))
theorem Oe(hp:PassesOwn (model X.prog X.w) X.A X.env X.xe)(hc:X.calm=true)(hi:p6 X tg iter di)(hg:M1 X tg dg)(hb:Zd X body db)(hs:∀x,Gn iter X.env x=pure x:=by intro _; rfl):lJ X (.For tg iter body [] pos) (M4 di dg db):=by
 refine PS.impD (qR hp hc hi hg hb hs) λD σ H h=>?_
 obtain ⟨H0,Y,S,T,δ,P,rfl,hS,hT,hA,hd,k1,k2,k3,k4⟩:=h
 refine ⟨H0,Y,S,T,δ,_,rfl,hS,hA,hd,λm ds δ1 J hid S1 H1 e1 e2 hA1 it hz p1=>?_⟩
 obtain ⟨rfl,I,h0,hs,hf⟩:=p1
 rw[<- e1]
 have hT':∀e∈hid++T,Lx e.x=false:=λe he=>by
  rcases Bg.mp he with he | he
  ·exact it.np rfl e he
  ·exact hT e he
 refine ⟨λi q σ H=>q=ds.length - i/\i<=ds.length/\∃S δ,vs S=σ/\Sl S δ/\At X.K H0 Y δ.n (S++(hid++T)) H/\I i δ,⟨ds.length,by simp,Dx _,S1,δ1,rfl,e2,hA1,h0⟩,?_⟩
 (intro i q σ H q_; obtain ⟨rfl,hi,S2,δ2,rfl,e3,hA2,hI⟩ := q_)
 have hid_ok:∀e∈hid,Hv X.K H δ2.n e:=λe he=>hA2.ok e (Ap _ (An _ he))
 by_cases hlt:i<ds.length
 ·refine .inr ⟨it.go H δ2.n i hid_ok hlt,λσ' H'=>∃S δ,vs S=σ'/\Sl S δ/\At X.K H0 Y δ.n (S++(hid++T)) H'/\I (i+1) δ,λσ' H' q=>⟨ds.length - (i+1),by omega,rfl,hlt,q⟩,λx H' y=>?_⟩
  obtain ⟨s1,d,F,h1,h2,h3⟩:=it.yld H δ2.n i x H' hid_ok hlt y
  refine ⟨H0,Y,S2,hid++T,δ2,.dat .sh d,F,_,rfl,e3,hA2.item s1 h2 h3 it.md it.hd it.np,hs i d δ2 h1 hI,λδ3 S3 H3 e4 hA3 p3=>?_⟩
  refine ⟨H0,Y,S3,hid++T,δ3,_,rfl,e4,hT',hA3,p3,λδ4 S4 H4 e5 hA4 p4=>⟨S4,δ4,rfl,e5,hA4,p4⟩,λx δ4 v F S4 H4 e5 hA4 p4=>k2 x δ4 v F S4 H4 e5 hA4.dropH p4,
   λδ4 S4 H4 e5 hA4 p4=>k1 δ4 S4 H4 e5 hA4.dropL p4,λδ4 S4 H4 e5 hA4 p4=>⟨S4,δ4,rfl,e5,hA4,p4⟩⟩
 ·have e:i=ds.length:=by omega
  subst e
  exact .inl ⟨it.stop H δ2.n hid_ok,k1 δ2 S2 H e3 hA2.dropL (hf δ2 hI)⟩
end
end DL
namespace Nd
open PySem PySem.Spec PyProof.Rows L2
end Nd
namespace DL
open PySem L2 Nd
def al(e:Ent):Ent:=match e.x with
 | .dat m d=>⟨e.v,.dat (eO m) d,e.F⟩
 | .val _=>e
 | .scr _=>e
 | _=>⟨e.v,.un,[]⟩
def alD:DV->DV
 | .dat m d=>.dat (eO m) d
 | .val v=>.val v
 | .scr ns=>.scr ns
 | _=>.un
def pY(S:List Ent)(j:Nat):Ent:=match S[j]? with
 | some e=>al e
 | none=>⟨none,.un,[]⟩
def pF(S:List Ent)(js:List Nat):List Ent:=js.map (pY S)
def frD1(sl:List DV)(j:Nat):DV:=match sl[j]? with
 | some x=>alD x
 | none=>.un
def frD(sl:List DV)(js:List Nat):List DV:=js.map (frD1 sl)
theorem R8(e:Ent):(al e).v=e.v:=by
 obtain ⟨v,x,F⟩:=e
 cases x <;> rfl
theorem P6(e:Ent):(al e).x=alD e.x:=by
 obtain ⟨v,x,F⟩:=e
 cases x <;> rfl
theorem yK(S:List Ent)(js:List Nat):vs (pF S js)=Hk (vs S) js:=by
 unfold vs pF Hk
 rw[Ds]
 refine Tj λj _=>?_
 rw[Cf]
 simp only[Rj,pY]
 cases S[j]? with
 | none=>rfl
 | some e=>exact R8 e
theorem xK{S:List Ent}{δ:DS}(h:Sl S δ)(js:List Nat):(pF S js).map Ent.x=frD δ.sl js:=by
 unfold Sl at h
 unfold pF frD
 rw[Ds]
 refine Tj λj _=>?_
 simp only[Rj,pY,frD1]
 rw[<- h,Cf]
 cases S[j]? with
 | none=>rfl
 | some e=>exact P6 e
section
variable{K:PySem.W.Frag}{H0 H H':Hp}{X:Addr->Prop}{n:Nat}{E S T:List Ent}
theorem gG(e:Ent):cells (al e)=[]:=by
 obtain ⟨v,x,F⟩:=e
 cases x with
 | dat m d=>cases m <;> rfl
 | _=>rfl
theorem At.view1(h:At K H0 X n E H){e:Ent}(he:e∈E):At K H0 X n (al e::E) H:=by
 refine h.push ?_ (λf hf=>⟨λ_ a ha=>(by rw[gG] at ha; cases ha),λhq a ha z=>?_⟩) λa ha=>(by rw[gG] at ha; cases ha)
 ·have:=h.ok e he
  obtain ⟨v,x,F⟩:=e
  cases x with
  | dat m d =>
   obtain ⟨w,h1,h2,_⟩:=this
   exact ⟨w,h1,h2,λz=>(by cases m <;> cases z),λz=>(by cases m <;> cases z)⟩
  | val v=>exact this
  | scr ns=>exact this
  | _=>exact (rfl:([]:List Addr)=[])
 ·obtain ⟨v,x,F⟩:=e
  cases x with
  | dat m d =>
   rcases jP h he hf with rfl | q
   ·rcases hq with hq | hq
    ·cases m <;> first | cases hq; done | exact nomatch ha
    ·cases hq
   ·refine q.2 ?_ a ha z
    rcases hq with hq | hq
    ·refine .inl ?_
     cases m <;> first | rfl | exact hq
    ·exact .inr hq
  | val v =>
   rw[show F=[] from (h.ok _ he).2] at z
   cases z
  | scr ns =>
   obtain ⟨_,_,hF,_⟩:=h.ok _ he
   rw[show F=[] from hF] at z
   cases z
  | _=>exact nomatch z
theorem At.blank(h:At K H0 X n E H){v:Option V}:At K H0 X n (⟨v,.un,[]⟩::E) H :=
 h.push (rfl:([]:List Addr)=[]) (λf _=>⟨λ_ a ha=>(nomatch ha),λ_ a _=>Bw⟩) (λa ha=>(nomatch ha))
theorem At.view(h:At K H0 X n E H)(hS:∀e∈S,e∈E):∀js:List Nat,At K H0 X n (pF S js++E) H
 | []=>h
 | j::js=>by
  have ih:=At.view h hS js
  show At K H0 X n (pY S j::(pF S js++E)) H
  unfold pY
  cases e:S[j]? with
  | none=>exact ih.blank
  | some x=>exact ih.view1 (Ap _ (hS x (Be e)))
theorem At.accNew(h:At K H0 X n E H){D:Addr}(hD:H D=Option.none):At K H0 X n (⟨some (.ref D),.acc [],[D]⟩::E) (upd H D (.lst [])):=by
 have s1:=Fu hD (.lst [])
 refine (h.grow (n':=n) s1 (Ah _)).push ⟨D,[],[],rfl,rfl,Dt,.nil,Dx _,Bw⟩ (λf hf=>?_) λa ha=>?_
 ·have nf:=h.free hD f hf
  refine ⟨λ_ a ha z=>?_,λ_ a ha z=>?_⟩
  ·rw[Am.mp ha] at z
   exact nf z
  ·rw[Am.mp z] at ha
   exact nf (Gf _ _ ha)
 ·rw[Am.mp ha]
  exact .inl (h.new0 hD)
theorem At.accPutG{D:Addr}{ds:List Ad}{v:V}{m:Md}{e:Ad}{F G:List Addr}(h:At K H0 X n (⟨some (.ref D),.acc ds,D::G⟩::⟨some v,.dat m e,F⟩::E) H)(hm:m≠.pk)(hz:ds.length+1<=Aw):∃xs,H D=some (.lst xs)/\xs.length=ds.length/\At K H0 X n (⟨some (.ref D),.acc (ds++[e]),D::(G++F)⟩::E) (upd H D (.lst (xs++[v]))):=by
 obtain ⟨a,xs,G',e1,e0,ha,ra,_,nG⟩:=h.ok _ Aa
 have e1':some (V.ref D)=some (V.ref a):=e1
 cases e1'
 have e0':D::G=D::G':=e0
 cases e0'
 have r:RdF K H v e F:=h.told (Ab _ Aa)
 have hs:=Ax.mp h.sep
 have hs2:=Ax.mp hs.2
 have h1:=(h.sub (Dd _ _)).sub (Dd _ _)
 have npk:Lx (.dat m e)=false:=by cases m <;> first | rfl | exact absurd rfl hm
 have nF:D∉F:=(hs.1 _ Aa).1 (.inr rfl) D Aa
 have kp:∀{F:List Addr},D∉F->Kp F H (upd H D (.lst (xs++[v]))):=λ{F} hF b o q z=>by
  have : b≠D:=by
   rintro rfl
   rw[ha] at q
   cases q
   rcases z with z | z
   ·exact hF z
   ·rcases z with ⟨_,z⟩ | ⟨_,_,z⟩ <;> cases z
  rw[Dr this]
  exact q
 have nD:H0 D=Option.none:=by
  rcases h.new _ Aa D Aa with z | z
  ·exact z
  ·cases z.2
 refine ⟨xs,ha,ra.len,?_⟩
 refine ⟨λf hf=>?_,?_,λf hf=>?_,λb o nx q=>?_,λb o q=>?_,λb hb=>?_⟩
 rotate_right
 ·obtain ⟨z,c,k,f,h1,h2⟩:=h.xd b hb
  refine ⟨z,c,k,f,(Dr ?_).trans h1,h2⟩
  rintro rfl
  exact z nD
 ·rcases Ai.mp hf with rfl | hf
  ·exact ⟨D,xs++[v],G++F,rfl,rfl,Dt,(ra.kp (kp nG)).snoc (r.kp (kp nF)),by rw[Bj]; exact hz,λz=>(Bg.mp z).elim nG nF⟩
  ·exact (h1.ok f hf).kp (kp ((hs.1 f (Ab _ hf)).1 (.inr rfl) D Aa)) (Ah _)
 ·refine Ax.mpr ⟨λf hf=>⟨λhq a ha'=>(hs.1 f (Ab _ hf)).1 (.inr rfl) a ha',λhq a ha' z=>?_⟩,hs2.2⟩
  have z1:=(hs.1 f (Ab _ hf)).2 (.inl rfl) a ha'
  rcases Ai.mp z with z | z
  ·exact z1 (z▸Aa)
  ·rcases Bg.mp z with z | z
   ·exact z1 (Ab _ z)
   ·exact (hs2.1 f hf).2 (.inl npk) a ha' z
 ·rcases Ai.mp hf with rfl | hf
  ·intro a ha'
   rw[Am.mp ha']
   exact .inl nD
  ·exact h1.new f hf
 ·rw[Dr (Ez q nD)]
  exact h.same b o nx q
 ·rw[Dr (Ez q nD)]
  exact h.dom b o q
theorem At.accPut{D:Addr}{ds:List Ad}{v:V}{e:Ad}(h:At K H0 X n (⟨some (.ref D),.acc ds,[D]⟩::E) H)(r:RdF K H v e [])(hz:ds.length+1<=Aw):∃xs,H D=some (.lst xs)/\xs.length=ds.length/\At K H0 X n (⟨some (.ref D),.acc (ds++[e]),[D]⟩::E) (upd H D (.lst (xs++[v]))) :=
 At.accPutG (m:=.ow) (At.pushI (S:=[⟨some (.ref D),.acc ds,[D]⟩]) h r) (by decide) hz
def aM:Bool->Md
 | true=>.ow
 | false=>.tp
theorem At.accGetG{D:Addr}{ds:List Ad}{b:Bool}{G:List Addr}(h:At K H0 X n (⟨some (.ref D),.acc ds,D::G⟩::E) H)(hb:b=true->G=[]):At K H0 X n (⟨some (.ref D),.dat (aM b) (.list ds),D::G⟩::E) H:=by
 obtain ⟨a,xs,G',e1,e0,ha,ra,hz,nG⟩:=h.ok _ Aa
 have e1':some (V.ref D)=some (V.ref a):=e1
 cases e1'
 have e0':D::G=D::G':=e0
 cases e0'
 have hs:=Ax.mp h.sep
 have cs:∀a∈cells ⟨some (.ref D),.dat (aM b) (.list ds),D::G⟩,a=D:=λa ha'=>by
  cases b with
  | true=>rw[hb rfl] at ha'; exact Am.mp ha'
  | false=>exact Am.mp ha'
 refine (h.sub (Dd _ _)).push ⟨_,rfl,.lst ha hz ra,λz=>?_,λ_ a l e=>?_⟩ (λf hf=>⟨λhq a ha'=>?_,λhq a ha'=>(hs.1 f hf).2 (.inl rfl) a ha'⟩) λa ha'=>?_
 ·cases b with
  | true=>rw[hb rfl]; exact Bt.mpr ⟨Bw,Do⟩
  | false=>cases z
 ·have e:D::G=a::l:=e
  cases e
  exact nG
 ·rw[cs a ha']
  exact (hs.1 f hf).1 (.inr rfl) D Aa
 ·rw[cs a ha']
  rcases h.new _ Aa D Aa with z | z
  ·exact .inl z
  ·cases z.2
end
def cR:DT:=λδ P=>P true δ
def u7(b:Bool)(m:Md)(e:Ad):Prop:=match b with
 | true=>imm e=true
 | false=>m≠.pk
def Qp(b:Bool)(dc:DT)(de:DE)(δ:DS)(yes:Ad->Nat->Prop)(no:Nat->Prop):Prop:=dc δ λc δ2=>match c with
 | true=>de δ2 λy δ3=>match y with
  | .dat m e=>u7 b m e/\yes e δ3.n
  | _=>False
 | false=>no δ2.n
def pJ(b:Bool)(di:DI)(js:List Nat)(dc:DT)(de:DE):DE:=λδ P=>di δ λm ds δ1=>∃I:Nat->List Ad->Nat->Prop,I 0 [] δ1.n /\
 (∀i d acc n,ds[i]? = some d->I i acc n->Qp b dc de ⟨.dat m d::frD δ1.sl js,n⟩ (λe n'=>I (i+1) (acc++[e]) n') (λn'=>I (i+1) acc n')) /\
 ∀acc n,I ds.length acc n->P (.dat (aM b) (.list acc)) ⟨δ1.sl,n⟩
def lV(b:Bool)(di:DI)(js:List Nat)(dc:DT)(de:DE):DE:=λδ P=>di δ λm ds δ1=>∃I:Nat->List Ad->Nat->Prop,I 0 [] δ1.n /\
 (∀i d acc n,ds[i]? = some d->I i acc n->∃d1 d2,d=.tuple [d1,d2]/\Qp b dc de ⟨.dat m d1::.dat m d2::frD δ1.sl js,n⟩ (λe n'=>I (i+1) (acc++[e]) n') (λn'=>I (i+1) acc n')) /\
 ∀acc n,I ds.length acc n->P (.dat (aM b) (.list acc)) ⟨δ1.sl,n⟩
def Np:DT->DE->DS->(Ad->Nat->Prop)->(Nat->Prop)->Prop:=Qp true
def xT:DI->List Nat->DT->DE->DE:=pJ true
def tR:DI->List Nat->DT->DE->DE:=lV true
section
variable{K:PySem.W.Frag}{H0 H H':Hp}{Y:Addr->Prop}{n:Nat}{E S T:List Ent}
theorem iD{b:Bool}{dc:DT}{de:DE}{δ:DS}{yes:Ad->Nat->Prop}{no:Nat->Prop}{D:Addr}{G:List Addr}{acc:List Ad}{N1:Hp->Prop}{N2:VK}(hS:Sl S δ)(hb:b=true->G=[])(hA:At K H0 Y δ.n (S++⟨some (.ref D),.acc acc,D::G⟩::T) H)(h:Qp b dc de δ yes no)(hz:acc.length+1<=Aw)(k1:∀n' H',At K H0 Y n' (⟨some (.ref D),.acc acc,D::G⟩::T) H'->no n'->N1 H')(k2:∀e n' v H' G',(b=true->G'=[])->(∃xs,H' D=some (.lst xs)/\xs.length=acc.length/\At K H0 Y n' (⟨some (.ref D),.acc (acc++[e]),D::G'⟩::T) (upd H' D (.lst (xs++[v]))))->yes e n'->N2 v H'):LT K dc (vs S) H λc H2=>if c=true then LE K de (vs S) H2 N2 else N1 H2:=by
 refine ⟨H0,Y,S,⟨some (.ref D),.acc acc,D::G⟩::T,δ,_,rfl,hS,hA,h,λc δ2 S2 H2 e1 e2 hA2 p2=>?_⟩
 cases c with
 | false=>exact jS (k1 _ _ (hA2.sub (Da _ _)) p2)
 | true =>
  refine nH ⟨H0,Y,S2,⟨some (.ref D),.acc acc,D::G⟩::T,δ2,_,e1,e2,hA2,p2,λy δ3 v F S3 H3 e3 e4 hA3 p3=>?_⟩
  split at p3
  ·rename_i m e
   have r:=hA3.told mem_mid
   cases b with
   | true =>
    obtain rfl:=r.imm p3.1
    obtain rfl:=hb rfl
    exact k2 _ _ _ _ [] (λ_=>rfl) ((hA3.drop.sub (Da _ _)).accPut r hz) p3.2
   | false =>
    have hA4:At K H0 Y δ3.n (⟨some v,.dat m e,F⟩::⟨some (.ref D),.acc acc,D::G⟩::T) H3:=hA3.sub (Da _ _)
    exact k2 _ _ _ _ (G++F) (λz=>nomatch z) ((hA4.perm (Ge _ _ _)).accPutG p3.1 hz) p3.2
  ·exact p3.elim
theorem oG{dt:TT}:∀σ H Q,LT K cR σ H Q->bU σ H Q:=by
 intro σ H Q h
 obtain ⟨H0,Y,S,T,δ,P,rfl,hS,hA,hd,k⟩:=h
 exact k true δ S H rfl hS hA hd
theorem yT.imp{X:Cx}{e:List Expr}{t t':TT}(h:yT X e t)(k:∀σ H Q,t' σ H Q->t σ H Q):yT X e t':=λpins s σ H Q I q=>h pins s σ H Q I (k σ H Q q)
theorem wA{b:Bool}{di:DI}{js:List Nat}{dc:DT}{de:DE}:∀σ H Q,LE K (pJ b di js dc de) σ H Q->yC (LI K di) js (LT K dc) (LE K de) σ H Q:=by
 intro σ H Q h
 obtain ⟨H0,Y,S,T,δ,P,rfl,hS,hA,hd,k⟩:=h
 refine ⟨H0,Y,S,T,δ,_,rfl,hS,hA,hd,λm ds δ1 J hid S1 H1 e1 e2 hA1 it hz p1=>?_⟩
 obtain ⟨I,h0,hs,hf⟩:=p1
 rw[<- e1]
 intro D hD
 refine ⟨λi q H=>q=ds.length - i/\i<=ds.length/\∃acc n G,(b=true->G=[])/\At K H0 Y n (⟨some (.ref D),.acc acc,D::G⟩::(S1++(hid++T))) H/\acc.length<=i/\I i acc n,⟨ds.length,by simp,Dx _,[],δ1.n,[],λ_=>rfl,hA1.accNew hD,Ah _,h0⟩,?_⟩
 (intro i q H q_; obtain ⟨rfl,hi,acc,n,G,hG,hA2,hl,hI⟩ := q_)
 have hid_ok:∀e∈hid,Hv K H n e:=λe he=>hA2.ok e (Ab _ (Ap _ (An _ he)))
 by_cases hlt:i<ds.length
 ·refine .inr ⟨it.go H n i hid_ok hlt,λx H' y=>?_⟩
  obtain ⟨s1,d,F,h1,h2,h3⟩:=it.yld H n i x H' hid_ok hlt y
  have hA3:At K H0 Y n ((⟨some (.ref D),.acc acc,D::G⟩::S1)++⟨some x,.dat m d,F⟩::(hid++T)) H':=At.item (S:=⟨some (.ref D),.acc acc,D::G⟩::S1) hA2 s1 h2 h3 it.md it.hd it.np
  have hA4:=hA3.mid
  have hA5:=At.view (S:=S1) hA4 (λe he=>Ab _ (An _ (Ab _ he))) js
  have hA6:At K H0 Y n ((⟨some x,.dat m d,F⟩::pF S1 js)++⟨some (.ref D),.acc acc,D::G⟩::(S1++(hid++T))) H':=hA5.mid
  have hS6:Sl (⟨some x,.dat m d,F⟩::pF S1 js) ⟨.dat m d::frD δ1.sl js,n⟩:=by
   unfold Sl
   rw[Au,xK e2]
  have hv:vs (⟨some x,.dat m d,F⟩::pF S1 js)=some x::Hk (vs S1) js:=by
   rw[<- yK]
   rfl
  refine ⟨λH2=>∃m',m'<ds.length - i/\_,λy H3=>∃acc,H3 D=some (.lst acc)/\acc.length<Aw/\∃m',m'<ds.length - i/\_,λH2 q=>q,λy H3 q=>q,?_⟩
  rw[<- hv]
  refine iD hS6 hG hA6 (hs i d acc n h1 hI) (by omega) (λn' H2 hA7 p=>?_) (λe n' v H2 G' hG' hA7 p=>?_)
  ·exact ⟨ds.length - (i+1),by omega,rfl,hlt,acc,n',G,hG,hA7,by omega,p⟩
  ·obtain ⟨xs,g1,g2,g3⟩:=hA7
   exact ⟨xs,g1,by omega,ds.length - (i+1),by omega,rfl,hlt,acc++[e],n',G',hG',g3,by rw[Bj]; simp; omega,p⟩
 ·have e:i=ds.length:=by omega
  subst e
  refine .inl ⟨it.stop H n hid_ok,k _ ⟨δ1.sl,n⟩ _ (D::G) S1 H e1 e2 ?_ (hf acc n hI)⟩
  have hA3:=hA2.accGetG hG
  have hA4:At K H0 Y n (⟨some (.ref D),.dat (aM b) (.list acc),D::G⟩::(S1++T)) H:=hA3.sub (((Dn S1).append (Da hid T)).cons₂ _)
  exact hA4.tomid
theorem rY{b:Bool}{di:DI}{js:List Nat}{dc:DT}{de:DE}:∀σ H Q,LE K (lV b di js dc de) σ H Q->rL K (LI K di) js (LT K dc) (LE K de) σ H Q:=by
 intro σ H Q h
 obtain ⟨H0,Y,S,T,δ,P,rfl,hS,hA,hd,k⟩:=h
 refine ⟨H0,Y,S,T,δ,_,rfl,hS,hA,hd,λm ds δ1 J hid S1 H1 e1 e2 hA1 it hz p1=>?_⟩
 obtain ⟨I,h0,hs,hf⟩:=p1
 rw[<- e1]
 intro D hD
 refine ⟨λi q H=>q=ds.length - i/\i<=ds.length/\∃acc n G,(b=true->G=[])/\At K H0 Y n (⟨some (.ref D),.acc acc,D::G⟩::(S1++(hid++T))) H/\acc.length<=i/\I i acc n,⟨ds.length,by simp,Dx _,[],δ1.n,[],λ_=>rfl,hA1.accNew hD,Ah _,h0⟩,?_⟩
 (intro i q H q_; obtain ⟨rfl,hi,acc,n,G,hG,hA2,hl,hI⟩ := q_)
 have hid_ok:∀e∈hid,Hv K H n e:=λe he=>hA2.ok e (Ab _ (Ap _ (An _ he)))
 by_cases hlt:i<ds.length
 ·refine .inr ⟨it.go H n i hid_ok hlt,λx H' y=>?_⟩
  obtain ⟨s1,d,F,h1,h2,h3⟩:=it.yld H n i x H' hid_ok hlt y
  obtain ⟨d1,d2,rfl,hst⟩:=hs i d acc n h1 hI
  obtain ⟨t,xs,rfl,ht,rt,_⟩:=h2.tup_inv
  cases rt with
  | @cons w1 _ xs _ F1 _ r1 rt =>
   cases rt with
   | @cons w2 _ xs _ F2 G r2 rt =>
    cases rt
    have hA3:At K H0 Y n ((⟨some (.ref D),.acc acc,D::G⟩::S1)++⟨some w1,.dat m d1,F1⟩::(hid++T)) H':=At.item (S:=⟨some (.ref D),.acc acc,D::G⟩::S1) hA2 s1 r1 (λa ha=>h3 a (An _ ha)) it.md it.hd it.np
    have hA3':At K H0 Y n ((⟨some w1,.dat m d1,F1⟩::⟨some (.ref D),.acc acc,D::G⟩::S1)++(hid++T)) H':=hA3.mid
    have hA3'':At K H0 Y n ((⟨some w1,.dat m d1,F1⟩::⟨some (.ref D),.acc acc,D::G⟩::S1)++⟨some w2,.dat m d2,F2⟩::(hid++T)) H':=At.item hA3' (Yc.refl _) r2 (λa ha=>h3 a (Ap _ (An _ ha))) it.md it.hd it.np
    have hA4:At K H0 Y n (⟨some w1,.dat m d1,F1⟩::⟨some w2,.dat m d2,F2⟩::⟨some (.ref D),.acc acc,D::G⟩::(S1++(hid++T))) H':=hA3''.mid.perm (Ge _ _ _)
    have hA5:=At.view (S:=S1) hA4 (λe he=>Ab _ (Ab _ (Ab _ (An _ he)))) js
    have hA6:At K H0 Y n ((⟨some w1,.dat m d1,F1⟩::⟨some w2,.dat m d2,F2⟩::pF S1 js)++⟨some (.ref D),.acc acc,D::G⟩::(S1++(hid++T))) H':=by
     have z:=hA5.mid
     refine z.perm ?_
     exact (Kv).cons _
    have hS6:Sl (⟨some w1,.dat m d1,F1⟩::⟨some w2,.dat m d2,F2⟩::pF S1 js) ⟨.dat m d1::.dat m d2::frD δ1.sl js,n⟩:=by
     unfold Sl
     rw[Au,Au,xK e2]
    have hv:vs (⟨some w1,.dat m d1,F1⟩::⟨some w2,.dat m d2,F2⟩::pF S1 js)=some w1::some w2::Hk (vs S1) js:=by
     rw[<- yK]
     rfl
    refine ⟨t,w1,w2,rfl,To.of ht,λH2=>∃m',m'<ds.length - i/\_,λy H3=>∃acc,H3 D=some (.lst acc)/\acc.length<Aw/\∃m',m'<ds.length - i/\_,λH2 q=>q,λy H3 q=>q,?_⟩
    rw[<- hv]
    refine iD hS6 hG hA6 hst (by omega) (λn' H2 hA7 p=>?_) (λe n' v H2 G' hG' hA7 p=>?_)
    ·exact ⟨ds.length - (i+1),by omega,rfl,hlt,acc,n',G,hG,hA7,by omega,p⟩
    ·obtain ⟨xs,g1,g2,g3⟩:=hA7
     exact ⟨xs,g1,by omega,ds.length - (i+1),by omega,rfl,hlt,acc++[e],n',G',hG',g3,by rw[Bj]; simp; omega,p⟩
 ·have e:i=ds.length:=by omega
  subst e
  refine .inl ⟨it.stop H n hid_ok,k _ ⟨δ1.sl,n⟩ _ (D::G) S1 H e1 e2 ?_ (hf acc n hI)⟩
  have hA3:=hA2.accGetG hG
  have hA4:At K H0 Y n (⟨some (.ref D),.dat (aM b) (.list acc),D::G⟩::(S1++T)) H:=hA3.sub (((Dn S1).append (Da hid T)).cons₂ _)
  exact hA4.tomid
end
section
variable{X:Cx}{elt iter c:Expr}{x x2 y0:Str}{px px2 pt py pos spos:Pos}{kt i0:Nat}{ifs:List Expr}{scope:Scope}{cl:List (Str×Addr)}{ys:List Str}{js:List Nat}{di:DI}{dc:DT}{de:DE}
theorem Ib:yT X [] (LT X.K cR):=yT.imp sY (oG (dt:=bU))
theorem Mo(C:CompScope X scope cl x ys js)(hc:X.calm=true)(hi:p6 X (.Name x px) iter di)(ht:∀fp s H,yT (Fw X scope cl (x::ys) fp s H) ifs (LT X.K dc))(he:∀fp s H,Ei (Fw X scope cl (x::ys) fp s H) elt de)(hs:∀x,Gn iter X.env x=pure x:=by intro _; rfl):Ei X (.ListComp elt [⟨.Name x px,iter,ifs,0⟩] scope pos) (xT di js dc de):=PE.imp (xD C hc hi ht he hs) wA
theorem iA(C:CompScope X scope cl x ys js)(own2:sZ scope x2)(nd2:(x::x2::ys).Nodup)(hc:X.calm=true)(hi:p6 X (.Tuple [.Name x px,.Name x2 px2] kt pt) iter di)(ht:∀fp s H,yT (Fw X scope cl (x::x2::ys) fp s H) ifs (LT X.K dc))(he:∀fp s H,Ei (Fw X scope cl (x::x2::ys) fp s H) elt de)(hs:∀x,Gn iter X.env x=pure x:=by intro _; rfl):Ei X (.ListComp elt [⟨.Tuple [.Name x px,.Name x2 px2] kt pt,iter,ifs,0⟩] scope pos) (tR di js dc de):=PE.imp (pZ C own2 nd2 hc hi ht he hs) rY
end
end DL
namespace DL
open PySem PySem.Spec PyProof.Rows L2 Nd
section
variable{K:PySem.W.Frag}{H0 H H':Hp}{X:Addr->Prop}{n n':Nat}{E S T:List Ent}
theorem At.pushF(h:At K H0 X n E H){v:V}{d:Ad}{F:List Addr}(r:RdF K H v d F)(nd:F.Nodup)(fr:∀a∈F,∀f∈E,a∉f.F)(f0:∀a∈F,H0 a=none):At K H0 X n (⟨some v,.dat .ow d,F⟩::E) H:=by
 refine h.push ⟨v,rfl,r,λ_=>nd,λz=>nomatch z⟩ (λf hf=>⟨λ_ a ha z=>fr a ha f hf z,λ_ a ha z=>fr a z f hf (Gf _ _ ha)⟩) λa ha=>.inl (f0 a ha)
theorem At.drawn(h:At K H0 X n E H){e:Ent}{dr:Addr}(he:e∈E)(hx:e.x=.drw)(hv:e.v=some (.ref dr))(s:Vf dr H H')(hd:∃c k f,Zl H' dr c k f/\0<=k/\k<=(n':Int))(hn:n<=n'):At K H0 X n' E H':=by
 obtain ⟨v,x,F⟩:=e
 have hx':x=.drw:=hx
 subst hx'
 obtain ⟨dr',c0,k0,f0,hv',hF,hd0,_⟩:=h.ok _ he
 have e1:some (V.ref dr)=some (V.ref dr'):=hv.symm.trans hv'
 cases e1
 have hF':F=[dr]:=hF
 subst hF'
 refine ⟨λf hf=>?_,h.sep,h.new,λb o nx q=>?_,λb o q=>?_,λb hb=>?_⟩
 rotate_right
 ·obtain ⟨z,c,k,f,h1,h2,h3⟩:=h.xd b hb
  by_cases hbd:b=dr
  ·subst hbd
   exact ⟨z,hd⟩
  ·exact ⟨z,c,k,f,s _ _ hbd h1,h2,by omega⟩
 ·rcases jP h he hf with rfl | q
  ·obtain ⟨c,k,fl,h1,h2,h3⟩:=hd
   exact ⟨dr,c,k,fl,hv',rfl,h1,h2,h3⟩
  ·have nf:dr∉f.F:=q.1 (.inr rfl) dr Aa
   refine (h.ok f hf).kp (λb o eb z=>?_) hn
   by_cases hb:b=dr
   ·subst hb
    rcases z with z | z
    ·exact absurd z nf
    ·have hd0':H b=some (.lst _):=hd0
     rw[eb] at hd0'
     cases hd0'
     rcases z with ⟨_,z⟩ | ⟨_,_,z⟩ <;> cases z
   ·exact s b o hb eb
 ·have hb:b≠dr:=by
   rintro rfl
   rcases h.new _ he b Aa with z | z
   ·rw[z] at q; cases q
   ·exact nx z.1
  exact s b o hb (h.same b o nx q)
 ·by_cases hb:b=dr
  ·subst hb
   obtain ⟨c,k,fl,h1,_⟩:=hd
   exact ⟨_,h1⟩
  ·obtain ⟨o',z⟩:=h.dom b o q
   exact ⟨o',s b o' hb z⟩
end
abbrev PF:=List Ad->(Ad->Prop)->Prop
abbrev DF:=List Ad->Nat->(Ad->Nat->Prop)->Prop
def Kt(K:PySem.W.Frag)(pf:PF):Sp:=λus H Q _=>∃(As:List Ent) (n:Nat) (ds:List Ad) (R:Ad->Prop),As.map Ent.v=us.map some/\(∀e∈As,Hv K H n e)/\datas (As.map Ent.x)=some ds/\pf ds R /\
 ∀v d F H',R d->RdF K H' v d F->F.Nodup->(∀a∈F,H a=none)->Yc H H'->Q v H'
def Zn(K:PySem.W.Frag)(df:DF):Sp:=λus H Q _=>∃(dr:Addr) (ws:List V) (As:List Ent) (n:Nat) (ds:List Ad) (R:Ad->Nat->Prop),us=.ref dr::ws/\As.map Ent.v=ws.map some/\(∀e∈As,Hv K H n e)/\(∀e∈As,dr∉e.F)/\(∃c k f,Zl H dr c k f/\0<=k/\k<=(n:Int))/\datas (As.map Ent.x)=some ds/\df ds n R /\
 ∀v d F n' H',n<=n'->R d n'->RdF K H' v d F->F.Nodup->(∀a∈F,H a=none)->(∃c k f,Zl H' dr c k f/\0<=k/\k<=(n':Int))->Vf dr H H'->Q v H'
def sC(pf:PF)(da:DA):DE:=λδ P=>da δ λxs δ1=>match datas xs with
 | some ds=>pf ds λd=>P (.dat .ow d) δ1
 | none=>False
def jL(i:Nat)(df:DF)(da:DA):DE:=λδ P=>match δ.sl[i]? with
 | some .drw=>da δ λxs δ1=>match δ1.sl[i]? with
  | some .drw=>match datas xs with
   | some ds=>df ds δ1.n λd n'=>P (.dat .ow d) ⟨δ1.sl,n'⟩
   | none=>False
  | _=>False
 | _=>False
section
variable{X:Cx}{CX:pD}{k:Nat}{f:Addr}{fd:Cb}{ps:List Str}{pf:PF}{df:DF}{E:XK}{x:Str}{p pos:Pos}{e e0:Expr}{es:List Expr}{da:DA}
theorem Dg(F:FnOk X.prog X.w X.K X.mg X.base CX k f fd ps (Kt X.K pf))(hr:Room k X.A)(hg:Gl X x)(hm:X.mg x=some (.ref f))(hk:PySem.W.keepIn X.K (.ref f)=true)(hb:Binds X.K fd ps [])(hx:Pp CX X E)(ha:oW X (e::es) da)(hdb:(x == ("__debug__" : Str))=false:=by decide)(he:Bd (e::es) X.env=(false,eval e X.env)::Bd es X.env:=by rfl)(hpl:(Gc pos (Bd es X.env)).any (·.1)=false:=by rfl):Ei X (.Call (.Name x p) (e::es) [] pos) (sC pf da):=by
 refine PE.imp (Wd F hr hg hm hk hb .nil hx ha hdb he hpl) λσ H Q h=>?_
 obtain ⟨H0,Y,S,T,δ,P,rfl,hS,hA,hd,kk⟩:=h
 refine ⟨H0,Y,S,T,δ,_,rfl,hS,hA,hd,λxs δ' As us S' H' e1 e2 ex eu hA' p=>?_⟩
 subst ex
 cases q:datas (As.map Ent.x) with
 | none=>rw[q] at p; exact p.elim
 | some ds =>
  rw[q] at p
  rw[Fi]
  refine ⟨As,δ'.n,ds,_,eu,λe he=>hA'.ok e (Ap _ (An _ he)),q,p,λv d F H'' r rd nd fr s=>?_⟩
  exact kk _ δ' v F S' H'' e1 e2 (((hA'.dropL.grow s (Ah _)).pushF rd nd (λa ha=>hA'.dropL.free (fr a ha)) (λa ha=>hA'.new0 (fr a ha))).tomid) r
theorem C5(F:FnOk X.prog X.w X.K X.mg X.base CX k f fd ps (Kt X.K pf))(hr:Room k X.A)(hg:Gl X x)(hm:X.mg x=some (.ref f))(hk:PySem.W.keepIn X.K (.ref f)=true)(hb:Binds X.K fd ps [])(hx:Pp CX X E)(hdb:(x == ("__debug__" : Str))=false:=by decide):Ei X (.Call (.Name x p) [] [] pos) (sC pf zO):=by
 refine PE.imp (tP F hr hg hm hk hb .nil hx hdb) λσ H Q h=>?_
 obtain ⟨H0,Y,S,T,δ,P,rfl,hS,hA,hd,kk⟩:=h
 show Kt X.K pf [] H Q E
 refine ⟨[],δ.n,[],_,rfl,λe he=>(nomatch he),rfl,hd,λv d F H'' r rd nd fr s=>?_⟩
 exact kk _ δ v F S H'' rfl hS (((hA.grow s (Ah _)).pushF rd nd (λa ha=>hA.free (fr a ha)) (λa ha=>hA.new0 (fr a ha))).tomid) r
theorem Eh{i:Nat}(F:FnOk X.prog X.w X.K X.mg X.base CX k f fd ps (Zn X.K df))(hr:Room k X.A)(hg:Gl X x)(hm:X.mg x=some (.ref f))(hk:PySem.W.keepIn X.K (.ref f)=true)(hb:Binds X.K fd ps [])(hx:Pp CX X E)(h0:PE X e0 (Ud i))(ha:oW X es da)(hdb:(x == ("__debug__" : Str))=false:=by decide)(he:Bd (e0::es) X.env=(false,eval e0 X.env)::Bd es X.env:=by rfl)(hpl:(Gc pos (Bd es X.env)).any (·.1)=false:=by rfl):Ei X (.Call (.Name x p) (e0::es) [] pos) (jL i df da):=by
 refine PE.imp (Wd F hr hg hm hk hb .nil hx (Fh h0 ha he) hdb he hpl) λσ H Q h=>?_
 obtain ⟨H0,Y,S,T,δ,P,rfl,hS,hA,hd,kk⟩:=h
 unfold jL at hd
 split at hd
 case h_2=>exact hd.elim
 rename_i hsl0
 have main:∀w,(vs S)[i]? = some (some w)->LA X.K da (vs S) H λxs H2=>Zn X.K df ((w::xs)++[]) H2 Q E:=λw hw=>by
  refine ⟨H0,Y,S,T,δ,_,rfl,hS,hA,hd,λxs δ' As us S' H' e1 e2 ex eu hA' p=>?_⟩
  subst ex
  split at p
  ·rename_i hsl
   obtain ⟨ent,s1,s2⟩:=Io e2 hsl
   have hm':ent∈S':=Be s1
   have hv:ent.v=some w:=by
    have:=Kk s1
    rw[e1,hw] at this
    exact (Ca this).symm
   obtain ⟨u,z,F⟩:=ent
   have s2':z=.drw:=s2
   subst s2'
   have hE:(⟨u,.drw,F⟩ : Ent)∈S'++(As++T):=An _ hm'
   obtain ⟨dr,c0,k0,f0,hv0,hF0,hd0,hk0,hk1⟩:=hA'.ok _ hE
   have ew:some w=some (V.ref dr):=hv.symm.trans hv0
   cases ew
   have hF':F=[dr]:=hF0
   subst hF'
   cases q:datas (As.map Ent.x) with
   | none=>rw[q] at p; exact p.elim
   | some ds =>
    rw[q] at p
    rw[Fi]
    refine ⟨dr,us,As,δ'.n,ds,_,rfl,eu,λe he=>hA'.ok e (Ap _ (An _ he)),λe he=>?_,⟨c0,k0,f0,hd0,hk0,hk1⟩,q,p,λv d F n' H'' hn r rd nd fr hdr s=>?_⟩
    ·obtain ⟨_,_,hp⟩ := Li.mp hA'.sep
     exact (hp _ hm' e (An _ he)).1 (.inr rfl) dr Aa
    ·have hA2:=hA'.dropL.drawn (An _ hm') rfl hv s hdr hn
     exact kk _ ⟨δ'.sl,n'⟩ v F S' H'' e1 e2 ((hA2.pushF rd nd (λa ha=>hA'.dropL.free (fr a ha)) (λa ha=>hA'.new0 (fr a ha))).tomid) r
  ·exact p.elim
 obtain ⟨ent,s1,s2⟩:=Io hS hsl0
 have hm':ent∈S:=Be s1
 obtain ⟨u,z,F⟩:=ent
 have s2':z=.drw:=s2
 subst s2'
 obtain ⟨dr,c0,k0,f0,hv0,_⟩:=hA.ok _ (An _ hm')
 have hw:(vs S)[i]? = some (some (.ref dr)):=(Kk s1).trans (congrArg some hv0)
 exact ⟨_,hw,main _ hw⟩
def Ta:Sp:=λvs H Q _=>∃c:Int,vs=[.int c]/\∀(p:Addr) (c':Int) (f:Bool) (H':Hp),H p=none->Zl H' p c' 0 f->Yc H H'->Q (.ref p) H'
def uA(da:DA):DE:=λδ P=>da δ λxs δ1=>match xs with
 | [.dat _ (.int _)]=>P .drw δ1
 | _=>False
theorem qS(F:FnOk X.prog X.w X.K X.mg X.base CX k f fd ps Ta)(hr:Room k X.A)(hg:Gl X x)(hm:X.mg x=some (.ref f))(hk:PySem.W.keepIn X.K (.ref f)=true)(hb:Binds X.K fd ps [])(hx:Pp CX X E)(ha:oW X (e::es) da)(hdb:(x == ("__debug__" : Str))=false:=by decide)(he:Bd (e::es) X.env=(false,eval e X.env)::Bd es X.env:=by rfl)(hpl:(Gc pos (Bd es X.env)).any (·.1)=false:=by rfl):Ei X (.Call (.Name x p) (e::es) [] pos) (uA da):=by
 refine PE.imp (Wd F hr hg hm hk hb .nil hx ha hdb he hpl) λσ H Q h=>?_
 obtain ⟨H0,Y,S,T,δ,P,rfl,hS,hA,hd,kk⟩:=h
 refine ⟨H0,Y,S,T,δ,_,rfl,hS,hA,hd,λxs δ' As us S' H' e1 e2 ex eu hA' p=>?_⟩
 split at p
 ·obtain ⟨v,F,rfl,hA2⟩:=Il eu hA' ex
  obtain ⟨rfl,_⟩:=(hA2.told mem_mid).int_inv
  refine ⟨_,rfl,λq c' fl H'' nq hdr s=>?_⟩
  have h3:=hA2.drop.grow (n':=δ'.n) s (Ah _)
  refine kk _ δ' _ [q] S' H'' e1 e2 ((h3.push (e:=⟨some (.ref q),.drw,[q]⟩) ⟨q,_,0,fl,rfl,rfl,hdr,by decide,by omega⟩ (λf hf=>?_) λa ha=>?_).tomid) p
  ·have nf:=hA2.drop.free nq f hf
   refine ⟨λ_ a ha z=>?_,λ_ a ha z=>?_⟩
   ·rw[Am.mp ha] at z
    exact nf z
   ·rw[Am.mp z] at ha
    exact nf (Gf _ _ ha)
  ·rw[Am.mp ha]
   exact .inl (hA2.new0 nq)
 ·exact p.elim
end
def args0(ds:List Ad)(k:Nat):List DV:=ds.map (λd=>.dat .sh d)++Gu k .un
def iN(e:Ent):Ent:=match e.x with
 | .dat _ d=>⟨e.v,.dat .sh d,e.F⟩
 | _=>e
theorem Ln:∀{xs:List DV} {ds:List Ad},datas xs=some ds->xs.length=ds.length
 | [],ds,h=>by cases h; rfl
 | x::xs,ds,h=>by
  cases x with
  | dat m d =>
   cases q:datas xs with
   | none=>simp [datas,q] at h
   | some es =>
    simp [datas,q] at h
    subst h
    rw[Bq,Bq,Ln q]
  | _=>cases h
theorem Wr:∀{As:List Ent} {ds:List Ad},datas (As.map Ent.x)=some ds->(As.map iN).map Ent.x=ds.map (λd=>.dat .sh d)
 | [],ds,h=>by cases h; rfl
 | ⟨v,x,F⟩::As,ds,h=>by
  rw[Au] at h
  cases x with
  | dat m d =>
   cases q:datas (As.map Ent.x) with
   | none=>simp [datas,q] at h
   | some es =>
    simp [datas,q] at h
    subst h
    rw[Au,Au,Au,Wr q]
    rfl
  | _=>cases h
theorem Uh:∀{As:List Ent} {ds:List Ad},datas (As.map Ent.x)=some ds->∀e∈As,∃m d,e.x=.dat m d
 | [],ds,h,e,he=>nomatch he
 | ⟨v,x,F⟩::As,ds,h,e,he=>by
  rw[Au] at h
  cases x with
  | dat m d =>
   cases q:datas (As.map Ent.x) with
   | none=>simp [datas,q] at h
   | some es =>
    rcases Ai.mp he with rfl | he
    ·exact ⟨m,d,rfl⟩
    ·exact Uh q e he
  | _=>cases h
theorem K7(As:List Ent):(As.map iN).map Ent.v=As.map Ent.v:=by
 rw[Ds]
 refine Tj λe _=>?_
 obtain ⟨v,x,F⟩:=e
 cases x <;> rfl
def Js(k:Nat):List Ent:=Gu k ⟨none,.un,[]⟩
theorem lZ{As:List Ent}{ds:List Ad}(q:datas (As.map Ent.x)=some ds)(k:Nat):∀e∈As.map iN++Js k,cells e=[]/\A4 e.x=false:=λe he=>by
 rcases Bg.mp he with he | he
 ·obtain ⟨f,hf,rfl⟩:=Bh.mp he
  obtain ⟨m,d,hx⟩:=Uh q f hf
  obtain ⟨v,x,F⟩:=f
  have hx':x=.dat m d:=hx
  subst hx'
  exact ⟨rfl,rfl⟩
 ·rw[(Ji.mp he).2]
  exact ⟨rfl,rfl⟩
theorem Sx{α:Type}{R:α->α->Prop}:∀{l:List α},(∀a∈l,∀b∈l,R a b)->l.Pairwise R
 | [],_=>Dw
 | a::l,h=>Ax.mpr ⟨λb hb=>h a Aa b (Ab _ hb),Sx λx hx y hy=>h x (Ab _ hx) y (Ab _ hy)⟩
theorem zA{K:PySem.W.Frag}{H:Hp}{n:Nat}{As:List Ent}{ds:List Ad}(q:datas (As.map Ent.x)=some ds)(ok:∀e∈As,Hv K H n e)(k:Nat):∀e∈As.map iN++Js k,Hv K H n e:=λe he=>by
 rcases Bg.mp he with he | he
 ·obtain ⟨f,hf,rfl⟩:=Bh.mp he
  obtain ⟨m,d,hx⟩:=Uh q f hf
  have o:=ok f hf
  obtain ⟨v,x,F⟩:=f
  have hx':x=.dat m d:=hx
  subst hx'
  obtain ⟨w,h1,h2,_⟩:=o
  exact ⟨w,h1,h2,λz=>(nomatch z),λz=>(nomatch z)⟩
 ·rw[(Ji.mp he).2]
  exact (rfl:([]:List Addr)=[])
theorem Ql{α β:Type}(f:α->β)(k:Nat)(a:α):(Gu k a).map f=Gu k (f a):=by
 rw[List.map_replicate]
def retE(R:Ad->Prop):DEnds where
 nx:=λ_=>R .none
 rt:=λx _=>∃d,x=.dat .ow d/\R d
def retW(n:Nat)(R:Ad->Nat->Prop):DEnds where
 nx:=λδ=>n<=δ.n/\R .none δ.n
 rt:=λx δ=>n<=δ.n/\∃d,x=.dat .ow d/\R d δ.n
section
variable{P:Bu}{w:World}{K:PySem.W.Frag}{mg:Str->Option Value}{base:Heap}
theorem Fp{x qual:Str}{st:Stmt}{f:Addr}{fd:Cb}{N ps:List Str}{k:Nat}{pf:PF}{db:DB}(F:Fun K x qual st f fd)(S:FnScope N ps (Bo st))(hb:∀(cdv:Value) (A:Df) (outer:List Env) (s:Aj) (H:Hp) (E:XK),Room k (A.deeper (Qx qual (Bo st) s.heap.objs.size f cdv))->Zd (Ku Fd P w K mg base N qual (Bo st) f cdv A outer s H E).nox (Ij st) db)(h:∀ds R,pf ds R->ds.length=ps.length/\db (retE R) ⟨args0 ds (N.length - ps.length),0⟩):FnOk P w K mg base Fd (k+1) f fd ps (Kt K pf):=by
 refine F.ok S (λvs H Q E z=>?_) λcdv A outer s H us Q E hr z=>?_
 ·obtain ⟨As,n,ds,R,eu,ok,q,hp,_⟩:=z
  have l1:=(h ds R hp).1
  have l2:=Ln q
  rw[Ae] at l2
  have l3:=congrArg Lk eu
  rw[Ae,Ae] at l3
  omega
 ·obtain ⟨As,n,ds,R,eu,ok,q,hp,k1⟩:=z
  obtain ⟨l1,hd⟩:=h ds R hp
  have l2:=Ln q
  rw[Ae] at l2
  have l3:=congrArg Lk eu
  rw[Ae,Ae] at l3
  refine ⟨_,hb cdv A outer s H E hr,H,λ_=>False,As.map iN++Js (N.length - ps.length),[],⟨args0 ds (N.length - ps.length),0⟩,retE R,?_,?_,λ_ z=>(nomatch z),?_,hd,λδ' S' H' e1 hA p=>?_,λx δ' v F' S' H' e1 hA p=>?_,λ_ _ _ _ _ p=>p.elim,λ_ _ _ _ _ p=>p.elim⟩
  ·unfold vs L2.start Js
   rw[Cm,K7,eu,Ql,show us.length=ps.length by omega]
  ·unfold Sl args0 Js
   rw[Cm,Wr q,Ql]
  ·rw[Fi]
   have hs:=lZ q (N.length - ps.length)
   refine ⟨λe he=>?_,Sx λa ha b hb'=>⟨λhq c hc=>?_,λhq c hc=>?_⟩,λe he a ha=>?_,λb o _ e=>e,λb o e=>⟨o,e⟩,λb hb=>hb.elim⟩
   ·have:=zA q ok (N.length - ps.length) e he
    obtain ⟨v,x,F⟩:=e
    cases x with
    | drw=>exact absurd (hs _ he).2 (by show ¬ (true=false); decide)
    | _=>exact this
   ·rw[(hs a ha).1] at hc; cases hc
   ·rw[(hs b hb').1] at hc; cases hc
   ·rw[(hs e he).1] at ha; cases ha
  ·exact k1 .non .none [] H' p .non Do (λ_ z=>(nomatch z)) λb o e=>hA.same b o (λz=>z) e
  ·obtain ⟨d,rfl,r⟩:=p
   rw[show S'++[(⟨some v,.dat .ow d,F'⟩ : Ent)]=S'++⟨some v,.dat .ow d,F'⟩::[] from rfl] at hA
   obtain ⟨u,e2,rd,nd,_⟩:=hA.ok _ mem_mid
   cases e2
   refine k1 v d F' H' r rd (nd rfl) (λa ha=>?_) λb o e=>hA.same b o (λz=>z) e
   rcases hA.new _ mem_mid a ha with z | z
   ·exact z
   ·exact z.1.elim
theorem Wb{x qual:Str}{st:Stmt}{f:Addr}{fd:Cb}{N ps:List Str}{p0:Str}{k:Nat}{df:DF}{db:DB}(F:Fun K x qual st f fd)(S:FnScope N (p0::ps) (Bo st))(hb:∀(cdv:Value) (A:Df) (outer:List Env) (s:Aj) (H:Hp) (E:XK),Room k (A.deeper (Qx qual (Bo st) s.heap.objs.size f cdv))->Zd (Ku Fd P w K mg base N qual (Bo st) f cdv A outer s H E).nox (Ij st) db)(h:∀ds n R,df ds n R->ds.length=ps.length/\db (retW n R) ⟨.drw::args0 ds (N.length - (p0::ps).length),n⟩):FnOk P w K mg base Fd (k+1) f fd (p0::ps) (Zn K df):=by
 refine F.ok S (λvs H Q E z=>?_) λcdv A outer s H us Q E hr z=>?_
 ·obtain ⟨dr,ws,As,n,ds,R,rfl,eu,ok,nd,hdr,q,hp,_⟩:=z
  have l1:=(h ds n R hp).1
  have l2:=Ln q
  rw[Ae] at l2
  have l3:=congrArg Lk eu
  rw[Ae,Ae] at l3
  rw[Bq,Bq]
  omega
 ·obtain ⟨dr,ws,As,n,ds,R,rfl,eu,ok,ndr,hdr,q,hp,k1⟩:=z
  obtain ⟨l1,hd⟩:=h ds n R hp
  have l2:=Ln q
  rw[Ae] at l2
  have l3:=congrArg Lk eu
  rw[Ae,Ae] at l3
  -- what the end tells of the draws: they stand in an old cell
  have ends:∀{E':List Ent} {n':Nat} {H':Hp},At K H (·=dr) n' E' H'->∀b o,b≠dr->H b=some o->H' b=some o:=λhA b o nb e=>hA.same b o nb e
  refine ⟨_,hb cdv A outer s H E hr,H,(·=dr),⟨some (.ref dr),.drw,[dr]⟩::(As.map iN++Js (N.length - (p0::ps).length)),[],⟨.drw::args0 ds (N.length - (p0::ps).length),n⟩,retW n R,?_,?_,λ_ z=>(nomatch z),?_,hd,λδ' S' H' e1 hA p=>?_,λx δ' v F' S' H' e1 hA p=>?_,λ_ _ _ _ _ p=>p.elim,λ_ _ _ _ _ p=>p.elim⟩
  ·unfold vs L2.start Js
   rw[Au,Cm,K7,eu,Ql,Bq,Bq,show ws.length=ps.length by omega]
   rfl
  ·unfold Sl args0 Js
   rw[Au,Cm,Wr q,Ql]
  ·rw[Fi]
   have hs:=lZ q (N.length - (p0::ps).length)
   have hsub:∀e∈As.map iN++Js (N.length - (p0::ps).length),dr∉e.F:=λe he=>by
    rcases Bg.mp he with he | he
    ·obtain ⟨f,hf,rfl⟩:=Bh.mp he
     obtain ⟨v,x,F⟩:=f
     have:=ndr _ hf
     cases x <;> exact this
    ·rw[(Ji.mp he).2]
     exact Bw
   refine ⟨λe he=>?_,Ax.mpr ⟨λb hb'=>⟨λhq c hc=>?_,λhq c hc=>?_⟩,Sx λa ha b hb'=>⟨λhq c hc=>?_,λhq c hc=>?_⟩⟩,λe he a ha=>?_,λb o _ e=>e,λb o e=>⟨o,e⟩,λb hb=>?_⟩
   rotate_right
   ·subst hb
    obtain ⟨c,kk,fl,z1,z2⟩:=hdr
    exact ⟨λz=>(by rw[show H b=some _ from z1] at z; cases z),c,kk,fl,z1,z2⟩
   ·rcases Ai.mp he with rfl | he
    ·obtain ⟨c,kk,fl,z1,z2,z3⟩:=hdr
     exact ⟨dr,c,kk,fl,rfl,rfl,z1,z2,z3⟩
    ·exact zA q ok _ e he
   ·rw[Am.mp hc]
    exact hsub b hb'
   ·rw[(hs b hb').1] at hc; cases hc
   ·rw[(hs a ha).1] at hc; cases hc
   ·rw[(hs b hb').1] at hc; cases hc
   ·rcases Ai.mp he with rfl | he
    ·rw[Am.mp ha]
     exact .inr ⟨rfl,rfl⟩
    ·rw[(hs e he).1] at ha; cases ha
  ·exact k1 .non .none [] δ'.n H' p.1 p.2 .non Do (λ_ z=>(nomatch z)) (hA.xd dr rfl).2 (ends hA)
  ·obtain ⟨hn,d,rfl,r⟩:=p
   rw[show S'++[(⟨some v,.dat .ow d,F'⟩ : Ent)]=S'++⟨some v,.dat .ow d,F'⟩::[] from rfl] at hA
   obtain ⟨u,e2,rd,nd,_⟩:=hA.ok _ mem_mid
   cases e2
   refine k1 v d F' δ'.n H' hn r rd (nd rfl) (λa ha=>?_) (hA.xd dr rfl).2 (ends hA)
   rcases hA.new _ mem_mid a ha with z | z
   ·exact z
   ·cases z.2
end
end DL
namespace L2
open PySem PySem.Spec PyProof.Rows
def qM(H:Hp):Prop:=∀b,H b=none\/(∃o xs,H b=some (.frz o (.lst xs)))\/∃ps,H b=some (.tbl ps)
def eD(tabs:List (Addr×Addr×Str))(H:Hp):Hp:=λb=>match tabs.find? (λr=>r.2.1 == b) with | some t=>some (.tbl #[.str t.2.2 0]) | none=>H b
theorem Rk{tabs:List (Addr×Addr×Str)}{H:Hp}{b:Addr}{t:Addr×Addr×Str}(h:tabs.find? (λr=>r.2.1 == b)=some t):eD tabs H b=some (.tbl #[.str t.2.2 0]):=by unfold eD; rw[h]
theorem Jq{tabs:List (Addr×Addr×Str)}{H:Hp}{b:Addr}(h:tabs.find? (λr=>r.2.1 == b)=none):eD tabs H b=H b:=by unfold eD; rw[h]
def cU(q:Bu)(K:PySem.W.Frag):Prop:=∃tabs:List (Addr×Addr×Str),(∀t∈tabs,∃x d,(recsOf q).find? (λe=>e.name == x)=some d/\PySem.W.tabIn K x=some (t.1,t.2.1))/\(∀t∈tabs,∀t'∈tabs,t.2.1=t'.2.1->t=t') /\
 (∀x∈Sr,∀c P,PySem.W.tabIn K x=some (c,P)->(c,P,zB x)∈tabs)/\∀t∈tabs,K.lookup t.2.1=none
theorem xB{x:Str}(hx:x∈Sr):x = "often" \/ x = "cut_by" := by
 rcases Ai.mp hx with h | hx
 ·exact .inl h
 ·exact .inr (Am.mp hx)
theorem oY{q:Bu}{K:PySem.W.Frag}(h1:PySem.W.tabIn K "often" = none)(h2:PySem.W.tabIn K "cut_by" = none):cU q K:=by
 refine ⟨[],λ_ z=>(nomatch z),λ_ z=>(nomatch z),λx hx c P e=>?_,λ_ z=>(nomatch z)⟩
 rcases xB hx with rfl | rfl
 ·rw[h1] at e; cases e
 ·rw[h2] at e; cases e
theorem nW{P:Bu}{w:World}{K:PySem.W.Frag}{mg mb:Str->Option Value}{CX:pD}{k:Nat}{fa a:Addr}{fd:Cb}{x:Str}{sp:Sp}{s₁:Aj}{vs:List Value}{ns:List Int}(tabs:List (Addr×Addr×Str))(hT:∀t∈tabs,PySem.W.CodeHd s₁.heap t.1 t.2.1/\s₁.heap.get? t.2.1=some (PySem.W.tabObj #[]))(hu:∀t∈tabs,∀t'∈tabs,t.2.1=t'.2.1->t=t')(hL:∀x∈Sr,∀c P,PySem.W.tabIn K x=some (c,P)->(c,P,zB x)∈tabs)(hnt:∀t∈tabs,K.lookup t.2.1=none)(hbm:∃bm ob,mg "__builtins__" = some (.ref bm)/\bm≠Sd/\s₁.heap.get? bm=some ob/\ob.cls=.type "module" /\ ob.dict=some Sd/\ob.data=.plain)(KX:K.In s₁.heap)(hns:s₁.heap.Ns Ce mg)(hb:s₁.heap.Ns Sd mb)(hbb:∀x:Str,x ≠ "__name__" -> mb x=Ho x)(hlim:s₁.heap.NoLimit)(hg:s₁.gens=#[])(ha:s₁.heap.get? a=some { cls:=.type "list",data:=.seq vs.toArray })(hi:Jc vs ns)(hl:ns.length<=Aw)(hr:Room k Vr)(F:∀base:Heap,K.In base->base.Ns Ce mg->FnOk P w K mg base CX k fa fd [x] sp)(hbind:∀(s:Aj) (u:Value),BindsTo s fd ⟨[u],[]⟩ [(x,u)])(hsp:∀H:Hp,qM H->DL.KL K H a (ns.map V.int)->sp [.ref a] H (λv _=>v=.bl true) λ_ _ _=>False)(hCX:∀H e s',CX [] H s₁ (λ_ _ _=>False) e s'->False):Ld (model P w) Vr (.call (.ref fa) ⟨[.ref a],[]⟩) (λr s'=>r=.ok (.ret (.bool true))/\OldK s₁.heap s'.heap/\s'.os=s₁.os/\Py s'.gens) s₁:=by
 have rv:=aB hi
 have lenV:=hi.length
 -- from an abstract heap in which nothing but the script may be tracked
 have core:∀H:Hp,qM H->DL.KL K H a (ns.map V.int)->Xz P w H s₁.heap->(∀b,H b≠none->b=a\/∃t∈tabs,b=t.2.1)->(H a≠none->K.lookup a=none)->(∀t∈tabs,xV H t.2.1 t.2.2) ->
   Ld (model P w) Vr (.call (.ref fa) ⟨[.ref a],[]⟩) (λr s'=>r=.ok (.ret (.bool true))/\OldK s₁.heap s'.heap/\s'.os=s₁.os/\Py s'.gens) s₁:=by
  intro H hO hS hok hA hK hTH
  have base_of:∀{b:Addr} {o:Obj},s₁.heap.get? b=some o->H b=none->(Zm s₁.heap H).get? b=some o:=λe n=>rB e n
  have noA:∀{b:Addr} {o:Obj} {es:Array DictEntry} {ep:Nat},s₁.heap.get? b=some o->o.data=.dict es ep->H b=none:=λ{b o es ep} e d=>by
   cases q:H b with
   | none=>rfl
   | some u =>
    rcases hA b (by rw[q]; simp) with e' | ⟨t,ht,e'⟩
    ·subst e'
     rw[ha] at e; cases e
     have d':Data.seq vs.toArray _=Data.dict es ep:=d
     cases d'
    ·rw[e',(hT t ht).2] at e; cases e
     cases d
  have nsK:∀{b:Addr} {m:Str->Option Value},s₁.heap.Ns b m->(Zm s₁.heap H).Ns b m:=λ{b m} ⟨o,es,ep,e,d,r⟩=>⟨o,es,ep,base_of e (noA e d),d,r⟩
  have hKb:K.In (Zm s₁.heap H):=λb o e=>base_of (KX b o e) (by
   cases q:H b with
   | none=>rfl
   | some u =>
    rcases hA b (by rw[q]; simp) with e' | ⟨t,ht,e'⟩
    ·subst e'
     rw[hK (by rw[q]; simp)] at e; cases e
    ·rw[e',hnt t ht] at e; cases e)
  have rW:∀{b:Addr} {o:Obj},s₁.heap.get? b=some o->o.cls≠.none->o.cls≠.type "list" -> H b=none:=λ{b o} e d d2=>by
   cases q:H b with
   | none=>rfl
   | some u =>
    rcases hA b (by rw[q]; simp) with e' | ⟨t,ht,e'⟩
    ·subst e'
     rw[ha] at e; cases e
     exact absurd rfl d2
    ·rw[e',(hT t ht).2] at e; cases e
     exact absurd rfl d
  have hTb:rO K mg (Zm s₁.heap H) H:=λx hx c P e=>by
   have ht:=hL x hx c P e
   obtain ⟨bm,ob,b1,b2,b3,b4,b5,b6⟩:=hbm
   obtain ⟨⟨o,us,file,tf,flags,tg,inF,text,tt,e1,r1,r2⟩,hP⟩:=hT _ ht
   refine ⟨⟨o,us,file,tf,flags,tg,inF,text,tt,base_of e1 (rW e1 (by rw[r1]; nofun) (by rw[r1]; simp)),r1,r2⟩,⟨bm,ob,b1,b2,λz=>?_,λz=>?_,base_of b3 (rW b3 (by rw[b4]; nofun) (by rw[b4]; simp)),b4,b5,b6⟩,hTH _ ht⟩
   ·obtain ⟨o',es,ep,e',d,_⟩:=hns
    rw[<- z,b3] at e'; cases e'; rw[b6] at d; cases d
   ·have hP:s₁.heap.get? P=_:=hP
    rw[<- z,b3] at hP; cases hP; cases b4
  have hM:Mod K mg (Zm s₁.heap H):=⟨hKb,nsK hns,⟨mb,nsK hb,hbb⟩,let ⟨mc,h1,h2⟩:=hlim; ⟨mc,nsK h1,h2⟩⟩
  have e0:Env0 P w K mg (Zm s₁.heap H) Vr [] s₁ H:=⟨rfl,hM,λb o e=>wX e,Nat.le_of_eq (mZ _ _),trivial,λb hb=>absurd (show b∈([]:List Addr) from hb) (by simp),hok,.of_eq hg,hTb⟩
  refine Jb ((F _ hKb (nsK hns)).run Vr [] s₁ H ⟨[.ref a],[]⟩ [.ref a] [.ref a] _ _ hr e0 (hbind s₁ (.ref a)) (.cons rfl .nil) (hsp H hO hS)) λr s' h=>?_
  cases r with
  | error e=>exact (hCX H e s' h).elim
  | ok fl =>
   cases fl with
   | next=>exact Hw h
   | brk=>exact Hw h
   | cont=>exact Hw h
   | ret u =>
    obtain ⟨v,H',os,bare,un,hok',r',q⟩:=h
    have q':v=.bl true:=q
    subst q'
    obtain rfl:u=Value.bool true:=r'
    have old:∀b o,s₁.heap.get? b=some o->s'.heap.get? b=some o\/∃t∈tabs,b=t.2.1:=λb o e=>by
     cases q:H b with
     | none=>exact .inl (un.keep b o e q (by intro z; exact absurd (show b∈([]:List Addr) from z) (by simp)) (by simp))
     | some u =>
      rcases hO b with z | ⟨ob,xs,z⟩ | ⟨ps,z⟩
      ·rw[q] at z; cases z
      ·have z2:=un.frzs b ob _ z
       obtain ⟨e1,_⟩:=hok b _ z
       obtain ⟨e2,_⟩:=hok' b _ z2
       rw[e] at e1; cases e1
       exact .inl e2
      ·rcases hA b (by rw[q]; simp) with e' | h'
       ·obtain ⟨_,e1,_⟩:=hok b _ z
        rw[e',ha] at e1; cases e1
       ·exact .inr h'
    have grown:∀t∈tabs,∃ps,s'.heap.get? t.2.1=some (PySem.W.tabObj ps):=λt ht=>by
     obtain ⟨ps,t0,h3,_⟩:=hTH t ht
     obtain ⟨more,h5⟩:=un.tbls _ _ h3
     obtain ⟨qs,e1,_⟩:=hok' _ _ h5
     exact ⟨qs,e1⟩
    refine ⟨rfl,⟨λb o e=>?_,λb o e=>?_⟩,os,bare⟩
    ·rcases old b o e with z | ⟨t,ht,rfl⟩
     ·exact .inl z
     ·obtain ⟨ps,hP⟩:=grown t ht
      have e2:=(hT t ht).2
      rw[e] at e2
      cases e2
      exact .inr (.inl ⟨((hT t ht).1.tab (hT t ht).2).isCodeTable,rfl,#[],ps,rfl,by rw[Array.empty_append]; exact hP⟩)
    ·rcases old b o e with z | ⟨t,ht,rfl⟩
     ·exact ⟨_,z⟩
     ·obtain ⟨ps,hP⟩:=grown t ht
      exact ⟨_,hP⟩
 have tabH:∀(t:Addr×Addr×Str),t∈tabs->tabs.find? (λr=>r.2.1 == t.2.1)=some t:=λt ht=>by
  cases q:tabs.find? (λr=>r.2.1 == t.2.1) with
  | none=>exact absurd (List.find?_eq_none.mp q t ht) (by simp)
  | some r=>exact congrArg some (hu r (Nu q) t ht (by have:=Qz q; simpa using this))
 have neA:∀t∈tabs,t.2.1≠a:=λt ht z=>by
  have e:=(hT t ht).2
  rw[z,ha] at e; cases e
 have all:∀H:Hp,(∀b,H b=none\/∃o xs,H b=some (.frz o (.lst xs)))->(∀b,H b≠none->b=a)->(H a≠none->K.lookup a=none)->DL.KL K H a (ns.map V.int)->Xz P w H s₁.heap ->
   Ld (model P w) Vr (.call (.ref fa) ⟨[.ref a],[]⟩) (λr s'=>r=.ok (.ret (.bool true))/\OldK s₁.heap s'.heap/\s'.os=s₁.os/\Py s'.gens) s₁:=by
  intro H h1 h2 h3 h4 h5
  refine core (eD tabs H) (λb=>?_) ?_ (λb u z=>?_) (λb z=>?_) (λz=>?_) λt ht=>?_
  ·cases q:tabs.find? (λr=>r.2.1 == b) with
   | some t=>exact .inr (.inr ⟨_,Rk q⟩)
   | none =>
    rcases h1 b with z | ⟨o,xs,z⟩
    ·exact .inl (by rw[Jq q]; exact z)
    ·exact .inr (.inl ⟨o,xs,by rw[Jq q]; exact z⟩)
  ·have na:tabs.find? (λr=>r.2.1 == a)=none:=uE.mpr λt ht z=>neA t ht (by simpa using z)
   rcases h4 with ⟨o,h⟩ | h
   ·exact .inl ⟨o,by rw[Jq na]; exact h⟩
   ·exact .inr h
  ·cases q:tabs.find? (λr=>r.2.1 == b) with
   | some t =>
    rw[Rk q] at z
    cases z
    have eb:t.2.1=b:=by have:=Qz q; simpa using this
    exact ⟨#[],by rw[<- eb]; exact (hT t (Nu q)).2,by simp [TriplesOk],λpos v y=>by simp [codeAmong] at y⟩
   | none =>
    rw[Jq q] at z
    rcases h1 b with y | ⟨o,xs,y⟩
    ·rw[z] at y; cases y
    ·rw[z] at y
     cases y
     exact h5 b _ z
  ·cases q:tabs.find? (λr=>r.2.1 == b) with
   | some t=>exact .inr ⟨t,Nu q,by have:=Qz q; exact (by simpa using this : t.2.1=b).symm⟩
   | none =>
    rw[Jq q] at z
    exact .inl (h2 b z)
  ·have na:tabs.find? (λr=>r.2.1 == a)=none:=uE.mpr λt ht z=>neA t ht (by simpa using z)
   rw[Jq na] at z
   exact h3 z
  ·exact ⟨#[.str t.2.2 0],0,Rk (tabH t ht),rfl⟩
 cases hk:K.lookup a with
 | some o =>
  -- the script is one of the module's own objects
  have e:=KX a o hk
  rw[ha] at e
  cases e
  exact all (λ_=>none) (λ_=>.inl rfl) (λb z=>absurd rfl z) (λz=>absurd rfl z) (.inr ⟨vs.toArray,_,hk,by rw[Ao,lenV]; exact hl,by simpa using rv⟩) (λb u z=>by have z':(none:Option HO)=some u:=z; cases z')
 | none =>
  refine all (λb=>if b=a then some (.frz { cls:=.type "list",data:=.seq vs.toArray } (.lst (ns.map V.int))) else none) (λb=>?_) (λb z=>?_) (λ_=>hk) (.inl ⟨{ cls:=.type "list",data:=.seq vs.toArray },if_pos rfl⟩) (λb u z=>?_)
  ·by_cases hb:b=a
   ·exact .inr ⟨_,_,if_pos hb⟩
   ·exact .inl (if_neg hb)
  ·by_cases hb:b=a
   ·exact hb
   ·exact absurd (if_neg hb) z
  ·by_cases hb:b=a
   ·have z':=(if_pos hb).symm.trans z
    cases z'
    subst hb
    exact ⟨ha,by rw[Ae]; exact hl,vs,_,rv,ha⟩
   ·have z':=(if_neg hb).symm.trans z
    cases z'
theorem walk_ofD{l:PySem.W.OpenLaw}{n k:Nat}{q:Bu}{loose:List Str}{XP:(Str->Option Value)->Heap->Prop}{YP:World->Heap->Prop}{d:DefRec}{K:Params->PySem.W.Frag}{CX:World->pD}{sp:World->Sp}{x:Str}(hn:l.most=some n)(hn2:n<=Aw)(hdf:d.params.defaults=[])(hr:Room k Vr)(hY:∀(w:World) (h:Heap),YP w h->(K w.params).In h)(F:∀(w:World) (mg:Str->Option Value) (fa:Addr) (h:Heap),(K w.params).In h->h.Ns Ce mg->mg d.name=some (.ref fa)->(cU q (K w.params))/\∃fd:Cb,(∀(s:Aj) (u:Value),BindsTo s fd ⟨[u],[]⟩ [(x,u)])/\∀base:Heap,(K w.params).In base->base.Ns Ce mg->FnOk l.prog w (K w.params) mg base (CX w) k fa fd [x] (sp w))(hsp:∀(w:World) (H:Hp) (a:Addr) (ns:List Int),ns.length<=n->qM H->DL.KL (K w.params) H a (ns.map V.int)->sp w [.ref a] H (λv _=>v=.bl true) λ_ _ _=>False)(hCX:∀(w:World) (H:Hp) (s:Aj) (e:Value) (s':Aj),CX w [] H s (λ_ _ _=>False) e s'->False):PySem.W.WalkO q loose XP YP l.row.toRowW d [] (λf vs=>PySem.call f vs):=by
 refine Att.attach_call hn hdf λw s₀ s₁ mg mb fa o pm cd doc a vs ns G Y ho hd hcd hmg hobj hints hlen hg=>?_
 have KX:=hY w _ Y
 obtain ⟨⟨tabs,t1,t2,t3,t4⟩,fd,hb,hF⟩:=F w mg fa _ KX G.T.g hmg
 exact nW tabs (λt ht=>by
  obtain ⟨x,d,h1,h2⟩:=t1 t ht
  exact PySem.W.tab_of G.T KX h1 h2) t2 t3 t4 G.T.bmain KX G.T.g G.T.b G.T.builtins G.T.nolimit hg hobj hints (Bm hlen hn2) hr hF hb (λH hO hS=>hsp w H a ns hlen hO hS) λH e s'=>hCX w H s₁ e s'
end L2
namespace DL
open PySem PySem.Spec PyProof.Rows L2 Nd
def npk:List DV->Bool
 | []=>true
 | .dat .pk _::_=>false
 | _::xs=>npk xs
theorem dN:∀{S:List Ent} {sl:List DV},S.map Ent.x=sl->npk sl=true->∀e∈S,Lx e.x=false
 | [],_,_,_,e,he=>nomatch he
 | ⟨v,x,F⟩::S,_,h,hn,e,he=>by
  subst h
  rw[Au] at hn
  have : Lx x=false/\npk (S.map Ent.x)=true:=by
   cases x with
   | dat m d=>cases m <;> first | exact ⟨rfl,hn⟩ | cases hn
   | _=>exact ⟨rfl,hn⟩
  rcases Ai.mp he with rfl | he
  ·exact this.1
  ·exact dN rfl this.2 e he
def own1:Md->Bool
 | .ow=>true
 | .tp=>true
 | _=>false
section
variable{K:PySem.W.Frag}{H0 H:Hp}{X:Addr->Prop}{n:Nat}{E:List Ent}
theorem At.write{v:Option V}{m:Md}{ds es:List Ad}{a:Addr}{F G:List Addr}{ys:List V}(h:At K H0 X n (⟨v,.dat m (.list ds),a::F⟩::E) H)(ho:own1 m=true)(hv:v=some (.ref a))(np:∀e∈E,Lx e.x=false)(r:RdFs K H ys es G)(hG:G.Sublist F)(hz:es.length<=Aw):At K H0 X n (⟨v,.dat m (.list es),a::G⟩::E) (upd H a (.lst ys)):=by
 obtain ⟨w,e1,rd,hn,ht⟩:=h.ok _ Aa
 obtain ⟨b,xs,G0,e2,ha,ra,eF,_⟩:=rd.list_inv
 have eF':a::F=b::G0:=eF
 cases eF'
 have hs:=Ax.mp h.sep
 have naF:a∉F:=by
  cases m with
  | ow=>exact (Bt.mp (hn rfl)).1
  | tp=>exact ht rfl a F rfl
  | sh=>cases ho
  | pk=>cases ho
 have ca:a∈cells ⟨v,.dat m (.list ds),a::F⟩:=by
  cases m <;> first | exact Aa | cases ho
 have kp:∀{F':List Addr},a∉F'->Kp F' H (upd H a (.lst ys)):=λ{F'} hF b o q z=>by
  have : b≠a:=by
   rintro rfl
   rw[ha] at q
   cases q
   rcases z with z | z
   ·exact hF z
   ·rcases z with ⟨_,z⟩ | ⟨_,_,z⟩ <;> cases z
  rw[Dr this]
  exact q
 have n0:H0 a=none:=by
  rcases h.new _ Aa a ca with z | z
  ·exact z
  ·cases z.2
 have cs:∀c∈cells ⟨v,.dat m (.list es),a::G⟩,c∈cells ⟨v,.dat m (.list ds),a::F⟩:=λc hc=>by
  cases m with
  | ow =>
   rcases Ai.mp hc with z | z
   ·exact Ai.mpr (.inl z)
   ·exact Ai.mpr (.inr (hG.subset z))
  | tp=>exact hc
  | sh=>cases ho
  | pk=>cases ho
 have hsub:∀c∈a::G,c∈a::F:=λc hc=>by
  rcases Ai.mp hc with z | z
  ·exact Ai.mpr (.inl z)
  ·exact Ai.mpr (.inr (hG.subset z))
 have naG:a∉G:=λz=>naF (hG.subset z)
 refine ⟨λf hf=>?_,?_,λf hf=>?_,λb o nx q=>?_,λb o q=>?_,λb hb=>?_⟩
 ·rcases Ai.mp hf with rfl | hf
  ·refine ⟨.ref a,hv,.lst Dt hz (r.kp (kp naG)),λz=>?_,λz c l e=>?_⟩
   ·exact Bt.mpr ⟨naG,(Bt.mp (hn z)).2.sublist hG⟩
   ·cases e
    exact naG
  ·exact (h.ok f (Ab _ hf)).kp (kp ((hs.1 f hf).1 (.inl (np f hf)) a ca)) (Ah _)
 ·refine Ax.mpr ⟨λf hf=>⟨λhq c hc=>(hs.1 f hf).1 (.inl (np f hf)) c (cs c hc),λhq c hc z=>(hs.1 f hf).2 (.inl ?_) c hc (hsub c z)⟩,hs.2⟩
  cases m <;> first | rfl | cases ho
 ·rcases Ai.mp hf with rfl | hf
  ·exact λc hc=>h.new _ Aa c (cs c hc)
  ·exact h.new f (Ab _ hf)
 ·rw[Dr (Ez q n0)]
  exact h.same b o nx q
 ·rw[Dr (Ez q n0)]
  exact h.dom b o q
 ·obtain ⟨z,c,k,f,h1,h2⟩:=h.xd b hb
  refine ⟨z,c,k,f,(Dr ?_).trans h1,h2⟩
  rintro rfl
  exact z n0
end
theorem Fx{α:Type}:∀{l:List α} {i:Nat} {x:α},l[i]? = some x->l.Perm (x::l.eraseIdx i)
 | [],i,x,h=>by simp at h
 | z::l,0,x,h=>by
  simp at h
  subst h
  exact Lp _
 | z::l,i+1,x,h=>by
  have ih:=Fx (l:=l) (i:=i) (x:=x) (by simpa using h)
  rw[List.eraseIdx_cons_succ]
  exact (ih.cons z).trans (Ge x z _)
theorem Qf{α:Type}{l:List α}{i:Nat}{x y:α}(h:l[i]? = some x):(l.set i y).Perm (y::l.eraseIdx i):=by
 have hlt:=(Aq.mp h).1
 have q:=Fx (l:=l.set i y) (i:=i) (x:=y) (by rw[Hr]; simp [hlt])
 rw[List.eraseIdx_set_eq] at q
 exact q
theorem Ys{K:PySem.W.Frag}{H0 H:Hp}{X:Addr->Prop}{S T:List Ent}{δ:DS}{i:Nat}{m:Md}{ds es:List Ad}(hS:Sl S δ)(hT:∀e∈T,Lx e.x=false)(hA:At K H0 X δ.n (S++T) H)(hi:δ.sl[i]? = some (.dat m (.list ds)))(ho:own1 m=true)(np:npk δ.sl=true):∃a xs G,(vs S)[i]? = some (some (.ref a))/\H a=some (.lst xs)/\RdFs K H xs ds G/\ds.length<=Aw/\∀ys G',RdFs K H ys es G'->G'.Sublist G->es.length<=Aw->∃S',vs S'=vs S/\Sl S' ⟨δ.sl.set i (.dat m (.list es)),δ.n⟩/\At K H0 X δ.n (S'++T) (upd H a (.lst ys)):=by
 obtain ⟨ent,e2,e3⟩:=Io hS hi
 have hm:ent∈S:=Be e2
 obtain ⟨u,x,F⟩:=ent
 have e3':x=.dat m (.list ds):=e3
 subst e3'
 obtain ⟨v,hv,rd,_⟩:=hA.ok _ (An _ hm)
 obtain ⟨a,xs,G,rfl,ha,ra,eF,hz⟩:=rd.list_inv
 have eF':F=a::G:=eF
 subst eF'
 refine ⟨a,xs,G,by rw[Kk e2]; exact congrArg some hv,ha,ra,hz,λys G' r hG hz'=>?_⟩
 have hn:=dN hS np
 have pm:(S++T).Perm (⟨u,.dat m (.list ds),a::G⟩::(S.eraseIdx i++T)):=by
  exact (Fx e2).append_right T
 have h1:=(hA.perm pm).write (es:=es) (ys:=ys) ho hv (λe he=>?_) r hG hz'
 ·refine ⟨S.set i ⟨u,.dat m (.list es),a::G'⟩,?_,?_,h1.perm ?_⟩
  ·unfold vs
   rw[Em]
   apply Kc
   intro j
   rw[Hr]
   split
   ·rename_i hij
    subst hij
    rw[Cf,e2]
    split
    ·rfl
    ·rename_i hj
     rw[Ae] at hj
     exact absurd (Aq.mp e2).1 hj
   ·rfl
  ·unfold Sl at hS ⊢
   rw[Em,hS]
  ·exact ((Qf e2).append_right T).symm
 ·rcases Bg.mp he with he | he
  ·exact hn e ((Rc S i).subset he)
  ·exact hT e he
def dM(i:Nat)(de:DE):DB:=λD δ=>match δ.sl[i]? with
 | some (.dat _ (.list _))=>de δ λy δ1=>match δ1.sl[i]?,y with
  | some (.dat m (.list ds)),.dat _ e=>own1 m=true/\npk δ1.sl=true/\imm e=true/\ds.length<1000000/\D.nx ⟨δ1.sl.set i (.dat m (.list (ds++[e]))),δ1.n⟩
  | _,_=>False
 | _=>False
section
variable{X:Cx}{o e:Expr}{de:DE}{apos cpos pos:Pos}{i:Nat}
theorem Qe(ho:PE X o (Ud i))(he:Ei X e de)(hbase:Jp o "append" X.env (eval o X.env)=eval o X.env:=by rfl)
  (hfew:((Gc cpos (Bd [e] X.env)).all (λx=>!x.1) && (Vk cpos (Ms [] X.env)).all (λx=>x.1.isSome)
   && decide (([e]:List Expr).length+([]:List Ke).length+(if ([]:List Ke).isEmpty then 0 else 1)<30))=true:=by rfl)
  (hline:(apos.endLine == cpos.line)=true:=by rfl) (hs:Bd [e] X.env=(false,eval e X.env)::Bd [] X.env:=by rfl) (hplain:(Gc cpos (Bd [] X.env)).any (·.1)=false:=by rfl)
  (hsw:Oh (.Call (.Attribute o "append" apos) [e] [] cpos) none pos.line X.env=pure false:=by rfl) :
  lJ X (.Expr (.Call (.Attribute o "append" apos) [e] [] cpos) pos) (dM i de):=by
 refine PS.impD (Vu (Zr PySem.F.plainAttrs_list PySem.F.slot_list_append PySem.F.type_list_append Nh ho (Fh he Jd hs) hbase hfew hline hs hplain) hsw) λD σ H h=>?_
 obtain ⟨H0,Y,S,T,δ,P,rfl,hS,hT,hA,hd,k1,k2,k3,k4⟩:=h
 unfold dM at hd
 split at hd
 case h_2=>exact hd.elim
 rename_i m0 ds0 hsl
 obtain ⟨ent,e2,e3⟩:=Io hS hsl
 have hm:ent∈S:=Be e2
 obtain ⟨u,x,F⟩:=ent
 have e3':x=.dat m0 (.list ds0):=e3
 subst e3'
 obtain ⟨v,hv,rd,_⟩:=hA.ok _ (An _ hm)
 obtain ⟨a,xs,G,rfl,ha,ra,eF,hz⟩:=rd.list_inv
 refine ⟨.ref a,by rw[Kk e2]; exact congrArg some hv,.inl ⟨rfl,xs,Oy.of ha⟩,H0,Y,S,T,δ,_,rfl,hS,hA,hd,λy δ1 w F1 S1 H1 e4 e5 hA1 p1=>?_⟩
 split at p1
 ·rename_i m ds m' e' hsl1
  obtain ⟨p1,p2,p3,p4,p5⟩:=p1
  have r:=hA1.told mem_mid
  obtain rfl:=r.imm p3
  obtain ⟨b,xs1,G1,g1,g2,g3,g4,g5⟩:=Ys (es:=ds++[e']) e5 hT hA1.drop hsl1 p1 p2
  rw[e4,Kk e2] at g1
  have : some (V.ref b)=some (V.ref a):=(Ca g1).symm.trans hv
  cases this
  obtain ⟨S2,h1,h2,h3⟩:=g5 (xs1++[w]) (G1++[]) (g3.snoc r) (by rw[Fi]; exact Dn _) (by rw[Bj]; exact Yw (by simp; omega))
  have hl:=g3.len
  refine ⟨a,xs1,w,rfl,rfl,g2,Bp (by omega) (Yw (n:=1000000) (Ah _)),?_⟩
  rw[<- e4,<- h1]
  exact k1 ⟨_,_⟩ S2 _ h2 h3 p5
 ·exact p1.elim
end
def xG(i:Nat)(dk de:DE):DB:=λD δ=>de δ λy δ1=>match δ1.sl[i]? with
 | some (.dat _ (.list _))=>dk δ1 λz δ2=>match δ2.sl[i]?,y,z with
  | some (.dat m (.list ds)),.dat _ e,.dat _ (.int k)=>own1 m=true/\npk δ2.sl=true/\imm e=true/\Dk ds=true/\∃j,pE ds.length k=some j/\D.nx ⟨δ2.sl.set i (.dat m (.list (ds.set j e))),δ2.n⟩
  | _,_,_=>False
 | _=>False
theorem RdFs.setI{K:PySem.W.Frag}{H:Hp}:∀{xs:List V} {ds:List Ad} {j:Nat} {v:V} {e:Ad},RdFs K H xs ds []->RdF K H v e []->RdFs K H (xs.set j v) (ds.set j e) []:=by
 have main:∀{xs:List V} {ds:List Ad} {F:List Addr} {j:Nat} {v:V} {e:Ad},RdFs K H xs ds F->F=[]->RdF K H v e []->RdFs K H (xs.set j v) (ds.set j e) []:=by
  intro xs ds F j v e h
  induction j generalizing xs ds F with
  | zero =>
   intro hF r
   cases h with
   | nil=>exact .nil
   | cons a t =>
    obtain ⟨rfl,rfl⟩:=kB.mp hF
    exact RdFs.cons (F:=[]) r t
  | succ j ih =>
   intro hF r
   cases h with
   | nil=>exact .nil
   | cons a t =>
    obtain ⟨rfl,rfl⟩:=kB.mp hF
    exact RdFs.cons (F:=[]) a (ih t rfl r)
 intro xs ds j v e h r
 exact main h rfl r
section
variable{X:Cx}{o ie e:Expr}{de dk:DE}{pos spos:Pos}{i:Nat}
theorem uX(ho:PE X o (Ud i))(hk:Ei X ie dk)(he:Ei X e de)
  (ha:∀v,assign (.Subscript o ie spos) X.env v=(do
   let ov <- Lc [v] (eval o X.env)
   let iv <- Lc [v,ov] (eval ie X.env)
   standAt spos
   Lc [v,ov,iv] (setItem ov iv v)
   release [v,ov,iv] []):=by intro _; rfl)
  (hs:swapsWithSole [.Subscript o ie spos] e pos.line X.env=pure false:=by rfl) (hw:swappedStores [.Subscript o ie spos] e X.env=pure none:=by rfl)
  (h1:(Fq [.Subscript o ie spos] X.env).map (·.2)=[assign (.Subscript o ie spos) X.env]:=by rfl):lJ X (.Assign [.Subscript o ie spos] e pos) (xG i dk de):=by
 refine PS.impD (aZ he (iZ ho hk Yk ha) hs hw h1) λD σ H h=>?_
 obtain ⟨H0,Y,S,T,δ,P,rfl,hS,hT,hA,hd,k1,k2,k3,k4⟩:=h
 refine ⟨H0,Y,S,T,δ,_,rfl,hS,hA,hd,λy δ1 w F1 S1 H1 e4 e5 hA1 p1=>?_⟩
 split at p1
 case h_2=>exact p1.elim
 rename_i m0 ds0 hsl
 obtain ⟨ent,e2,e3⟩:=Io e5 hsl
 have hm:ent∈S1:=Be e2
 obtain ⟨u,x,F⟩:=ent
 have e3':x=.dat m0 (.list ds0):=e3
 subst e3'
 obtain ⟨v,hv,rd,_⟩:=hA1.ok _ (An _ hm)
 obtain ⟨a,xs,G,rfl,ha,ra,eF,hz⟩:=rd.list_inv
 refine ⟨.ref a,by rw[<- e4,Kk e2]; exact congrArg some hv,H0,Y,S1,⟨some w,y,F1⟩::T,δ1,_,e4,e5,hA1,p1,λz δ2 w2 F2 S2 H2 e6 e7 hA2 p2=>?_⟩
 split at p2
 ·rename_i m ds m' e' m'' k hsl2
  obtain ⟨q1,q2,q3,q4,j,q5,q6⟩:=p2
  obtain ⟨rfl,_⟩:=(hA2.told mem_mid).int_inv
  have r:=hA2.told Fm
  obtain rfl:=r.imm q3
  obtain ⟨b,xs1,G1,g1,g2,g3,g4,g5⟩:=Ys (es:=ds.set j e') e7 hT hA2.drop2 hsl2 q1 q2
  rw[e6,<- e4,Kk e2] at g1
  have : some (V.ref b)=some (V.ref a):=(Ca g1).symm.trans hv
  cases this
  obtain rfl:=g3.imm q4
  obtain ⟨S3,h1,h2,h3⟩:=g5 (xs1.set j w) [] (g3.setI r) (Dn _) (by rw[Hi]; exact g4)
  refine ⟨a,xs1,k,j,rfl,rfl,g2,by rw[g3.len]; exact q5,?_⟩
  rw[<- e6,<- h1]
  exact k1 ⟨_,_⟩ S3 _ h2 h3 q6
 ·exact p2.elim
end
def spLawD(K:PySem.W.Frag):Sp:=λus H Q _=>∃(a:Addr) (ns:List Int),us=[.ref a]/\KL K H a (ns.map V.int)/\ns.length<=63/\∀H',Q (.bl true) H'
def retL:DEnds where
 nx:=λ_=>False
 rt:=λx _=>∃m,x=.dat m (.bool true)
section
variable{P:Bu}{w:World}{K:PySem.W.Frag}{mg:Str->Option Value}{base:Heap}
theorem A9{x qual p0:Str}{st:Stmt}{f:Addr}{fd:Cb}{N:List Str}{k:Nat}{db:DB}(F:Fun K x qual st f fd)(S:FnScope N [p0] (Bo st))(hb:∀(cdv:Value) (A:Df) (outer:List Env) (s:Aj) (H:Hp) (E:XK),Room k (A.deeper (Qx qual (Bo st) s.heap.objs.size f cdv))->Zd (Ku Fd P w K mg base N qual (Bo st) f cdv A outer s H E).nox (Ij st) db)(h:∀ns:List Int,ns.length<=63->db retL ⟨.scr ns::Gu (N.length - 1) .un,0⟩):FnOk P w K mg base Fd (k+1) f fd [p0] (spLawD K):=by
 refine F.ok S (λvs H Q E z=>?_) λcdv A outer s H us Q E hr z=>?_
 ·obtain ⟨a,ns,rfl,_⟩:=z
  rfl
 ·obtain ⟨a,ns,rfl,hK,h63,k1⟩:=z
  refine ⟨_,hb cdv A outer s H E hr,H,λ_=>False,⟨some (.ref a),.scr ns,[]⟩::Js (N.length - 1),[],⟨.scr ns::Gu (N.length - 1) .un,0⟩,retL,?_,?_,λ_ z=>(nomatch z),?_,h ns h63,λδ' S' H' e1 hA p=>p.elim,λx δ' v F' S' H' e1 hA p=>?_,λ_ _ _ _ _ p=>p.elim,λ_ _ _ _ _ p=>p.elim⟩
  ·unfold vs L2.start Js
   rw[Au,Ql]
   rfl
  ·unfold Sl Js
   rw[Au,Ql]
  ·rw[Fi]
   have hc:∀e∈(⟨some (.ref a),.scr ns,[]⟩::Js (N.length - 1):List Ent),cells e=[]:=λe he=>by
    rcases Ai.mp he with rfl | he
    ·rfl
    ·rw[(Ji.mp he).2]
     rfl
   refine ⟨λe he=>?_,Sx λa ha b hb'=>⟨λhq c z=>?_,λhq c z=>?_⟩,λe he a ha=>?_,λb o _ e=>e,λb o e=>⟨o,e⟩,λb hb=>hb.elim⟩
   ·rcases Ai.mp he with rfl | he
    ·exact ⟨a,rfl,rfl,hK,h63⟩
    ·rw[(Ji.mp he).2]
     exact (rfl:([]:List Addr)=[])
   ·rw[hc a ha] at z; cases z
   ·rw[hc b hb'] at z; cases z
   ·rw[hc e he] at ha; cases ha
  ·obtain ⟨m,rfl⟩:=p
   rw[show S'++[(⟨some v,.dat m (.bool true),F'⟩ : Ent)]=S'++⟨some v,.dat m (.bool true),F'⟩::[] from rfl] at hA
   obtain ⟨rfl,_⟩:=(hA.told mem_mid).bl_inv
   exact k1 H'
end
def iP(i:Nat)(dl dh:DO):DE:=λδ P=>match δ.sl[i]? with
 | some (.scr ns)=>dl δ λl δ2=>dh δ2 λh δ3=>P (.dat .ow (.list ((Km ns l h).map By))) δ3
 | _=>False
section
variable{X:Cx}{e b:Expr}{de:DE}{lo hi:Option Expr}{dl dh:DO}{pos p2:Pos}{i:Nat}
theorem A2{K:PySem.W.Frag}{H0 H:Hp}{Y:Addr->Prop}{S T:List Ent}{δ:DS}{ns:List Int}(hS:Sl S δ)(hA:At K H0 Y δ.n (S++T) H)(hi:δ.sl[i]? = some (.scr ns)):∃a,(vs S)[i]? = some (some (.ref a))/\(⟨some (.ref a),.scr ns,[]⟩ : Ent)∈S/\KL K H a (ns.map V.int)/\ns.length<=63:=by
 obtain ⟨ent,e2,e3⟩:=Io hS hi
 have hm:ent∈S:=Be e2
 obtain ⟨u,x,F⟩:=ent
 have e3':x=.scr ns:=e3
 subst e3'
 obtain ⟨a,h1,h2,h3⟩:=hA.ok _ (An _ hm)
 have h1':u=some (.ref a):=h1
 have h2':F=[]:=h2
 subst h1' h2'
 exact ⟨a,by rw[Kk e2],hm,h3⟩
theorem sR(he:PE X e (Ud i))(hl:B5 X lo dl)(hh:B5 X hi dh):Ei X (.Subscript e (.Slice lo hi none p2) pos) (iP i dl dh):=by
 refine PE.imp (gP (r:=A1 X.K) vP he hl hh) λσ H Q h=>?_
 obtain ⟨H0,Y,S,T,δ,P,rfl,hS,hA,hd,k⟩:=h
 unfold iP at hd
 split at hd
 case h_2=>exact hd.elim
 rename_i ns hsl
 obtain ⟨a,ha,hm,hK,h63⟩:=A2 hS hA hsl
 have hA0:At X.K H0 Y δ.n (S++⟨some (.ref a),.scr ns,[]⟩::T) H:=(At.view1 hA (An _ hm)).tomid
 refine ⟨.ref a,ha,H0,Y,S,⟨some (.ref a),.scr ns,[]⟩::T,δ,_,rfl,hS,hA0,hd,λl δ2 S2 H2 e3 e4 hA2 p2=>?_⟩
 refine ⟨H0,Y,S2,⟨some (.ref a),.scr ns,[]⟩::T,δ2,_,e3,e4,hA2,p2,λh δ3 S3 H3 e5 e6 hA3 p3=>?_⟩
 obtain ⟨a',h1,_,hK3,_⟩:=hA3.ok _ mem_mid
 cases h1
 refine ⟨a,_,rfl,hK3.sq,λp hp=>?_⟩
 have : Xc (ns.map V.int) l h=(Km ns l h).map V.int:=by
  rw[<- hW]; rfl
 rw[this]
 refine k _ δ3 _ _ S3 _ e5 e6 (hA3.drop.newI (RdFs.ints _) (Mh _) ?_ hp .ow) p3
 rw[Ae]
 have l1:=(Lr ns l h).length_le
 exact sz (by omega)
end
section
variable{K:PySem.W.Frag}{H0 H H':Hp}{Y:Addr->Prop}{n n':Nat}{E S T:List Ent}
theorem At.re(h:At K H0 Y n E H)(ok:∀e∈E,Hv K H' n' e)(s:∀b o,¬ Y b->H0 b=some o->H' b=some o)(dm:∀b o,H0 b=some o->∃o',H' b=some o')(xd:∀b,Y b->H0 b≠none/\∃c k f,Zl H' b c k f/\0<=k/\k<=(n':Int)):At K H0 Y n' E H':=⟨ok,h.sep,h.new,s,dm,xd⟩
end
theorem rD{P:Bu}{w:World}{K:PySem.W.Frag}{mg:Str->Option Value}{base:Heap}{k:Nat}{f:Addr}{fd:Cb}{ps:List Str}(F:FnOk P w K mg base Fd k f fd ps kE):FnOk P w K mg base Fd k f fd ps Ta:=by
 refine F.imp λus H Q E h=>?_
 obtain ⟨c,rfl,h⟩:=h
 exact ⟨c,rfl,λp f H'=>h p c f H'⟩
def Rp:DF:=λds n R=>ds=[]/\n<=100000/\∀r:Int,R (.int r) (n+1)
theorem wV{P:Bu}{w:World}{K:PySem.W.Frag}{mg:Str->Option Value}{base:Heap}{k:Nat}{f:Addr}{fd:Cb}{ps:List Str}(F:FnOk P w K mg base Fd k f fd ps sJ):FnOk P w K mg base Fd k f fd ps (Zn K Rp):=by
 refine F.imp λus H Q E h=>?_
 obtain ⟨dr,ws,As,n,ds,R,rfl,eu,ok,nd,⟨c,kk,fl,hdr,h0,h1⟩,q,hp,k1⟩:=h
 obtain ⟨rfl,hn,hR⟩:=hp
 have hAs:As=[]:=by
  have:=Ln q
  rw[Ae] at this
  exact Oq.mp this
 subst hAs
 have hws:ws=[]:=by
  cases ws with
  | nil=>rfl
  | cons _ _=>cases eu
 subst hws
 refine ⟨dr,c,kk,fl,rfl,hdr,h0,by omega,λr c' H' hd' s=>?_⟩
 exact k1 (.int r) (.int r) [] (n+1) H' (by omega) (hR r) (.int r) Do (λ_ z=>(nomatch z)) ⟨c',kk+1,fl,hd',by omega,by omega⟩ s
theorem Ls{ns:List Int}(r:Ck 60 ns):ns.length<=60:=Bm (NdS.len_leI (r.1.imp λ{x y} h=>Int.ne_of_lt h) λe he=>Wg (r.2 e he).1 (r.2 e he).2) (by decide)
def O0{α:Type}(xs:List α)(k:Nat)(y:α):List α:=xs.take k++y::xs.drop k
def mmd:Md->Md->Md
 | .ow,.ow=>.ow
 | _,_=>.tp
section
variable{K:PySem.W.Frag}{H0 H:Hp}{X:Addr->Prop}{n:Nat}{E:List Ent}
theorem At.merge{v:Option V}{w:V}{m my:Md}{ds es:List Ad}{e:Ad}{a:Addr}{F Fy G:List Addr}{ys:List V}(h:At K H0 X n (⟨v,.dat m (.list ds),a::F⟩::⟨some w,.dat my e,Fy⟩::E) H)(ho:own1 m=true)(hy:my≠.pk)(hv:v=some (.ref a))(np:∀e∈E,Lx e.x=false)(r:RdFs K H ys es G)(hG:∀c∈G,c∈F\/c∈Fy)(hnd:(F++Fy).Nodup->G.Nodup)(hz:es.length<=Aw):At K H0 X n (⟨v,.dat (mmd m my) (.list es),a::G⟩::E) (upd H a (.lst ys)):=by
 obtain ⟨w1,e1,rd,hn,ht⟩:=h.ok _ Aa
 obtain ⟨w2,e2',rdy,hny,hty⟩:=h.ok _ (Ab _ Aa)
 obtain ⟨b,xs,G0,e2,ha,ra,eF,_⟩:=rd.list_inv
 have eF':a::F=b::G0:=eF
 cases eF'
 have hs:=Ax.mp h.sep
 have hs2:=Ax.mp hs.2
 have s12:=hs.1 _ Aa
 have pk2:Lx (DV.dat my e)=false:=by cases my <;> first | rfl | exact absurd rfl hy
 have pk1:Lx (DV.dat m (.list ds))=false:=by cases m <;> first | rfl | cases ho
 have naF:a∉F:=by
  cases m with
  | ow=>exact (Bt.mp (hn rfl)).1
  | tp=>exact ht rfl a F rfl
  | sh=>cases ho
  | pk=>cases ho
 have ca:a∈cells ⟨v,.dat m (.list ds),a::F⟩:=by
  cases m <;> first | exact Aa | cases ho
 have naY:a∉Fy:=s12.1 (.inl pk2) a ca
 have naG:a∉G:=λz=>(hG a z).elim naF naY
 have kp:∀{F':List Addr},a∉F'->Kp F' H (upd H a (.lst ys)):=λ{F'} hF b o q z=>by
  have : b≠a:=by
   rintro rfl
   rw[ha] at q
   cases q
   rcases z with z | z
   ·exact hF z
   ·rcases z with ⟨_,z⟩ | ⟨_,_,z⟩ <;> cases z
  rw[Dr this]
  exact q
 have n0:H0 a=none:=by
  rcases h.new _ Aa a ca with z | z
  ·exact z
  ·cases z.2
 have cs:∀c∈cells ⟨v,.dat (mmd m my) (.list es),a::G⟩,c∈cells ⟨v,.dat m (.list ds),a::F⟩\/c∈cells ⟨some w,.dat my e,Fy⟩:=λc hc=>by
  by_cases hm:m=.ow/\my=.ow
  ·obtain ⟨rfl,rfl⟩:=hm
   rcases Ai.mp (show c∈a::G from hc) with z | z
   ·rw[z]; exact .inl ca
   ·rcases hG c z with z | z
    ·exact .inl (Ab _ z)
    ·exact .inr z
  ·have hc':c∈[a]:=by
    cases m <;> cases my <;> first | exact hc | exact absurd ⟨rfl,rfl⟩ hm
   rw[Am.mp hc']; exact .inl ca
 refine ⟨λf hf=>?_,?_,λf hf=>?_,λb o nx q=>?_,λb o q=>?_,λb hb=>?_⟩
 ·rcases Ai.mp hf with rfl | hf
  ·refine ⟨.ref a,hv,.lst Dt hz (r.kp (kp naG)),λz=>?_,λz c l e=>?_⟩
   ·have hm:m=.ow/\my=.ow:=by
     cases m <;> cases my <;> first | exact ⟨rfl,rfl⟩ | cases z
    obtain ⟨rfl,rfl⟩:=hm
    refine Bt.mpr ⟨naG,hnd (Fg.mpr ⟨(Bt.mp (hn rfl)).2,hny rfl,λx hx y hy' e=>?_⟩)⟩
    subst e
    exact s12.1 (.inl pk2) x (Ab _ hx) hy'
   ·cases e
    exact naG
  ·have f1:=Ab (⟨some w,.dat my e,Fy⟩ : Ent) hf
   exact (h.ok f (Ab _ f1)).kp (kp ((hs.1 f f1).1 (.inl (np f hf)) a ca)) (Ah _)
 ·refine Ax.mpr ⟨λf hf=>?_,hs2.2⟩
  have f1:=Ab (⟨some w,.dat my e,Fy⟩ : Ent) hf
  refine ⟨λhq c hc=>?_,λhq c hc z=>?_⟩
  ·rcases cs c hc with z | z
   ·exact (hs.1 f f1).1 (.inl (np f hf)) c z
   ·exact (hs2.1 f hf).1 (.inl (np f hf)) c z
  ·rcases Ai.mp z with z | z
   ·exact (hs.1 f f1).2 (.inl pk1) c hc (by rw[z]; exact Aa)
   ·rcases hG c z with z | z
    ·exact (hs.1 f f1).2 (.inl pk1) c hc (Ab _ z)
    ·exact (hs2.1 f hf).2 (.inl pk2) c hc z
 ·rcases Ai.mp hf with rfl | hf
  ·intro c hc
   rcases cs c hc with z | z
   ·rcases h.new _ Aa c z with z | z
    ·exact .inl z
    ·cases z.2
   ·rcases h.new _ (Ab _ Aa) c z with z | z
    ·exact .inl z
    ·cases z.2
  ·exact h.new f (Ab _ (Ab _ hf))
 ·rw[Dr (Ez q n0)]
  exact h.same b o nx q
 ·rw[Dr (Ez q n0)]
  exact h.dom b o q
 ·obtain ⟨z,c,k,f,h1,h2⟩:=h.xd b hb
  refine ⟨z,c,k,f,(Dr ?_).trans h1,h2⟩
  rintro rfl
  exact z n0
end
theorem iR{K:PySem.W.Frag}{H0 H:Hp}{X:Addr->Prop}{S T:List Ent}{δ:DS}{i:Nat}{m my:Md}{ds:List Ad}{e:Ad}{w:V}{Fy:List Addr}(hS:Sl S δ)(hT:∀e∈T,Lx e.x=false)(hA:At K H0 X δ.n (S++⟨some w,.dat my e,Fy⟩::T) H)(hi:δ.sl[i]? = some (.dat m (.list ds)))(ho:own1 m=true)(hy:my≠.pk)(np:npk δ.sl=true)(hl:ds.length<1000000):∃a xs,(vs S)[i]? = some (some (.ref a))/\H a=some (.lst xs)/\xs.length=ds.length/\∃S',vs S'=vs S/\Sl S' ⟨δ.sl.set i (.dat (mmd m my) (.list (ds++[e]))),δ.n⟩/\At K H0 X δ.n (S'++T) (upd H a (.lst (xs++[w]))):=by
 obtain ⟨ent,e2,e3⟩:=Io hS hi
 have hm:ent∈S:=Be e2
 obtain ⟨u,x,F⟩:=ent
 have e3':x=.dat m (.list ds):=e3
 subst e3'
 obtain ⟨v,hv,rd,_⟩:=hA.ok _ (An _ hm)
 obtain ⟨a,xs,G,rfl,ha,ra,eF,hz⟩:=rd.list_inv
 have eF':F=a::G:=eF
 subst eF'
 have rw_:=hA.told mem_mid
 refine ⟨a,xs,by rw[Kk e2]; exact congrArg some hv,ha,ra.len,?_⟩
 have hn:=dN hS np
 have pm:(S++⟨some w,.dat my e,Fy⟩::T).Perm (⟨u,.dat m (.list ds),a::G⟩::⟨some w,.dat my e,Fy⟩::(S.eraseIdx i++T)):=by
  refine ((Fx e2).append_right _).trans ?_
  rw[Ew]
  exact Ou _ Kv
 have h1:=(hA.perm pm).merge (es:=ds++[e]) (ys:=xs++[w]) (G:=G++Fy) ho hy hv (λf hf=>?_) (ra.snoc rw_) (λc hc=>Bg.mp hc) (λz=>z) (by rw[Bj]; exact Yw (by simp; omega))
 ·refine ⟨S.set i ⟨u,.dat (mmd m my) (.list (ds++[e])),a::(G++Fy)⟩,?_,?_,h1.perm ?_⟩
  ·unfold vs
   rw[Em]
   apply Kc
   intro j
   rw[Hr]
   split
   ·rename_i hij
    subst hij
    rw[Cf,e2]
    split
    ·rfl
    ·rename_i hj
     rw[Ae] at hj
     exact absurd (Aq.mp e2).1 hj
   ·rfl
  ·unfold Sl at hS ⊢
   rw[Em,hS]
  ·exact ((Qf e2).append_right T).symm
 ·rcases Bg.mp hf with hf | hf
  ·exact hn f ((Rc S i).subset hf)
  ·exact hT f hf
def appOB(i:Nat)(y:DV)(δ:DS)(D:DEnds):Prop:=match δ.sl[i]?,y with
 | some (.dat m (.list ds)),.dat my e=>own1 m=true/\npk δ.sl=true/\my≠.pk/\ds.length<1000000/\D.nx ⟨δ.sl.set i (.dat (mmd m my) (.list (ds++[e]))),δ.n⟩
 | _,_=>False
def Yu(i:Nat)(de:DE):DB:=λD δ=>match δ.sl[i]? with
 | some (.dat _ (.list _))=>de δ λy δ1=>appOB i y δ1 D
 | _=>False
section
variable{X:Cx}{o e:Expr}{de:DE}{apos cpos pos:Pos}{i:Nat}
theorem jY(ho:PE X o (Ud i))(he:Ei X e de)(hbase:Jp o "append" X.env (eval o X.env)=eval o X.env:=by rfl)
  (hfew:((Gc cpos (Bd [e] X.env)).all (λx=>!x.1) && (Vk cpos (Ms [] X.env)).all (λx=>x.1.isSome)
   && decide (([e]:List Expr).length+([]:List Ke).length+(if ([]:List Ke).isEmpty then 0 else 1)<30))=true:=by rfl)
  (hline:(apos.endLine == cpos.line)=true:=by rfl) (hs:Bd [e] X.env=(false,eval e X.env)::Bd [] X.env:=by rfl) (hplain:(Gc cpos (Bd [] X.env)).any (·.1)=false:=by rfl)
  (hsw:Oh (.Call (.Attribute o "append" apos) [e] [] cpos) none pos.line X.env=pure false:=by rfl) :
  lJ X (.Expr (.Call (.Attribute o "append" apos) [e] [] cpos) pos) (Yu i de):=by
 refine PS.impD (Vu (Zr PySem.F.plainAttrs_list PySem.F.slot_list_append PySem.F.type_list_append Nh ho (Fh he Jd hs) hbase hfew hline hs hplain) hsw) λD σ H h=>?_
 obtain ⟨H0,Y,S,T,δ,P,rfl,hS,hT,hA,hd,k1,k2,k3,k4⟩:=h
 unfold Yu at hd
 split at hd
 case h_2=>exact hd.elim
 rename_i m0 ds0 hsl
 obtain ⟨ent,e2,e3⟩:=Io hS hsl
 have hm:ent∈S:=Be e2
 obtain ⟨u,x,F⟩:=ent
 have e3':x=.dat m0 (.list ds0):=e3
 subst e3'
 obtain ⟨v,hv,rd,_⟩:=hA.ok _ (An _ hm)
 obtain ⟨a,xs,G,rfl,ha,ra,eF,hz⟩:=rd.list_inv
 refine ⟨.ref a,by rw[Kk e2]; exact congrArg some hv,.inl ⟨rfl,xs,Oy.of ha⟩,H0,Y,S,T,δ,_,rfl,hS,hA,hd,λy δ1 w F1 S1 H1 e4 e5 hA1 p1=>?_⟩
 unfold appOB at p1
 split at p1
 ·rename_i m ds my e' hsl1
  obtain ⟨p1,p2,p3,p4,p5⟩:=p1
  obtain ⟨b,xs1,g1,g2,g3,S2,h1,h2,h3⟩:=iR e5 hT hA1 hsl1 p1 p3 p2 p4
  rw[e4,Kk e2] at g1
  have : some (V.ref b)=some (V.ref a):=(Ca g1).symm.trans hv
  cases this
  refine ⟨a,xs1,w,rfl,rfl,g2,Bp (by omega) (Yw (n:=1000000) (Ah _)),?_⟩
  rw[<- e4,<- h1]
  exact k1 ⟨_,_⟩ S2 _ h2 h3 p5
 ·exact p1.elim
end
end DL
namespace Nd
open PySem PySem.Spec PyProof.Rows L2
end Nd
namespace DL
open PySem PySem.Spec PyProof.Rows L2 Nd
theorem yL{m:Md}{d:Ad}(h:m≠.pk):Lx (.dat m d)=false:=by cases m <;> first | rfl | exact absurd rfl h
end DL
namespace Nd
open PySem PySem.Spec PyProof.Rows
end Nd
namespace L2
open PySem PySem.Spec PyProof.Rows
end L2
namespace Nd
open PySem PySem.Spec PyProof.Rows L2
end Nd
namespace DL
open PySem PySem.Spec PyProof.Rows L2 Nd
theorem lQ(w:List Int):(sN w).map kV=w.map V.int:=by
 unfold sN
 rw[Ds]
 rfl
section
variable{K:PySem.W.Frag}
theorem uR{H:Hp}{v:V}{w:List Int}{F:List Addr}(r:RdF K H v (Bv w) F):∃b,v=.ref b/\H b=some (.tup ((sN w).map kV)):=by
 obtain ⟨b,xs,rfl,hb,rb,_⟩:=r.tup_inv
 obtain ⟨rfl,_⟩:=rb.ints_inv
 exact ⟨b,rfl,by rw[lQ]; exact hb⟩
end
def xZ:V->Int
 | .int i=>i
 | _=>0
def B8(H:Hp)(r:Addr):List Int:=match H r with
 | some (.tup xs)=>xs.map xZ
 | _=>[]
theorem r9{H:Hp}{r:Addr}{w:List Int}(h:H r=some (.tup (w.map V.int))):B8 H r=w:=by
 unfold B8
 rw[h]
 show (w.map V.int).map xZ=w
 rw[Ds]
 exact List.map_id' w
section
variable{K:PySem.W.Frag}{H:Hp}
theorem iC:∀{ws:List (List Int)} {xs:List V} {ds:List Ad} {G:List Addr},RdFs K H xs ds G->ds=ws.map Bv->∃rs:List Addr,xs=rs.map V.ref/\ws=rs.map (B8 H)/\G=[]/\(∀r∈rs,H r=some (.tup ((B8 H r).map V.int)))/\∀r∈rs,RdF K H (.ref r) (Bv (B8 H r)) []
 | [],_,_,_,h,e=>by
  subst e
  cases h
  exact ⟨[],rfl,rfl,rfl,(λ_ z=>nomatch z),(λ_ z=>nomatch z)⟩
 | w::ws,_,_,_,h,e=>by
  cases h with
  | nil=>cases e
  | cons a t =>
   obtain ⟨e1,e2⟩:=Kd e
   obtain ⟨rs,rfl,rfl,rfl,h1,h2⟩:=iC t e2
   subst e1
   obtain ⟨r,rfl,hr⟩:=uR a
   rw[lQ] at hr
   have ew:=r9 hr
   obtain rfl:=a.imm (show imm (Bv w)=true from Mh w)
   refine ⟨r::rs,rfl,by rw[Au,ew],rfl,λx hx=>?_,λx hx=>?_⟩
   ·rcases Ai.mp hx with rfl | hx
    ·rw[ew]; exact hr
    ·exact h1 x hx
   ·rcases Ai.mp hx with rfl | hx
    ·rw[ew]; exact a
    ·exact h2 x hx
theorem Rt:∀L:List (List Int),Dk (L.map Bv)=true
 | []=>rfl
 | w::L=>by
  show (imm (Bv w) && Dk (L.map Bv))=true
  rw[Rt L,show imm (Bv w)=true from Mh w]; rfl
end
end DL
namespace Nd
open PySem PySem.Spec PyProof.Rows L2
end Nd
namespace DL
open PySem PySem.Spec PyProof.Rows L2 Nd
end DL
namespace Nd
open PySem PySem.Spec PySem.Calls PyProof.Rows PyProof.V L2
def E3(r:Addr)(j:Int)(h:Heap):Prop:=∃t u v,IsRange h r 0 j 1 t u v
abbrev tO(r:Addr)(j:Int):HO:=.ext (E3 r j)
section
variable{prog:Bu}{w:World}{A:Df}{E:Value->Aj->Prop}{s:Aj}
theorem Zf{R:List Value->Aj->Prop}{r:Addr}{a b c:Int}{t u v:Tok}{n:Nat}(hh:A.handled=none)(hr:IsRange s.heap r a b c t u v)(hsmall:Builtin.Range.small a b c=true)(hn:Hz a b c=n)(hlen:n<=2 ^ 24)(h:∀(h':Heap) (tk:Nat) (acc:Array Value),(∀b o,s.heap.get? b=some o->h'.get? b=some o)->ItemsOf (λi v=>∃t,v=.int (a+i * c) t) acc n->R acc.toList { s with heap:=h',toks:=tk }):wpAny (model prog w) A (collect (.ref r)) R E s:=by
 unfold collect
 refine Ac (wpAny_runValue (Et PyProof.Rows.entry_proto_collect' ?_))
 rw[Ee PySem.F.plain_proto_collect _]
 show wpAny _ A.in1 (newList [] >>= λl=>again (.builtin "list.__iadd__" ⟨[l,.ref r],[]⟩)) _ _ s
 refine Ac (Du ?_)
 refine Al ⟨Mf PySem.F.plain_list_iadd _,Et PyProof.Rows.entry_list_iadd' ?_⟩
 rw[Ee PySem.F.plain_list_iadd _]
 have hS₁:(s.heap.push { cls:=.type "list",data:=.seq ([]:List Value).toArray }).get? s.heap.objs.size=some { cls:=.type "list",data:=.seq #[] }:=Ay _ rfl
 show wpAny _ A.in1 (Builtin.List.listExtendWith (.ref s.heap.objs.size) (.ref r) (.ref s.heap.objs.size)) _ _ _
 have key:=wpAny_extend_range (prog:=prog) (w:=w) (A:=A) (s:={ s with heap:=s.heap.push { cls:=.type "list",data:=.seq ([]:List Value).toArray } })
  (R:=λ(q:Result) (s':Aj)=>∃(h':Heap) (tk:Nat) (acc':Array Value) (c':Nat),q=.ok (.ret (.ref s.heap.objs.size))/\s'={ s with heap:=h',toks:=tk } /\
   (∀b o,s.heap.get? b=some o->h'.get? b=some o)/\h'.get? s.heap.objs.size=some { cls:=.type "list",dict:=none,data:=.seq acc' c',slots:=#[] }/\ItemsOf (λi v=>∃t,v=.int (a+i * c) t) acc' n)
  hh (Ag _ hr) hsmall hn hlen s.heap.objs.size (.ref s.heap.objs.size) 0 hS₁
  (λh' tk acc' c' hk hS' hacc=>⟨h',tk,acc',c',rfl,rfl,λb o e=>hk b o (Cp (Bc e)) (Ag _ e),hS',hacc⟩)
 refine Iy key (λfin s' x=>?_) λe s' x=>?_
 ·cases fin with
  | done f =>
   obtain ⟨h',tk,acc',c',e,rfl,hk,hS',hacc⟩:=x
   cases e
   show wpAny _ A (load s.heap.objs.size >>= _) _ _ _
   refine Ac (wpAny_load hS' ?_)
   exact Al (h h' tk acc' hk hacc)
  | again c₁ =>
   refine ⟨x.1,Jb x.2 λq s₂ y=>?_⟩
   obtain ⟨h',tk,acc',c',rfl,rfl,hk,hS',hacc⟩:=y
   show wpAny _ A (load s.heap.objs.size >>= _) _ _ _
   refine Ac (wpAny_load hS' ?_)
   exact Al (h h' tk acc' hk hacc)
 ·obtain ⟨_,_,_,_,e',_⟩:=x
  cases e'
theorem Ur{Q₁:Value->Aj->Prop}{r:Addr}{a b c:Int}{t u v:Tok}{n:Nat}(hh:A.handled=none)(hr:IsRange s.heap r a b c t u v)(hsmall:Builtin.Range.small a b c=true)(hn:Hz a b c=n)(hlen:n<=1000)(h:∀(h':Heap) (tk:Nat) (acc:Array Value),(∀b o,s.heap.get? b=some o->h'.get? b=some o)->ItemsOf (λi v=>∃t,v=.int (a+i * c) t) acc n->Q₁ (.ref h'.objs.size) { s with heap:=h'.push { cls:=.type "tuple",data:=.seq acc },toks:=tk }):Ld (model prog w) A (.call (.builtin "tuple.__new__") ⟨[.type "tuple",.ref r],[]⟩) (wants Q₁ E) s:=by
 refine Tg ?_
 show wpAny _ A.in1 (do checkBuiltinCall "tuple.__new__" ⟨[.type "tuple",.ref r],[]⟩; again (.builtin "tuple.__new__" ⟨[.type "tuple",.ref r],[]⟩)) _ _ s
 refine Ac (Kn (F.newCall_tuple_1 _) (Al ⟨Mf F.plain_tuple_new _,Et F.entry_tuple_new ?_⟩))
 rw[Ee F.plain_tuple_new _]
 have hsub:=sub_tuple_self
 have hinit:=init_tuple_lookup
 have hmh:=madeHere_tuple
 have hTI:s.TypeIs (.ref r) "range" := ⟨_,hr,rfl⟩
 have hh1:A.in1.handled=none:=hh
 wp_walk using Nv hTI,Zf hh1 hr hsmall hn (by omega)
 intro h' tk acc hm hacc
 show wpAny _ _ (En acc.toList.toArray >>= λv=>ret v) _ _ _
 unfold En
 refine Ac (Du ?_ (by show acc.toList.toArray.size<=Aw; simp only[Array.toArray_toList]; rw[hacc.1,Hm]; omega))
 refine Al ?_
 have e:acc.toList.toArray=acc:=by simp
 rw[e]
 exact h h' tk acc hm hacc
end
theorem Zh:∀{n:Nat} {acc:Array Value},acc.size=n->(∀(i:Nat) v,acc[i]? = some v->∃t,v=Oo (i:Int) t)->Jc acc.toList ((Br n).map λk:Nat=>(k:Int)):=by
 intro n acc hs h
 have gen:∀(l:List Value) (m:Nat),(∀(i:Nat) v,l[i]? = some v->∃t,v=Oo ((m+i:Nat):Int) t)->Jc l ((List.range' m l.length).map λk:Nat=>(k:Int)):=by
  intro l
  induction l with
  | nil=>intro m _; exact .nil
  | cons x l ih =>
   intro m hx
   obtain ⟨t,e⟩:=hx 0 x rfl
   have:=ih (m+1) λi v hv=>by
    obtain ⟨t,e⟩:=hx (i+1) v hv
    exact ⟨t,by rw[e]; congr 1; omega⟩
   rw[Bq,List.range'_succ,Au]
   rw[e]
   exact .cons _ t this
 have:=gen acc.toList 0 λi v hv=>by
  obtain ⟨t,e⟩:=h i v (by simpa using hv)
  exact ⟨t,by rw[e]; congr 1; omega⟩
 rw[List.range_eq_range']
 have e:acc.toList.length=n:=by simpa using hs
 rw[e] at this
 exact this
section
variable{X:Cx}
def N5:List V->Hp->VK->Prop:=λxs H Q=>∃j:Int,xs=[.int j]/\∀r,H r=none->Q (.ref r) (upd H r (tO r j))
theorem eE:Jn X (.type "range") N5:=by
 intro pins s σ H xs us Q I r h
 obtain ⟨j,rfl,q⟩:=h
 obtain ⟨u,rfl,t,rfl⟩:=vals1 r
 refine call_range_1 ⟨.ref s.heap.objs.size,_,I.laid (a:=s.heap.objs.size) (o:=tO s.heap.objs.size j) (t':=s.toks+1+1) (λb o e=>Ag _ e) (Ah _) ?_,rfl,q _ (I.hok.fresh (Ah _))⟩
 refine ⟨⟨_,_,_,Ay _ rfl⟩,⟨_,Ay _ rfl⟩,λh1 h2 ⟨t,u,v,e⟩ k=>⟨t,u,v,k _ e⟩⟩
def L3:List V->Hp->VK->Prop:=λxs H Q=>∃(r:Addr) (j:Int),xs=[.ref r]/\H r=some (tO r j)/\0<=j/\j<=1000/\∀l,H l=none->Q (.ref l) (upd H l (.tup (((Br j.toNat).map λn:Nat=>(n:Int)).map V.int)))
theorem gY(hc:X.calm=true):Jn X (.type "tuple") L3:=by
 intro pins s σ H xs us Q I r h
 obtain ⟨p,j,rfl,hp,j0,j1,q⟩:=h
 obtain ⟨u,rfl,ru⟩:=vals1 r
 cases ru
 obtain ⟨⟨t,u,v,hr⟩,_,_⟩:=(show Hu X.prog X.w H s.heap p (tO p j) from I.hok p _ hp)
 have hn:Hz 0 j 1=((j.toNat:Nat):Int):=by rw[rangeSize_one]; split <;> omega
 refine callType_codes (Q₁:=λobj s₁=>s₁.TypeIs obj "tuple" /\ EP X pins σ Q obj s₁) F.called_tuple (F.typeCall_tuple_1 _) F.entry_object_init
  (Ur (prog:=X.prog) (w:=X.w) (E:=X.xe) (Q₁:=λobj s₁=>s₁.TypeIs obj "tuple" /\ EP X pins σ Q obj s₁) (A:=X.A.in1) (show X.A.in1.handled=none from I.ok.hd hc) hr (small_one (by omega) (by omega) (by omega) (by omega)) hn (by omega) λh' tk acc hk hacc=>⟨⟨_,Ay _ rfl,rfl⟩,?_⟩) λobj s₁ h₁=>?_
 ·have I1:Inv X pins σ H { s with heap:=h',toks:=tk }:=I.kept hk
  have hv:Ek (((Br j.toNat).map λn:Nat=>(n:Int)).map V.int) acc.toList:=by
   refine yV (Zh ?_ ?_)
   ·exact hacc.1
   ·intro i v hv
    obtain ⟨t,e⟩:=hacc.2 i v hv
    exact ⟨t,by rw[e]; congr 1; omega⟩
  refine ⟨.ref h'.objs.size,_,I1.laid (a:=h'.objs.size) (o:=.tup (((Br j.toNat).map λn:Nat=>(n:Int)).map V.int)) (t':=tk) (λb o e=>Ag _ e) (Ah _) ⟨?_,acc.toList,hv,?_⟩,rfl,q _ (I1.hok.fresh (Ah _))⟩
  ·rw[Ae,Ae,De]; exact sz (by omega)
  ·have e:acc=acc.toList.toArray:=by simp
   rw[e]
   exact IsTup.new _ _
 ·exact ⟨h₁.1,F.args_object_init_2 obj _,object_init_meets F.called_tuple.init.lookup F.called_tuple.made (by decide) X.prog X.w X.A.in1 _ s₁ ⟨h₁.1,rfl,h₁.2⟩⟩
end
end Nd
namespace DL
open PySem PySem.Spec PyProof.Rows L2 Nd
def F9(da:DA):DE:=λδ P=>da δ λxs δ1=>match xs with
 | [.dat _ (.tuple ds)]=>∃ns:List Int,ds=ns.map By/\(∀x∈ns,0<=x/\x<60)/\P (.dat .ow (.list ((Xp ns).map By))) δ1
 | _=>False
section
variable{X:Cx}{p p2 pos pos2:Pos}{e:Expr}{da:DA}
theorem zL(hc:X.calm=true)(hg:Gl X "sorted")(hm:X.mg "sorted" = none)(hg2:Gl X "set")(hm2:X.mg "set" = none)(ha:oW X [e] da)(he:Bd [e] X.env=[(false,eval e X.env)]:=by rfl)(he2:Bd [.Call (.Name "set" p2) [e] [] pos2] X.env=[(false,eval (.Call (.Name "set" p2) [e] [] pos2) X.env)]:=by rfl):Ei X (.Call (.Name "sorted" p) [.Call (.Name "set" p2) [e] [] pos2] [] pos) (F9 da):=by
 refine PE.imp (Wx (cQ hc) hg hm (by decide +kernel) (Fh (Nq (pT hc) hg2 hm2 (by decide +kernel) ha (by decide) (by decide) he rfl) Jd he2) (by decide) (by decide) he2 rfl) λσ H Q h=>?_
 obtain ⟨H0,Y,S,T,δ,P,rfl,hS,hA,hd,k⟩:=h
 refine ⟨H0,Y,S,T,δ,_,rfl,hS,hA,hd,λxs δ' As us S' H' e1 e2 ex eu hA' p=>?_⟩
 split at p
 ·obtain ⟨v,F,rfl,hA2⟩:=Il eu hA' ex
  obtain ⟨ns,rfl,hb,pp⟩:=p
  obtain ⟨a,xs,rfl,ha,ra,hz⟩:=(hA2.told mem_mid).tup_inv
  obtain ⟨rfl,_⟩:=ra.ints_inv
  refine ⟨a,ns,U4,rfl,To.of ha,by decide,λx hx=>Wg (hb x hx).1 (hb x hx).2,λq hq=>?_⟩
  refine ⟨q,ns,rfl,Dt,λr us nr nd pw mem=>?_⟩
  rw[vX (Zw nd pw) mem]
  have s1:=Fu hq (jV X.w q ns)
  exact k _ δ' _ _ S' _ e1 e2 ((hA2.drop.grow s1 (Ah _)).newI (RdFs.ints _) (Mh _) (by rw[Ae]; exact sz (by have:=tL hb; omega)) nr .ow) pp
 ·exact p.elim
end
def oI(j:Nat):List Int:=(Br j).map λn:Nat=>(n:Int)
def P2(x:DV)(δ:DS)(P:DV->DS->Prop):Prop:=match x with
 | .dat _ (.int j)=>0<=j/\j<=1000/\P (.dat .ow (Bv (oI j.toNat))) δ
 | _=>False
def U3(de:DE):DE:=λδ P=>de δ λx δ1=>P2 x δ1 P
section
variable{X:Cx}{p p2 pos pos2:Pos}{e:Expr}{de:DE}
theorem nL(hc:X.calm=true)(hg:Gl X "tuple")(hm:X.mg "tuple" = none)(hg2:Gl X "range")(hm2:X.mg "range" = none)(ha:Ei X e de)(he:Bd [e] X.env=[(false,eval e X.env)]:=by rfl)(he2:Bd [.Call (.Name "range" p2) [e] [] pos2] X.env=[(false,eval (.Call (.Name "range" p2) [e] [] pos2) X.env)]:=by rfl):Ei X (.Call (.Name "tuple" p) [.Call (.Name "range" p2) [e] [] pos2] [] pos) (U3 de):=by
 refine PE.imp (Nq (gY hc) hg hm (by decide +kernel) (Fh (Nq eE hg2 hm2 (by decide +kernel) (Fh ha Jd he) (by decide) (by decide) he rfl) Jd he2) (by decide) (by decide) he2 rfl) λσ H Q h=>?_
 obtain ⟨H0,Y,S,T,δ,P,rfl,hS,hA,hd,k⟩:=h
 refine ⟨H0,Y,S,T,δ,_,rfl,hS,hA,hd,λx δ' v F S' H' e1 e2 hA' p=>?_⟩
 unfold P2 at p
 split at p
 ·rename_i m j
  obtain ⟨j0,j1,p⟩:=p
  obtain ⟨rfl,_⟩:=(hA'.told mem_mid).int_inv
  refine ⟨j,rfl,λr nr=>⟨r,j,rfl,Dt,j0,j1,λl nl=>?_⟩⟩
  have s1:=Fu nr (tO r j)
  have s2:=Fu nl (.tup ((oI j.toNat).map V.int))
  refine k _ δ' _ _ S' _ e1 e2 (((hA'.drop.grow s1 (Ah _)).grow s2 (Ah _)).pushI (RdF.tup Dt ?_ (RdFs.ints _))) p
  rw[Ae]
  unfold oI
  rw[Ae,De]
  exact Yw (by omega)
 ·exact p.elim
end
abbrev PX:=List Ad->(Ad->Prop)->(Addr->Prop)->Prop
end DL
namespace Nd
open PySem PySem.Spec PyProof.Rows L2
end Nd
namespace DL
open PySem PySem.Spec PyProof.Rows L2 Nd
end DL
namespace Nd
open PySem PySem.Spec PyProof.Rows L2
end Nd
namespace Nd
open PySem PySem.Spec
end Nd
namespace Nd
open PySem PySem.Spec PyProof.Rows L2
end Nd
namespace DL
open PySem PySem.Spec PyProof.Rows L2 Nd
end DL
namespace Nd
open PySem PySem.Spec PyProof.Rows L2
end Nd
namespace DL
open PySem PySem.Spec PyProof.Rows L2 Nd
end DL
namespace Nd
open PySem PySem.Spec PyProof.Rows L2
end Nd
namespace DL
open PySem PySem.Spec PyProof.Rows L2 Nd
theorem At.spoil{K:PySem.W.Frag}{H0 H H':Hp}{X:Addr->Prop}{n:Nat}{E:List Ent}{v:Option V}{d:Ad}{F:List Addr}(h:At K H0 X n (⟨v,.dat .ow d,F⟩::E) H)(np:∀f∈E,Lx f.x=false)(hs:∀b o,H b=some o->(b∉F\/L5 o)->H' b=some o):At K H0 X n E H':=by
 have hp:=Ax.mp h.sep
 have n0:∀a∈F,H0 a=none:=λa ha=>by
  rcases h.new _ Aa a ha with z | z
  ·exact z
  ·cases z.2
 refine At.re (h.sub (Dd _ _)) (λf hf=>(h.ok f (Ab _ hf)).kp (λb o e z=>hs b o e (z.imp (λq r=>(hp.1 f hf).1 (.inl (np f hf)) b r q) id)) (Ah _)) (λb o nx q=>hs b o (h.same b o nx q) (.inl λz=>?_)) (λb o q=>?_) λb hb=>?_
 ·rw[n0 b z] at q; cases q
 ·obtain ⟨o',e⟩:=h.dom b o q
  exact ⟨o',hs b o' e (.inl λz=>by rw[n0 b z] at q; cases q)⟩
 ·obtain ⟨z,c,k,f,h1,h2⟩:=h.xd b hb
  exact ⟨z,c,k,f,hs _ _ h1 (.inl λw=>z (n0 b w)),h2⟩
end DL
namespace Ts
open PySem PyProof.Rows L2
end Ts
namespace DL
open PySem PySem.Spec PyProof.Rows L2 Nd Ts
end DL
namespace DL
open PySem PySem.Spec PyProof.Rows L2 Nd
end DL
namespace Nd
open PySem PySem.Spec PyProof.Rows L2
end Nd
namespace DL
open PySem PySem.Spec PyProof.Rows L2 Nd
end DL
namespace Nd
open PySem PySem.Spec PySem.Calls PyProof.Rows PyProof.V L2 Ts
end Nd
namespace DL
open PySem PySem.Spec PyProof.Rows L2 Nd Ts
theorem tab_no{K:PySem.W.Frag}{x:Str}(nm:PySem.W.nsIn K Ce x=some none):PySem.W.tabIn K x=none:=by
 unfold PySem.W.tabIn
 rw[nm]
end DL
namespace HT
open PySem PyProof.Rows
end HT
namespace Nd
open PySem PySem.Spec PySem.Calls PyProof.Rows PyProof.V L2 Ts
end Nd
namespace DL
open PySem PySem.Spec PyProof.Rows L2 Nd Ts
end DL
namespace DL
open PySem PySem.Spec PyProof.Rows L2 Nd
end DL
namespace DL
open PySem L2 Nd
end DL
namespace Nd
open PySem PySem.Spec PyProof.Rows L2
end Nd
namespace DL
open PySem PySem.Spec PyProof.Rows L2 Nd
def yG(i:Nat)(z y:DV)(δ:DS)(D:DEnds):Prop:=match δ.sl[i]?,z,y with
 | some (.dat m (.list ds)),.dat _ (.int k),.dat my e=>own1 m=true/\npk δ.sl=true/\my≠.pk/\ds.length<1000000/\0<=k/\k<=1000000/\D.nx ⟨δ.sl.set i (.dat (mmd m my) (.list (O0 ds k.toNat e))),δ.n⟩
 | _,_,_=>False
def rM(i:Nat)(dk de:DE):DB:=λD δ=>match δ.sl[i]? with
 | some (.dat _ (.list _))=>dk δ λz δ1=>de δ1 λy δ2=>yG i z y δ2 D
 | _=>False
end DL
namespace NdS
open PySem
theorem bW{m:Nat}:∀{f i t:Nat},t<f->it m t i∈M9 m f i
 | f+1,i,0,_=>Aa ..
 | f+1,i,t+1,h=>Ab _ (bW (Nat.lt_of_succ_lt_succ h))
theorem j9{m:Nat}(i:Nat):st (2 * m) i % m=st m (i % m):=by
 unfold st
 rw[Nat.mod_mod_of_dvd _ ⟨2,by omega⟩,Oi,Nat.mul_mod]
 conv=>rhs; rw[Oi,Nat.mul_mod,Nat.mod_mod]
theorem tD{m:Nat}:∀(t i:Nat),it (2 * m) t i % m=it m t (i % m)
 | 0,i=>rfl
 | t+1,i=>by
  show it (2 * m) t (st (2 * m) i) % m=it m t (st m (i % m))
  rw[tD t,j9]
theorem xW{m i:Nat}(h:0<m):st m i<m:=Hh _ h
theorem yB{m:Nat}(h:0<m):∀{t i:Nat},i<m->it m t i<m
 | 0,_,hi=>hi
 | t+1,i,hi=>yB h (t:=t) (xW h)
theorem wY{m i:Nat}:st (2 * m) ((i+m) % (2 * m))=(st (2 * m) i+m) % (2 * m):=by
 unfold st
 have e:(i+m) * 5+1=i * 5+1+m+2 * (2 * m):=by omega
 rw[Oi,Nat.mul_mod,Nat.mod_mod,<- Nat.mul_mod,<- Oi,e,Nat.add_mul_mod_self_right,Oi]
 conv=>rhs; rw[Oi,Nat.mod_mod]
theorem mP{m:Nat}:∀(t i:Nat),i<2 * m->it (2 * m) t ((i+m) % (2 * m))=(it (2 * m) t i+m) % (2 * m)
 | 0,i,_=>rfl
 | t+1,i,h=>by
  show it (2 * m) t (st (2 * m) ((i+m) % (2 * m)))=_
  rw[wY,mP t _ (xW (by omega))]
  rfl
theorem Lv{m:Nat}(g:Hd m)(h:it (2 * m) m 0=m):Hd (2 * m):=by
 obtain ⟨h0,h1,h2⟩:=g
 have half:∀t,it (2 * m) (m+t) 0=(it (2 * m) t 0+m) % (2 * m):=λt=>by
  rw[Yr,h]
  have:=mP (m:=m) t 0 (by omega)
  rw[Mv,Fs (show m<2 * m by omega)] at this
  exact this
 refine ⟨by omega,?_,λe he=>?_⟩
 ·have:=half m
  rw[h,show m+m=2 * m by omega,Nat.mod_self] at this
  exact this
 ·obtain ⟨t,ht,et⟩:=We (h2 (e % m) (Hh _ h0))
  have k:=tD (m:=m) t 0
  rw[Nat.zero_mod,et] at k
  have lt:it (2 * m) t 0<2 * m:=yB (by omega) (by omega)
  by_cases c:it (2 * m) t 0=e
  ·rw[<- c]; exact bW (by omega)
  ·have hh:=half t
   have : (it (2 * m) t 0+m) % (2 * m)=e:=by
    generalize it (2 * m) t 0=x at k lt c
    have up:∀{y},m<=y->y<2 * m->y % m=y - m:=λ{y} h1 h2=>by rw[Nat.mod_eq_sub_mod h1,Fs (by omega)]
    by_cases c1:x<m <;> by_cases c2:e<m
    ·rw[Fs c1,Fs c2] at k; omega
    ·rw[Fs c1,up (by omega) he] at k
     rw[Fs (by omega)]; omega
    ·rw[up (by omega) lt,Fs c2] at k
     rw[show x+m=e+2 * m by omega,Nat.add_mod_right,Fs he]
    ·rw[up (by omega) lt,up (by omega) he] at k; omega
   rw[<- this,<- hh]
   exact bW (by omega)
theorem mB:Hd 512:=Lv cP (by decide +kernel)
theorem fA:Hd 1024:=Lv mB (by decide +kernel)
theorem fO:Hd 2048:=Lv fA (by decide +kernel)
theorem fY:Hd 4096:=Lv fO (by decide +kernel)
theorem sP:Hd 8192:=Lv fY (by decide +kernel)
theorem tQ:∀{i:Nat},i<=10->Hd (2 ^ (i+3))
 | 0,_=>mG | 1,_=>qT | 2,_=>pR | 3,_=>rQ | 4,_=>kX | 5,_=>cP
 | 6,_=>mB | 7,_=>fA | 8,_=>fO | 9,_=>fY | 10,_=>sP
 | i+11,h=>absurd h (by omega)
theorem eI{n:Nat}(hn:n<8192):∀(j i f:Nat),i+j=10->∃k,i<=k/\k<=10/\Ia n (f+j+1) (2 ^ (i+3))=2 ^ (k+3)/\n<2 ^ (k+3)
 | 0,i,f,h=>by
  have : i=10:=by omega
  subst this
  refine ⟨10,Ah _,Ah _,?_,hn⟩
  unfold Ia
  rw[if_neg (by show ¬ 8192<=n; omega)]
 | j+1,i,f,h=>by
  by_cases c:2 ^ (i+3)<=n
  ·obtain ⟨k,k1,k2,k3,k4⟩:=eI hn j (i+1) f (by omega)
   refine ⟨k,by omega,k2,?_,k4⟩
   rw[<- k3,show f+(j+1)+1=(f+j+1)+1 by omega]
   show (if 2 ^ (i+3)<=n then Ia n (f+j+1) (2 ^ (i+3) * 2) else _)=_
   rw[if_pos c,<- Nat.pow_succ]
  ·refine ⟨i,Ah _,by omega,?_,Nat.lt_of_not_le c⟩
   show (if 2 ^ (i+3)<=n then Ia n (f+(j+1)) (2 ^ (i+3) * 2) else _)=_
   rw[if_neg c]
theorem rV{n:Nat}(hn:n<8192):∃m,Dc n=m+1/\Hd (m+1)/\n<=m/\7<=m/\m<8192/\m % 2=1:=by
 obtain ⟨k,k1,k2,k3,k4⟩:=eI hn 10 0 53 rfl
 have k3':Dc n=2 ^ (k+3):=k3
 have e:2 ^ (k+3)=2 ^ k * 8:=Nat.pow_add 2 k 3
 have p:0<2 ^ k:=Nat.pow_pos (by decide)
 have up:2 ^ (k+3)<=2 ^ 13:=Se (by decide) (by omega)
 have up':2 ^ (k+3)<=8192:=up
 refine ⟨2 ^ (k+3) - 1,by omega,?_,by omega,by omega,by omega,by omega⟩
 rw[show 2 ^ (k+3) - 1+1=2 ^ (k+3) by omega]
 exact tQ k2
theorem nU{t:Az}{es:Array (Int×Value)}{wanted:Nat}(hp:t.plain=true)(hw:wanted<8192)(h2:es.size * 2<=wanted):∃(t':Az) (order:Array Nat),t.relaid (es.map (·.1)) wanted=some (t',order)/\order.toList.Perm (Br es.size)/\Tab es.size t'/\t'.mask % 2=1/\Dc wanted<=8192/\t'.led=t.led:=by
 obtain ⟨m,e1,g,hm,m7,m8,mo⟩:=rV hw
 have sz:(es.map (·.1)).size=es.size:=Array.size_map ..
 obtain ⟨t',order,q1,q2,q3,q4⟩:=fK (mask:=m) (finger:=t.finger) (moves:=t.movedTo m) (led:=t.led) g (es.map (·.1)) (by rw[sz]; omega)
 rw[sz] at q2 q3
 refine ⟨t',order,?_,q2,q3,?_,by omega,q4⟩
 ·unfold SetTable.relaid
  rw[e1,Nat.add_sub_cancel,hp]
  exact q1
 ·rw[(Si q1).2.1]; exact mo
def Ky(t:Az):Nat->Cv->Cv
 | 0,p=>p
 | k+1,p=>Ky t k (t.advance p)
structure WayOk(t:Az)(p:Cv):Prop where
 more:p.more<=9
 top:p.j+p.more<=t.mask
 dum:p.dummy=none
theorem WayOk.next{t:Az}{p:Cv}(x:WayOk t p):WayOk t (t.advance p):=by
 obtain ⟨h1,h2,h3⟩:=x
 unfold Gi
 split
 ·exact ⟨by dsimp only; omega,by dsimp only; omega,h3⟩
 ·rw[Vz]
  have hi:(p.i * 5+1+p.perturb / 32) % (t.mask+1)<=t.mask:=Me.mp (Hh _ (Ip _))
  have a1:=Qr hi
  have a2:=Lm t.mask ((p.i * 5+1+p.perturb / 32) % (t.mask+1))
  exact ⟨Jr _ _,by dsimp only; omega,h3⟩
theorem Qg{t:Az}(h:Int):WayOk t (t.probeStart h):=by
 have hi:Bn h % (t.mask+1)<=t.mask:=Me.mp (Hh _ (Ip _))
 have a1:=Qr hi
 have a2:=Lm t.mask (Bn h % (t.mask+1))
 exact ⟨Jr _ _,by show Bn h % (t.mask+1)+(Cc t.mask (Bn h % (t.mask+1)) - Bn h % (t.mask+1))<=t.mask; omega,rfl⟩
theorem bN{t:Az}:∀(k:Nat) (p:Cv),p.more=k->∃q:Cv,Ky t (k+1) p=q/\q.j=((p.i * 5+1+p.perturb / 32) % (t.mask+1))/\q.i=q.j/\q.perturb=p.perturb / 32/\q.more<=9
 | 0,p,h=>by
  refine ⟨_,rfl,?_⟩
  show (t.advance p).j=_/\(t.advance p).i=(t.advance p).j/\(t.advance p).perturb=_/\(t.advance p).more<=9
  unfold Gi
  rw[if_neg (by omega),Vz]
  exact ⟨rfl,rfl,rfl,Jr _ _⟩
 | k+1,p,h=>by
  have e:t.advance p={ p with j:=p.j+1,more:=p.more - 1 }:=by
   unfold Gi
   rw[if_pos (by omega)]
  obtain ⟨q,q1,q2,q3,q4,q5⟩:=bN k (t.advance p) (by rw[e]; show p.more - 1=k; omega)
  rw[e] at q2 q4
  exact ⟨q,q1,q2,q3,q4,q5⟩
theorem Jg{t:Az}:∀(a b:Nat) (p:Cv),Ky t (a+b) p=Ky t b (Ky t a p)
 | 0,b,p=>by rw[Mv]; rfl
 | a+1,b,p=>by rw[Vn]; exact Jg a b _
theorem aF{t:Az}:∀(u:Nat) (p:Cv),p.more<=9->∃k,k<=p.more+1+10 * u/\(Ky t k p).j=(lp (t.mask+1) (u+1) p.i p.perturb).1
 | 0,p,h=>by
  obtain ⟨q,q1,q2,q3,q4,q5⟩:=bN (t:=t) p.more p rfl
  exact ⟨p.more+1,by omega,by rw[q1]; exact q2⟩
 | u+1,p,h=>by
  obtain ⟨q,q1,q2,q3,q4,q5⟩:=bN (t:=t) p.more p rfl
  obtain ⟨k,k1,k2⟩:=aF u q q5
  refine ⟨p.more+1+k,by omega,?_⟩
  rw[Jg,q1,k2,q3,q2,q4]
  rfl
theorem mR{t:Az}{n:Nat}(x:Tab n t)(h:Int):∃k,k<10 * Cq t.mask/\t.slot (Ky t k (t.probeStart h)).j=.empty:=by
 have hm:=Qk x
 obtain ⟨e,he,hn⟩:=kO (m:=t.mask+1) x.rise (by rw[Af,x.size]; omega)
 obtain ⟨u,hu,eu⟩:=Xg x.good (i:=Bn h % (t.mask+1)) (p:=Bn h) (e:=e) (Hh _ (Ip _)) (cE h) he
 have tn:10 * Cq t.mask=10 * t.mask+150:=by unfold Cq; omega
 cases u with
 | zero=>exact ⟨0,by omega,(Hl x.toTabOk).mpr (by rw[show (Ky t 0 (t.probeStart h)).j=e from eu]; exact hn)⟩
 | succ u =>
  obtain ⟨k,k1,k2⟩:=aF (t:=t) u (t.probeStart h) (Qg h).more
  have:=(Qg (t:=t) h).more
  exact ⟨k,by omega,(Hl x.toTabOk).mpr (by rw[k2,show (lp (t.mask+1) (u+1) (t.probeStart h).i (t.probeStart h).perturb).1=e from eu]; exact hn)⟩
theorem oZ{t:Az}{n j i:Nat}(x:TabOk n t)(h:t.slot j=.live i):i<n:=by
 unfold Rh at h
 dsimp only at h
 split at h
 ·rename_i c
  injection h with h
  subst h
  have c':t.place[Ba t.place j]? = some j:=by simpa using c
  have:=(Array.getElem?_eq_some_iff.mp c').1
  rw[<- x.size]
  exact this
 ·split at h <;> cases h
end NdS
namespace NdS
open PySem PyProof.Rows
theorem rN{t u:Az}(h:t.mask=u.mask)(p:Cv):t.advance p=u.advance p:=by
 unfold Gi
 rw[h]
theorem Wj{t u:Az}(h:t.mask=u.mask):∀(k:Nat) (p:Cv),Ky t k p=Ky u k p
 | 0,_=>rfl
 | k+1,p=>by
  show Ky t k (t.advance p)=Ky u k (u.advance p)
  rw[rN h,Wj h k]
theorem Ws{t u:Az}(h:t.mask=u.mask)(x:Int):t.probeStart x=u.probeStart x:=by
 unfold SetTable.probeStart
 rw[h]
def Uy(t:Az)(P:Nat->Prop)(h:Int)(j:Nat):Prop:=∃k,(Ky t k (t.probeStart h)).j=j/\∀k',k'<k->P (Ky t k' (t.probeStart h)).j
theorem Uy.mono{t u:Az}{P Q:Nat->Prop}{h:Int}{j:Nat}(x:Uy t P h j)(e:t.mask=u.mask)(s:∀i,P i->Q i):Uy u Q h j:=by
 obtain ⟨k,h1,h2⟩:=x
 refine ⟨k,?_,λk' hk=>?_⟩
 ·rw[<- Wj e,<- Ws e]; exact h1
 ·rw[<- Wj e,<- Ws e]; exact s _ (h2 k' hk)
def B9(t:Az)(es:List Int):Prop:=∀x∈es.zip t.place.toList,Uy t (·∈t.place.toList) x.1 x.2
theorem Wv{t:Az}:∀(k:Nat) (p:Cv),k<=p.more->Ky t k p={ p with j:=p.j+k,more:=p.more - k }
 | 0,_,_=>rfl
 | k+1,p,h=>by
  show Ky t k (t.advance p)=_
  have e:t.advance p={ p with j:=p.j+1,more:=p.more - 1 }:=by
   unfold Gi
   rw[if_pos (by omega)]
  rw[e,Wv k _ (by show k<=p.more - 1; omega)]
  simp only[SetTable.Probe.mk.injEq,and_true,true_and]
  omega
def Nz(m i pe:Nat):Cv:={ j:=i,more:=Cc m i - i,i:=i,perturb:=pe,dummy:=none }
theorem uB{t:Az}(i pe:Nat):Ky t (Cc t.mask i - i+1) (Nz t.mask i pe)=Nz t.mask ((i * 5+1+pe / 32) % (t.mask+1)) (pe / 32):=by
 rw[Jg,Wv (Cc t.mask i - i) (Nz t.mask i pe) (Ah _)]
 show t.advance _=_
 unfold Gi
 rw[if_neg (by show ¬ (Cc t.mask i - i - (Cc t.mask i - i) > 0); omega),Vz]
 rfl
theorem fE{t:Az}{owner:Array (Option Nat)}:∀(fuel i pe j:Nat),Cy t.mask owner fuel i pe=some j->∃k,(Ky t k (Nz t.mask i pe)).j=j/\∀k',k'<k->(owner.getD (Ky t k' (Nz t.mask i pe)).j (some 0)).isNone=false
 | 0,_,_,_,h=>by unfold Cy at h; cases h
 | fuel+1,i,pe,j,h=>by
  unfold Cy at h
  split at h
  ·rename_i k hk
   injection h with h
   obtain ⟨p1,as,bs,e1,p2⟩:=List.find?_eq_some_iff_append.mp hk
   have el:∀(n:Nat) (as bs:List Nat) (k:Nat),Br n=as++k::bs->as=Br k/\k<n:=λn as bs k e=>by
    have l1:as.length<n:=by
     have:=congrArg Lk e
     rw[De,Bj,Bq] at this
     omega
    have g:(Br n)[as.length]? = some k:=by rw[e]; simp
    rw[List.getElem?_range l1] at g
    injection g with g
    refine ⟨?_,by omega⟩
    have tk:=congrArg (List.take as.length) e
    rw[List.take_left',List.take_range,Nat.min_eq_left (by omega)] at tk
    ·rw[<- tk,g]
    ·rfl
   obtain ⟨ea,kn⟩:=el _ _ _ _ e1
   refine ⟨k,?_,λk' hk'=>?_⟩
   ·rw[Wv k _ (by show k<=Cc t.mask i - i; omega)]
    exact h
   ·rw[Wv k' _ (by show k'<=Cc t.mask i - i; omega)]
    have:=p2 k' (by rw[ea]; exact El.mpr hk')
    show (owner.getD (i+k') (some 0)).isNone=false
    rw[Bool.not_eq_true'] at this
    exact this
  ·rename_i hk
   have none:=List.find?_eq_none.mp hk
   obtain ⟨k,k1,k2⟩:=fE fuel _ _ j h
   have sl:Ky t (Cc t.mask i - i+1) (Nz t.mask i pe)=Nz t.mask (SetTable.leap t.mask i pe).1 (SetTable.leap t.mask i pe).2:=uB i pe
   refine ⟨Cc t.mask i - i+1+k,by rw[Jg,sl]; exact k1,λk' hk'=>?_⟩
   by_cases c:k'<=Cc t.mask i - i
   ·rw[Wv k' _ c]
    have a:=Lm t.mask i
    have:=none k' (El.mpr (by omega))
    show (owner.getD (i+k') (some 0)).isNone=false
    exact Vs.mpr this
   ·rw[show k'=Cc t.mask i - i+1+(k' - (Cc t.mask i - i+1)) by omega,Jg,sl]
    exact k2 _ (by omega)
theorem sM{t:Az}:∀(k:Nat) (p:Cv),WayOk t p->WayOk t (Ky t k p)
 | 0,_,h=>h
 | k+1,_,h=>sM k _ h.next
theorem o7{t:Az}(k:Nat)(h:Int):(Ky t k (t.probeStart h)).j<=t.mask:=by
 have:=(sM k _ (Qg (t:=t) h)).top
 omega
def Yg(owner:Array (Option Nat))(i:Nat):Prop:=(owner.getD i (some 0)).isNone=false
def u6(t:Az)(H:Nat->Int)(owner:Array (Option Nat)):Prop:=∀j k,owner[j]? = some (some k)->Uy t (Yg owner) (H k) j
theorem gO{m:Nat}:∀hs:List Int,hs.foldl (cJ m) none=none
 | []=>rfl
 | h::hs=>by rw[Mb]; exact gO hs
theorem Zp{owner:Array (Option Nat)}{j n i:Nat}(h:Yg owner i):Yg (owner.setIfInBounds j (some n)) i:=by
 unfold Yg at *
 rw[Cu] at *
 rw[Za]
 split
 ·split <;> rfl
 ·exact h
theorem kT{t:Az}{H:Nat->Int}:∀(hs:List Int) (owner:Array (Option Nat)) (n:Nat) (owner':Array (Option Nat)) (n':Nat),hs.foldl (cJ t.mask) (some (owner,n))=some (owner',n')->(∀i h,hs[i]? = some h->H (n+i)=h)->u6 t H owner->u6 t H owner'/\owner'.size=owner.size
 | [],owner,n,owner',n',e,_,x=>by
  rw[List.foldl_nil] at e
  injection e with e
  injection e with e1 e2
  rw[<- e1]
  exact ⟨x,rfl⟩
 | h::hs,owner,n,owner',n',e,eH,x=>by
  rw[Mb] at e
  cases ef:Cy t.mask owner (Cq t.mask) (Bn h % (t.mask+1)) (Bn h) with
  | none =>
   have e1:cJ t.mask (some (owner,n)) h=none:=by
    show (do
     let j <- Cy t.mask owner (Cq t.mask) (Bn h % (t.mask+1)) (Bn h)
     pure (owner.setIfInBounds j (some n),n+1))=_
    rw[ef]
    rfl
   rw[e1,gO] at e
   cases e
  | some j =>
   have e1:cJ t.mask (some (owner,n)) h=some (owner.setIfInBounds j (some n),n+1):=by
    show (do
     let j <- Cy t.mask owner (Cq t.mask) (Bn h % (t.mask+1)) (Bn h)
     pure (owner.setIfInBounds j (some n),n+1))=_
    rw[ef]
    rfl
   rw[e1] at e
   refine (λz=>⟨z.1,z.2.trans (dZ ..)⟩) (kT hs _ _ owner' n' e (λi h' hi=>?_) λj' k hk=>?_)
   ·rw[show n+1+i=n+(i+1) by omega]
    exact eH (i+1) h' hi
   ·rw[Za] at hk
    split at hk
    ·rename_i c
     split at hk
     ·injection hk with hk
      injection hk with hk
      obtain ⟨k0,k1,k2⟩:=fE (t:=t) _ _ _ _ ef
      have hH:H k=h:=by rw[<- hk]; exact eH 0 h rfl
      rw[hH,<- c]
      exact Uy.mono (P:=Yg owner) ⟨k0,k1,k2⟩ rfl λi z=>Zp z
     ·cases hk
    ·exact (x j' k hk).mono rfl λi z=>Zp z
theorem nK{mask finger moves:Nat}{led plain:Bool}{hs:Array Int}{t:Az}{order:Array Nat}(h:Fj mask finger moves led plain hs=some (t,order)):B9 t (order.toList.map λk=>hs.getD k 0):=by
 have hm:=(Si h).2.1
 unfold Fj at h
 cases hl:Hg mask hs with
 | none=>rw[hl] at h; cases h
 | some owner =>
  rw[hl] at h
  have x:u6 t (λk=>hs.getD k 0) owner/\owner.size=mask+1:=by
   unfold Hg at hl
   rw[<- Array.foldl_toList] at hl
   replace hl:(hs.toList.foldl (cJ mask) (some (Lq (mask+1) none,0))).map (·.1)=some owner:=hl
   cases hf:hs.toList.foldl (cJ mask) (some (Lq (mask+1) none,0)) with
   | none=>rw[hf] at hl; cases hl
   | some r =>
    obtain ⟨o,n⟩:=r
    rw[hf] at hl
    injection hl with hl
    rw[<- hl]
    have hf':=hf
    rw[<- hm] at hf
    have z:=kT (t:=t) (H:=λk=>hs.getD k 0) _ _ _ _ _ hf (λi h hi=>by
     rw[Mv,Cu,<- Ep,hi]
     rfl) λj k hk=>by
     rw[Array.getElem?_replicate] at hk
     split at hk <;> simp at hk
    exact ⟨z.1,by rw[z.2,Array.size_replicate,hm]⟩
  obtain ⟨x,sz⟩:=x
  cases h
  intro y hy
  have hT:∀i,i<=mask->Yg owner i->i∈((Br (mask+1)).filterMap λj=>(owner.getD j none).map λx=>(j,x)).map (·.1):=λi hi z=>by
   unfold Yg at z
   have lt:i<owner.size:=by omega
   rw[Cu,Co lt] at z
   cases q:owner[i] with
   | none=>rw[q] at z; simp at z
   | some v =>
    refine Bh.mpr ⟨(i,v),Ha.mpr ⟨i,El.mpr (by omega),?_⟩,rfl⟩
    rw[Cu,Co lt,q]
    rfl
  dsimp only at hy ⊢
  rw[Ds,List.zip_map'] at hy
  obtain ⟨⟨j,k⟩,hjk,rfl⟩:=Bh.mp hy
  obtain ⟨j0,hj0,ej⟩:=Ha.mp hjk
  have e2:owner[j]? = some (some k):=by
   rw[Cu] at ej
   cases q:owner[j0]? with
   | none=>rw[q] at ej; cases ej
   | some v =>
    rw[q] at ej
    cases v with
    | none=>cases ej
    | some v=>cases ej; exact q
  have ow:=x j k e2
  obtain ⟨k0,k1,k2⟩:=ow
  refine ⟨k0,k1,λk' hk'=>?_⟩
  exact hT _ (o7 k' _) (k2 k' hk')
theorem B9.put{t:Az}{hs:List Int}{h:Int}{j p:Nat}(x:B9 t hs)(len:hs.length=t.place.size)(o:Uy t (·∈t.place.toList) h j):B9 { t with place:=Bl t.place p j } (hs.take p++h::hs.drop p):=by
 have pm:=Gs t.place p j
 rw[Hn] at pm
 have up:∀i,i∈t.place.toList->i∈(Bl t.place p j).toList:=λi hi=>pm.mem_iff.mpr (An _ hi)
 intro y hy
 have hy':y∈(hs.take p++h::hs.drop p).zip (t.place.toList.take p++j::t.place.toList.drop p):=by
  have e:=My t.place p j
  have e':(Bl t.place p j).toList=t.place.toList.take p++j::t.place.toList.drop p:=by first | exact e | (rw[e]; simp)
  rw[<- e']
  exact hy
 rw[List.zip_append (by rw[Ig,Ig,len,Af]),List.zip_cons_cons] at hy'
 rcases Bg.mp hy' with z | z
 ·have : y∈hs.zip t.place.toList:=by
   rw[List.zip_eq_zipWith,<- List.take_zipWith] at z
   exact List.mem_of_mem_take z
  exact (x y this).mono rfl up
 ·rcases Ai.mp z with rfl | z
  ·exact o.mono rfl up
  ·have : y∈hs.zip t.place.toList:=by
    rw[List.zip_eq_zipWith,<- List.drop_zipWith] at z
    exact List.mem_of_mem_drop z
   exact (x y this).mono rfl up
theorem gI{α:Type}{es:Array (Int×α)}:∀L:List Nat,(∀k∈L,k<es.size)->(L.filterMap (es[·]?)).map (·.1)=L.map λk=>(es.map (·.1)).getD k 0
 | [],_=>rfl
 | k::L,h=>by
  have hk:=h k Aa
  rw[Gp,Co hk]
  dsimp only
  rw[Au,Au,gI L λi hi=>h i (Ab _ hi),Cu,Array.getElem?_map,Co hk]
  rfl
theorem fV{t:Az}{n:Nat}(x:TabOk n t){f:Nat->Int}{h:Int}:∀(fuel k:Nat) (p:Cv),WayOk t p->k<fuel->t.slot (Ky t k p).j=.empty->(∃j m,Fo t f h fuel p=some (.empty j none)/\t.slot j=.empty/\j<=t.mask/\(Ky t m p).j=j/\∀m',m'<m->t.slot (Ky t m' p).j≠.empty/\∀i,t.slot (Ky t m' p).j=.live i->f i≠h)\/(∃j i m k',Fo t f h fuel p=some (.candidate j i (Ky t (m+1) p))/\t.slot j=.live i/\f i=h/\k'+m+1=k/\WayOk t (Ky t (m+1) p)/\t.slot (Ky t k' (Ky t (m+1) p)).j=.empty/\(Ky t m p).j=j/\∀m',m'<m->t.slot (Ky t m' p).j≠.empty/\∀i,t.slot (Ky t m' p).j=.live i->f i≠h)
 | 0,k,p,_,h,_=>absurd h (Dy _)
 | fuel+1,k,p,w,hk,he=>by
  unfold Fo
  split
  ·rename_i hs
   exact .inl ⟨p.j,0,by rw[w.dum],hs,by have:=w.top; omega,rfl,λm' z=>absurd z (Dy _)⟩
  ·rename_i hs
   exact absurd hs (Pi x)
  ·rename_i i hs
   cases k with
   | zero=>exact absurd (show t.slot p.j=.empty from he) (by rw[hs]; intro z; cases z)
   | succ k =>
    by_cases c:(f i == h)=true
    ·rw[if_pos c]
     exact .inr ⟨p.j,i,0,k,rfl,hs,by simpa using c,by omega,w.next,he,rfl,λm' z=>absurd z (Dy _)⟩
    ·rw[if_neg c]
     have hd:t.slot p.j≠.empty/\∀i,t.slot p.j=.live i->f i≠h:=⟨by rw[hs]; exact λz=>(by cases z),λi' z=>by
      rw[hs] at z
      injection z with z
      rw[<- z]
      simpa using c⟩
     have ahead:∀{m:Nat},(∀m',m'<m->t.slot (Ky t m' (t.advance p)).j≠.empty/\∀i,t.slot (Ky t m' (t.advance p)).j=.live i->f i≠h)->∀m',m'<m+1->t.slot (Ky t m' p).j≠.empty/\∀i,t.slot (Ky t m' p).j=.live i->f i≠h:=λ{m} q m' hm'=>by
      cases m' with
      | zero=>exact hd
      | succ m'=>exact q m' (by omega)
     rcases fV x fuel k _ w.next (by omega) he with ⟨j,m,a,b,c,d,e⟩ | ⟨j,i',m,k',a,b,c,d,e,f,g,q⟩
     ·exact .inl ⟨j,m+1,a,b,c,d,ahead e⟩
     ·exact .inr ⟨j,i',m+1,k',a,b,c,by omega,e,f,g,ahead q⟩
theorem jQ{t:Az}{n j i:Nat}(x:TabOk n t)(h:t.place.toList[i]? = some j):t.slot j=.live i:=by
 have b:=Pb x.rise j
 have e:Ba t.place j=i:=by
  have hi:=(Aq.mp h).1
  have hi':i<t.place.size:=by rw[<- Af]; exact hi
  have ei:t.place[i]=j:=by
   have:=(Aq.mp h).2
   simpa using this
  rcases Kh (Ba t.place j) i with z | z | z
  ·have:=b.hi (Ba t.place j) (by omega) (Ah _)
   have:=Ga.mp x.rise (Ba t.place j) i (by rw[Af]; omega) hi z
   simp at this
   omega
  ·exact z
  ·have:=b.lo i hi' z
   omega
 unfold Rh
 dsimp only
 rw[e,<- Ep,h,if_pos (by simp)]
def qG(prog:Bu)(w:World)(U:List (List Int))(h:Heap)(e:Int×Value):Prop:=∃(b:Addr) (ks:List Int),e=(Bi (Bs prog w) ks,.ref b)/\Eo (Bs prog w) h ks b/\ks∈U
structure SetT(prog:Bu)(w:World)(U:List (List Int))(h:Heap)(a:Addr)(es:Array (Int×Value))(ep:Nat)(t:Az):Prop where
 obj:h.get? a=some (Es es ep t)
 ent:∀e∈es.toList,qG prog w U h e
 tab:Tab es.size t
 odd:t.mask % 2=1
 top:t.mask<8192
 few:es.size<=1100
 led:bt w=false->t.led=true
 nd:U.Nodup
 sz:es.size=U.length
 all:∀u∈U,∃e∈es.toList,∃b,e=(Bi (Bs prog w) u,Cr b)/\Eo (Bs prog w) h u b
 ways:B9 t (es.toList.map (·.1))
def Kept(h h':Heap):Prop:=∀b o,o.cls=.type "set" \/ o.cls=.type "tuple" -> h.get? b=some o->h'.get? b=some o
def Sj(h h':Heap):Prop:=∀b o,o.cls=.type "tuple" -> h.get? b=some o->h'.get? b=some o
theorem Kept.t{h h':Heap}(k:Kept h h'):Sj h h':=λb o c e=>k b o (.inr c) e
theorem qG.keep{prog:Bu}{w:World}{U V:List (List Int)}{h h':Heap}{e:Int×Value}(x:qG prog w U h e)(k:Sj h h')(s:∀y∈U,y∈V):qG prog w V h' e:=by
 obtain ⟨b,ks,e,⟨o,items,n,ho,hc,hd,hi⟩,hm⟩:=x
 exact ⟨b,ks,e,⟨o,items,n,k b o hc ho,hc,hd,hi⟩,s _ hm⟩
theorem Pz{prog:Bu}{w:World}{h h':Heap}{ks:List Int}{b:Addr}(x:Eo (Bs prog w) h ks b)(k:Sj h h'):Eo (Bs prog w) h' ks b:=by
 obtain ⟨o,items,n,ho,hc,hd,hi⟩:=x
 exact ⟨o,items,n,k b o hc ho,hc,hd,hi⟩
theorem SetT.keep{prog:Bu}{w:World}{U:List (List Int)}{h h':Heap}{a:Addr}{es:Array (Int×Value)}{ep:Nat}{t:Az}(S:SetT prog w U h a es ep t)(k:Kept h h'):SetT prog w U h' a es ep t :=
 ⟨k _ _ (.inl rfl) S.obj,λe he=>(S.ent e he).keep k.t λ_ z=>z,S.tab,S.odd,S.top,S.few,S.led,S.nd,S.sz,λu hu=>by obtain ⟨e,he,b,eb,x⟩:=S.all u hu; exact ⟨e,he,b,eb,Pz x k.t⟩,S.ways⟩
theorem Xa{h h':Heap}{a:Addr}{o:Obj}(ho:h.get? a=some o)(hc:o.cls≠.type "tuple")(sb:Gd a h h'):Sj h h':=λb o' c e=>by
 by_cases z:b=a
 ·subst z
  rw[ho] at e
  cases e
  exact absurd c hc
 ·exact (sb.2 b z).trans e
theorem qO{n:Nat}(h:n<=1200):n<=Aw:=by rw[Hm]; omega
section
variable{prog:Bu}{w:World}{A:Df}{E:Value->Aj->Prop}{s:Aj}{U:List (List Int)}
theorem Qa{a:Addr}{es:Array (Int×Value)}{ep:Nat}{t:Az}{Q:(Array (Int×Value)×Nat×Az)->Aj->Prop}(S:SetT prog w U s.heap a es ep t)(h:Q (es,ep,t) s):wpAny (model prog w) A (setState a) Q E s :=
 aT S.obj rfl S.tab.fits h
theorem rF{ks:List Int}{a:Addr}{Q:Bool->Aj->Prop}(hk:Eo (Bs prog w) s.heap ks a)(h:Q true s):wpAny (model prog w) A (Pu 8 (.ref a)) Q E s:=by
 have hT:=hk.typeIs
 obtain ⟨o,items,n,ho,_,hd,hi⟩:=hk
 unfold Pu
 refine Ac (wpAny_specialOf hT F.slot_tuple_hash.lookup ?_)
 dsimp only
 refine Ac (wpAny_seqItems ho hd ?_)
 refine Ac ?_
 show wpAny _ _ (forIn items _ _) _ _ s
 rw[<- Array.forIn_toList]
 refine dU _ (λIc r s'=>r.1=none/\s'=s/\∃l,ItemsAre (Bs prog w) l Ic) _ ?_ ?_ _ _ ⟨rfl,rfl,_,hi⟩
 ·(intro v Ic r s' q_; obtain ⟨hr,rfl,l,hall⟩ := q_)
  cases hall with
  | @cons k v' ks' vs' h1 h2 =>
   obtain ⟨tk,rfl⟩ : ∃tk,v=.int k tk:=by
    cases v <;> simp [Bs,Rg] at h1
    rename_i z tk
    exact ⟨tk,by rw[h1]⟩
   refine Ac (m:=Pu 7 (.int k tk)) (Kn (a:=true) (show Pu 7 (.int k tk)=pure true by unfold Pu; rfl) ?_)
   simp only[Lf,Ct,if_false]
   exact Al ⟨rfl,rfl,_,h2⟩
 ·(rintro ⟨r1,r2⟩ s' q_; obtain ⟨hr,rfl,_⟩ := q_)
  simp only at hr
  subst hr
  exact Al h
theorem aI{ks:List Int}{a:Addr}{Q:Bool->Aj->Prop}(hk:Eo (Bs prog w) s.heap ks a)(h:Q false s):wpAny (model prog w) A (Lb 8 (.ref a)) Q E s:=by
 have hT:=hk.typeIs
 obtain ⟨o,items,n,ho,_,hd,hi⟩:=hk
 unfold Lb
 refine Ac (Nv hT ?_)
 dsimp only
 rw[if_pos (by decide)]
 refine Ac (Al ?_)
 simp only[Lf,Ct,if_false]
 refine Ac (wpAny_seqItems ho hd ?_)
 dsimp only
 refine Ac ?_
 show wpAny _ _ (forIn items _ _) _ _ s
 rw[<- Array.forIn_toList]
 refine dU _ (λIc r s'=>r.1=none/\s'=s/\∃l,ItemsAre (Bs prog w) l Ic) _ ?_ ?_ _ _ ⟨rfl,rfl,_,hi⟩
 ·(intro v Ic r s' q_; obtain ⟨hr,rfl,l,hall⟩ := q_)
  cases hall with
  | @cons k v' ks' vs' h1 h2 =>
   obtain ⟨tk,rfl⟩ : ∃tk,v=.int k tk:=by
    cases v <;> simp [Bs,Rg] at h1
    rename_i z tk
    exact ⟨tk,by rw[h1]⟩
   refine Ac (m:=Lb 7 (.int k tk)) (Kn (a:=false) (show Lb 7 (.int k tk)=pure false by unfold Lb; rfl) ?_)
   simp only[Ct,if_false]
   exact Al ⟨rfl,rfl,_,h2⟩
 ·(rintro ⟨r1,r2⟩ s' q_; obtain ⟨hr,rfl,_⟩ := q_)
  simp only at hr
  subst hr
  exact Al h
theorem wM{x:Addr}{kx:List Int}{stored:List Value}{Q:Bool->Aj->Prop}(hx:Eo (Bs prog w) s.heap kx x)(hs:∀y∈stored,∃b ky,y=Cr b/\Eo (Bs prog w) s.heap ky b)(h:Q false s):wpAny (model prog w) A (searchCouldBeSeen (.ref x) stored) Q E s:=by
 unfold searchCouldBeSeen
 refine Ac ?_
 refine dU _ (λIc r s'=>r.1=none/\s'=s/\∀y∈Ic,∃b ky,y=Cr b/\Eo (Bs prog w) s.heap ky b) _ ?_ ?_ _ _ ⟨rfl,rfl,hs⟩
 ·(intro v Ic r s' q_; obtain ⟨hr,rfl,hall⟩ := q_)
  obtain ⟨b,ky,rfl,hy⟩:=hall _ (Aa ..)
  have hall':=λy hy=>hall y (Ab _ hy)
  dsimp only
  split
  ·exact Al ⟨rfl,rfl,hall'⟩
  ·refine Ac (wpAny_eqIsQuiet_tuple hx ?_)
   simp only[Lf,Ct,if_false]
   refine Ac (wpAny_eqIsQuiet_tuple hy ?_)
   simp only[Lf,Ct,if_false]
   refine Ac (aI hx ?_)
   simp only[Ct,if_false]
   refine Ac (aI hy ?_)
   simp only[Ct,if_false]
   exact Al ⟨rfl,rfl,hall'⟩
 ·(rintro ⟨r1,r2⟩ s' q_; obtain ⟨hr,rfl,_⟩ := q_)
  simp only at hr
  subst hr
  exact Al h
def yM(prog:Bu)(w:World)(h:Heap)(es:Array (Int×Value))(t:Az)(kx:List Int)(p:Cv):Prop :=
 ∃kt i b,t.slot (Ky t kt p).j=.live i/\es[i]? = some (Bi (Bs prog w) kx,Cr b)/\Eo (Bs prog w) h kx b/\∀k',k'<kt->t.slot (Ky t k' p).j≠.empty
theorem gW{a:Addr}{kx:List Int}{es:Array (Int×Value)}{ep:Nat}{t:Az}(S:SetT prog w U s.heap a es ep t)(h:kx∈U):yM prog w s.heap es t kx (t.probeStart (Bi (Bs prog w) kx)):=by
 obtain ⟨e,he,b,eb,x⟩:=S.all kx h
 obtain ⟨i,hi,ei⟩:=List.getElem_of_mem he
 have hi':i<es.size:=by rw[<- Af]; exact hi
 have hp:i<t.place.toList.length:=by rw[Af,S.tab.size]; exact hi'
 have hz:((es.toList.map (·.1)).zip t.place.toList)[i]? = some (Bi (Bs prog w) kx,t.place.toList[i]):=by
  rw[List.getElem?_zip_eq_some]
  refine ⟨?_,Cd hp⟩
  rw[Cf,Cd hi,ei,eb]
  rfl
 obtain ⟨k,k1,k2⟩:=S.ways _ (Be hz)
 refine ⟨k,i,b,?_,?_,x,λk' hk'=>?_⟩
 ·rw[k1]
  exact jQ S.tab.toTabOk (Cd hp)
 ·rw[Co hi']
  have : es[i]=e:=by simpa using ei
  rw[this,eb]
 ·exact λz=>(Hl S.tab.toTabOk).mp z (k2 k' hk')
theorem Vc{a x:Addr}{kx:List Int}{es:Array (Int×Value)}{ep:Nat}{t:Az}{Q:SetFound->Aj->Prop}(S:SetT prog w U s.heap a es ep t)(hu:A.units<cLine)(hx:Eo (Bs prog w) s.heap kx x)(h1:kx∈U->Q (.there none) s)(h2:∀j,t.slot j=.empty->j<=t.mask->Uy t (·∈t.place.toList) (Bi (Bs prog w) kx) j->kx∉U->Q (.free j false) s):∀(fuel k:Nat) (stand:Option Cv),WayOk t (stand.getD (t.probeStart (Bi (Bs prog w) kx)))->k<fuel->k<10 * Cq t.mask->t.slot (Ky t k (stand.getD (t.probeStart (Bi (Bs prog w) kx)))).j=.empty->(∃k0,Ky t k0 (t.probeStart (Bi (Bs prog w) kx))=stand.getD (t.probeStart (Bi (Bs prog w) kx))/\∀k',k'<k0->t.slot (Ky t k' (t.probeStart (Bi (Bs prog w) kx))).j≠.empty)->(kx∈U->yM prog w s.heap es t kx (stand.getD (t.probeStart (Bi (Bs prog w) kx))))->wpAny (model prog w) A (Qw a (.ref x) (Bi (Bs prog w) kx) true fuel stand) Q E s
 | 0,k,_,_,h,_,_,_,_=>absurd h (Dy _)
 | fuel+1,k,stand,wo,hk,hk2,he,pre,tgt=>by
  have gw:t.gaveWay=false:=by unfold SetTable.gaveWay; rw[S.odd]; rfl
  unfold Qw
  refine Ac (Qa S ?_)
  dsimp only
  rw[gw]
  simp only[Ct,if_false]
  obtain ⟨k0,ek0,pre⟩:=pre
  have fH:∀{i:Nat} {b:Addr},es[i]? = some (Bi (Bs prog w) kx,Cr b)->(es[i]?.map (·.1)).getD 0=Bi (Bs prog w) kx:=λ{i b} e=>by rw[e]; rfl
  rcases fV S.tab.toTabOk (f:=λi=>(es[i]?.map (·.1)).getD 0) (h:=Bi (Bs prog w) kx) (10 * Cq t.mask) k _ wo hk2 he with ⟨j,m,e,ej,jm,em,am⟩ | ⟨j,i,m,k',e,ej,ei,lt,wo',he',em,am⟩
  ·have e':t.probe (λi=>(es[i]?.map (·.1)).getD 0) (Bi (Bs prog w) kx) (stand.getD (t.probeStart (Bi (Bs prog w) kx)))=some (.empty j none):=e
   rw (transparency:=.all) [e']
   refine Al (h2 j ej jm ⟨k0+m,by rw[Jg,ek0]; exact em,λk' hk'=>?_⟩ λhm=>?_)
   ·refine Ft λz=>?_
    have z':=(Hl S.tab.toTabOk).mpr z
    by_cases c:k'<k0
    ·exact pre k' c z'
    ·rw[show k'=k0+(k' - k0) by omega,Jg,ek0] at z'
     exact (am _ (by omega)).1 z'
   ·obtain ⟨kt,i,b,a1,a2,a3,a4⟩:=tgt hm
    rcases Kh kt m with z | z | z
    ·exact (am kt z).2 i a1 (fH a2)
    ·subst z
     rw[em,ej] at a1
     cases a1
    ·exact a4 m z (by rw[em]; exact ej)
  ·have e':t.probe (λi=>(es[i]?.map (·.1)).getD 0) (Bi (Bs prog w) kx) (stand.getD (t.probeStart (Bi (Bs prog w) kx)))=some (.candidate j i (Ky t (m+1) (stand.getD (t.probeStart (Bi (Bs prog w) kx))))):=e
   rw (transparency:=.all) [e']
   dsimp only
   have hi:=oZ S.tab.toTabOk ej
   have hei:es[i]? = some es[i]:=Co hi
   obtain ⟨b,ky,eb,hy,hm⟩:=S.ent es[i] (by simp)
   have Ic:wpAny (model prog w) A (do
     let some (_,y):=es[i]? | unsupported "internal:set-entry"
     let equal <- Lc [y] (eqBool y (.ref x))
     let (es',_,t') <- setState a
     if true && equal then return .there none
     let some same:=t'.sameMemory t.moves t.mask | unsupported "set.changed-during-lookup:is-the-new-block-at-the-old-address"
     let still <- match (if same then t'.slot j else .empty) with
      | .live i'=>match es'[i']? with
       | some (_,y')=>do pure (if <- isSame y' y then some i' else none)
       | none=>pure none
      | _=>pure none
     match still with
     | none=>rule "set.search.anew"; Qw a (.ref x) (Bi (Bs prog w) kx) true fuel none
     | some i'=>if equal then return .there (some i') else Qw a (.ref x) (Bi (Bs prog w) kx) true fuel (some (Ky t (m+1) (stand.getD (t.probeStart (Bi (Bs prog w) kx)))))) Q E s:=by
    rw[hei,eb]
    dsimp only
    refine Ac (Ef (wpAny_eqBool_tuple hu hy hx ?_))
    refine Ac (Qa S ?_)
    dsimp only
    by_cases c:ky=kx
    ·rw[decide_eq_true c,if_pos (by decide)]
     exact Al (h1 (by rw[<- c]; exact hm))
    ·rw[decide_eq_false c,if_neg (by decide)]
     have sm:t.sameMemory t.moves t.mask=some true:=by unfold SetTable.sameMemory; rw[if_pos (by simp)]
     rw[sm]
     dsimp only
     rw[if_pos rfl,ej]
     dsimp only
     rw[hei,eb]
     dsimp only
     refine Ac (wpAny_isSame_ref_self (Ac (Al ?_)))
     rw[if_pos rfl]
     dsimp only
     rw[if_neg (by decide)]
     refine Vc S hu hx h1 h2 fuel k' (some (Ky t (m+1) (stand.getD (t.probeStart (Bi (Bs prog w) kx))))) wo' (by omega) (by omega) he' ⟨k0+(m+1),by rw[Jg,ek0]; rfl,λk'' hk'' z=>?_⟩ λhmm=>?_
     ·by_cases c:k''<k0
      ·exact pre k'' c z
      ·rw[show k''=k0+(k'' - k0) by omega,Jg,ek0] at z
       by_cases c2:k'' - k0<m
       ·exact (am _ c2).1 z
       ·rw[show k'' - k0=m by omega,em,ej] at z
        cases z
     ·obtain ⟨kt,i0,b0,a1,a2,a3,a4⟩:=tgt hmm
      rcases Kh kt m with z | z | z
      ·exact absurd (fH a2) ((am kt z).2 i0 a1)
      ·subst z
       rw[em,ej] at a1
       injection a1 with a1
       subst a1
       rw[hei,eb] at a2
       injection a2 with a2
       injection a2 with a21 a22
       injection a22 with a22
       subst a22
       exact absurd (hy.inj a3) c
      ·refine ⟨kt - (m+1),i0,b0,?_,a2,a3,λk'' hk''=>?_⟩
       ·show t.slot (Ky t (kt - (m+1)) (Ky t (m+1) _)).j=_
        rw[<- Jg,show m+1+(kt - (m+1))=kt by omega]
        exact a1
       ·show t.slot (Ky t k'' (Ky t (m+1) _)).j≠_
        rw[<- Jg]
        exact a4 _ (by omega)
   by_cases l:t.led=true
   ·rw[l]
    simp only[Lf,Ct,if_false]
    exact Ic
   ·rw[Yv] at l
    rw[l]
    simp only[Bool.not_false,if_true]
    refine Ac (wM hx (λy hy=>?_) ?_)
    ·obtain ⟨e0,he0,rfl⟩:=Bh.mp hy
     obtain ⟨b',k'',rfl,h3,_⟩:=S.ent e0 (by
      have:=Array.mem_def.mp (Array.mem_filter.mp (Array.mem_def.mpr he0)).1
      exact this)
     exact ⟨b',k'',rfl,h3⟩
    ·simp only[Ct,if_false]
     exact Ic
theorem oC{a x:Addr}{kx:List Int}{es:Array (Int×Value)}{ep:Nat}{t:Az}{Q:SetFound->Aj->Prop}(S:SetT prog w U s.heap a es ep t)(hu:A.units<cLine)(hx:Eo (Bs prog w) s.heap kx x)(h1:kx∈U->Q (.there none) s)(h2:∀j,t.slot j=.empty->j<=t.mask->Uy t (·∈t.place.toList) (Bi (Bs prog w) kx) j->kx∉U->Q (.free j false) s)(fuel k:Nat)(hk:k<fuel)(hk2:k<10 * Cq t.mask)(he:t.slot (Ky t k (t.probeStart (Bi (Bs prog w) kx))).j=.empty):wpAny (model prog w) A (Qw a (.ref x) (Bi (Bs prog w) kx) true fuel none) Q E s :=
 Vc S hu hx h1 h2 fuel k none (Qg _) hk hk2 he ⟨0,rfl,λk' z=>absurd z (Dy _)⟩ λh=>gW S h
end
section
variable{prog:Bu}{w:World}{A:Df}{E:Value->Aj->Prop}{s:Aj}{U:List (List Int)}
theorem T7{t:Az}{es:Array (Int×Value)}(x:Tab es.size t)(e:Int×Value){j:Nat}(h2:j∉t.place.toList)(h3:j<=t.mask)(wy:B9 t (es.toList.map (·.1)))(ow:Uy t (·∈t.place.toList) e.1 j):∃t1 p,t.put j=(t1,p)/\(Bl es p e).toList.Perm (es.toList++[e])/\(Bl es p e).size=es.size+1/\TabOk (es.size+1) t1/\t1.mask=t.mask/\t1.plain=true/\t1.led=t.led/\B9 t1 ((Bl es p e).toList.map (·.1)):=by
 have hm:=Qk x
 have perm:=Gs es (Ba t.place j) e
 rw[Hn] at perm
 have size:(Bl es (Ba t.place j) e).size=es.size+1:=by
  rw[<- Af,perm.length_eq,Bj,Af]
  rfl
 have p2:=Gs t.place (Ba t.place j) j
 rw[Hn] at p2
 have size2:(Bl t.place (Ba t.place j) j).size=es.size+1:=by
  rw[<- Af,p2.length_eq,Bj,Af,x.size]
  rfl
 have nd:Th t.dummies j=false:=by rw[x.dum]; rfl
 have ok:TabOk (es.size+1) { t with place:=Bl t.place (Ba t.place j) j } :=
  ⟨x.good,x.dum,x.plain,Vi x.rise h2,λe he=>by
   rcases Bg.mp (p2.mem_iff.mp he) with z | z
   ·exact x.top e z
   ·rw[Am.mp z]; exact h3,size2⟩
 refine ⟨{ t with place:=Bl t.place (Ba t.place j) j },Ba t.place j,?_,perm,size,ok,rfl,x.plain,rfl,?_⟩
 ·unfold SetTable.put
  simp only[nd,Ct,if_false]
 ·have e1:(Bl es (Ba t.place j) e).toList=es.toList.take (Ba t.place j)++e::es.toList.drop (Ba t.place j):=by
   have z:=My es (Ba t.place j) e
   first | exact z | (rw[z]; simp)
  rw[e1,Cm,Au,List.map_take,List.map_drop]
  exact wy.put (by rw[Ae,Af,x.size]) ow
theorem jJ{a:Addr}{es:Array (Int×Value)}{ep:Nat}{t:Az}{wanted:Nat}{Q:Unit->Aj->Prop}(ho:s.heap.get? a=some (Es es ep t))(ent:∀e∈es.toList,qG prog w U s.heap e)(ok:TabOk es.size t)(le:es.size<=t.mask)(few:es.size<=1100)(led:bt w=false->t.led=true)(und:U.Nodup)(usz:es.size=U.length)(uall:∀u∈U,∃e∈es.toList,∃b,e=(Bi (Bs prog w) u,Cr b)/\Eo (Bs prog w) s.heap u b)(hw:wanted<8192)(h2:es.size * 2<=wanted)(h:∀es' ep' t' h',Gd a s.heap h'->SetT prog w U h' a es' ep' t'->es'.size=es.size->es'.toList.Perm es.toList->Q () { s with heap:=h' }):wpAny (model prog w) A (setRelay a wanted) Q E s:=by
 obtain ⟨t',order,q1,q2,q3,q4,q5,q6⟩:=nU (es:=es) ok.plain hw h2
 obtain ⟨p1,p2⟩:=rS es q2
 have mk:t'.mask<8192:=by
  unfold SetTable.relaid at q1
  rw[(Si q1).2.1]
  omega
 unfold setRelay
 refine Ac (aT ho rfl (ok.fits le) ?_)
 dsimp only
 rw[if_neg (by rw[Hm]; omega),q1]
 refine Ac ?_
 show wpAny (model prog w) A (do
  if (order.filterMap (es[·]?)).size != es.size then unsupported "internal:set-table-lost-an-element"
  pure (order.filterMap (es[·]?),t')) _ _ _
 rw[if_neg (by rw[p2]; simp)]
 refine Al ?_
 dsimp only
 refine Kz ho rfl ?_ (qO (by rw[p2]; omega))
 have sb:=Cw s.heap a (Vl (order.filterMap (es[·]?)) t')
 have kt:Sj s.heap _:=Xa ho (by show Eb "set" ≠ Eb "tuple"; decide) sb
 exact h _ _ _ _ sb ⟨Su ho _ _,λe he=>(ent e (p1.mem_iff.mp he)).keep kt λ_ z=>z,by rw[p2]; exact q3,q4,mk,by rw[p2]; exact few,λz=>by rw[q6]; exact led z,und,by rw[p2]; exact usz,λu hu=>by obtain ⟨e,he,b,eb,x⟩:=uall u hu; exact ⟨e,p1.mem_iff.mpr he,b,eb,Pz x kt⟩,by rw[iJ,gI _ λk hk=>El.mp (q2.mem_iff.mp hk)]; exact nK q1⟩ p2 p1
theorem vQ{a x:Addr}{kx:List Int}{es:Array (Int×Value)}{ep:Nat}{t:Az}{Q:Bool->Aj->Prop}(S:SetT prog w U s.heap a es ep t)(hn:es.size<1100)(hu:A.units<cLine)(hx:Eo (Bs prog w) s.heap kx x)(h0:kx∈U->Q false s)(h:∀es' ep' t' h',kx∉U->Gd a s.heap h'->SetT prog w (kx::U) h' a es' ep' t'->(es'.toList.map (·.2)).Perm (es.toList.map (·.2)++[Cr x])->Q true { s with heap:=h' }):wpAny (model prog w) A (aV a (.ref x) (Bi (Bs prog w) kx)) Q E s:=by
 unfold aV setAddHashedIn
 refine Ef (Ac (Qa S ?_))
 dsimp only
 rw[if_neg (show ¬ (byScan (.ref x) es=true) from λz=>by simp [byScan,Value.scannable] at z)]
 obtain ⟨k,hk,he⟩:=mR S.tab (Bi (Bs prog w) kx)
 have hk':k<100000:=by
  have:=S.top
  unfold Cq at hk
  omega
 unfold setSearch
 refine Ac (oC S hu hx (λhm=>?_) (λj ej jm ow nk=>?_) 100000 k hk' hk he)
 ·dsimp only
  refine Al ?_
  exact h0 hm
 ·dsimp only
  refine Ac (Qa S ?_)
  dsimp only
  obtain ⟨t1,p,e1,p1,z1,ok1,m1,pl1,ld1,wy1⟩:=T7 S.tab (Bi (Bs prog w) kx,Cr x) ((Hl S.tab.toTabOk).mp ej) jm S.ways ow
  rw[e1]
  dsimp only
  rw[pl1,if_pos rfl]
  refine Ac (rF hx ?_)
  rw[if_pos rfl]
  have z1':(Bl es p (Bi (Bs prog w) kx,Cr x)).size<=1200:=by omega
  refine Ac (Kz S.obj rfl ?_ (qO z1'))
  have sb:=Cw s.heap a (Vl (Bl es p (Bi (Bs prog w) kx,Cr x)) t1)
  have kt:Sj s.heap _:=Xa S.obj (by show Eb "set" ≠ Eb "tuple"; decide) sb
  have ent1:∀e∈(Bl es p (Bi (Bs prog w) kx,Cr x)).toList,qG prog w (kx::U) s.heap e:=λe he=>by
   rcases Bg.mp (p1.mem_iff.mp he) with z | z
   ·exact (S.ent e z).keep (λ_ _ _ z=>z) λ_ z=>Ab _ z
   ·rw[Am.mp z]; exact ⟨x,kx,rfl,hx,Aa ..⟩
  have o1:=Su S.obj (Bl es p (Bi (Bs prog w) kx,Cr x)) t1
  have ent2:=λe he=>(ent1 e he).keep kt λ_ z=>z
  have hm:=Qk S.tab
  have und:(kx::U).Nodup:=Bt.mpr ⟨nk,S.nd⟩
  have usz:(Bl es p (Bi (Bs prog w) kx,Cr x)).size=(kx::U).length:=by rw[z1,S.sz,Bq]
  have uall:∀u∈kx::U,∃e∈(Bl es p (Bi (Bs prog w) kx,Cr x)).toList,∃b,e=(Bi (Bs prog w) u,Cr b)/\Eo (Bs prog w) _ u b:=λu hu=>by
   rcases Ai.mp hu with rfl | hu
   ·exact ⟨_,p1.mem_iff.mpr (Ap _ (Am.mpr rfl)),x,rfl,Pz hx kt⟩
   ·obtain ⟨e,he,b,eb,q⟩:=S.all u hu
    exact ⟨e,p1.mem_iff.mpr (An _ he),b,eb,Pz q kt⟩
  have pv:((Bl es p (Bi (Bs prog w) kx,Cr x)).toList.map (·.2)).Perm (es.toList.map (·.2)++[Cr x]):=by
   have:=p1.map (·.2)
   rw[Cm] at this
   exact this
  by_cases tf:t1.tooFull=true
  ·rw[tf,if_pos (by decide)]
   have gr:Lz (es.size+1)=(es.size+1) * 4:=by unfold Lz; rw[if_neg (by omega)]
   rw[gr]
   refine Ac (jJ o1 ent2 (by rw[z1]; exact ok1) (by omega) (by omega) (λz=>by rw[ld1]; exact S.led z) und usz uall (by omega) (by omega) λes' ep' t' h' sb' S' zz pz=>Al ?_)
   exact h es' ep' t' h' nk (sb.trans sb') S' ((pz.map (·.2)).trans pv)
  ·have room:(es.size+1) * 5<t1.mask * 3:=by
    have : ¬ (t1.fill * 5 ≥ t1.mask * 3):=λz=>tf (by unfold SetTable.tooFull; exact decide_eq_true z)
    have e:t1.fill=es.size+1:=by
     unfold Ri
     rw[ok1.dum,ok1.size]
     rfl
    omega
   rw[Yv] at tf
   rw[tf]
   simp only[Na,Ct,if_false]
   refine Al ?_
   exact h _ _ t1 _ nk sb ⟨o1,ent2,by rw[z1]; exact ⟨ok1,room⟩,by rw[m1]; exact S.odd,by rw[m1]; exact S.top,by omega,λz=>by rw[ld1]; exact S.led z,und,usz,uall,wy1⟩ pv
end
section
variable{prog:Bu}{w:World}{A:Df}{R:Result->Aj->Prop}
def Ss(prog:Bu)(w:World)(h:Heap)(vs:List Value)(ws:List (List Int)):Prop:=vs.length=ws.length/\∀(i:Nat) (h1:i<vs.length) (h2:i<ws.length),∃b,vs[i]=Cr b/\Eo (Bs prog w) h ws[i] b
theorem Ss.keep{h h':Heap}{vs:List Value}{ws:List (List Int)}(x:Ss prog w h vs ws)(k:Sj h h'):Ss prog w h' vs ws :=
 ⟨x.1,λi h1 h2=>by obtain ⟨b,e,z⟩:=x.2 i h1 h2; exact ⟨b,e,Pz z k⟩⟩
theorem nY{a it l:Addr}(n1:a≠it)(n2:a≠l)(n3:l≠it){items:Array Value}{ws:List (List Int)}(few:ws.length<=1100)(hh:A.in1.handled=none)(hu:A.in1.units<cLine):∀(k i:Nat) (s:Aj) (es:Array (Int×Value)) (ep:Nat) (t:Az) (U:List (List Int)),items.size - i=k->i<=items.size->s.heap.IsListIter it l i->s.heap.IsList l items->Ss prog w s.heap items.toList ws->SetT prog w U s.heap a es ep t->es.size<=i->(∀x,x∈U↔x∈ws.take i)->(ws.Nodup->(es.toList.map (·.2)).Perm (items.toList.take i))->(∀v∈es.toList.map (·.2),v∈items.toList)->(∀es' ep' t' h' tk V,(∀b o,b≠a->b≠it->s.heap.get? b=some o->h'.get? b=some o)->SetT prog w V h' a es' ep' t'->(∀x,x∈V↔x∈ws)->(ws.Nodup->(es'.toList.map (·.2)).Perm items.toList)->(∀v∈es'.toList.map (·.2),v∈items.toList)->R (.ok (.ret .none)) { s with heap:=h',toks:=tk })->Ld (model prog w) A (.builtin "set.update.loop" ⟨[.ref a,.ref it],[]⟩) R s:=by
 intro k
 induction k with
 | zero =>
  intro i s es ep t U hk hi hit hl hw S hz hU hN hV hR
  have len:items.size=ws.length:=by rw[<- hw.1,Af]
  have e:i=items.size:=by omega
  refine Et Eu ?_
  rw[Ee Cs _]
  show wpAny _ A.in1 (Sb (.ref it) >>= _) _ _ s
  refine Ac (wpAny_pyNext_list_end hh hit hl (by rw[e]; simp) λh' x=>?_)
  have kp:Kept s.heap h':=λb o c q=>by
   refine x b o (λz=>?_) q
   subst z
   obtain ⟨o',ho',c',_⟩:=hit
   rw[ho'] at q
   cases q
   rw[c'] at c
   rcases c with c | c <;> exact absurd c (by decide)
  have S':=S.keep kp
  refine Al (hR es ep t h' s.toks U (λb o _ q e=>x b o q e) S' (λx=>?_) (λz=>?_) hV)
  ·rw[hU x,Px (by omega)]
  ·have q:=hN z
   rw[e,Px (by rw[Af]; exact Ah _)] at q
   exact q
 | succ k ih =>
  intro i s es ep t U hk hi hit hl hw S hz hU hN hV hR
  have len:items.size=ws.length:=by rw[<- hw.1,Af]
  have lt:i<items.size:=by omega
  have lt':i<ws.length:=by omega
  obtain ⟨b,ev,hx⟩:=hw.2 i (by rw[Af]; exact lt) lt'
  have ev':items[i]=Cr b:=by simpa using ev
  refine Et Eu ?_
  rw[Ee Cs _]
  show wpAny _ A.in1 (Sb (.ref it) >>= _) _ _ s
  refine Ac (uM hit hl (x:=items[i]) (by simp [lt]) λh1 hit1 sb1=>?_)
  rw[ev']
  show wpAny _ A.in1 (Lc [Cr b] (setAdd a (.ref b)) >>= _) _ _ _
  refine Ac (Ef ?_)
  unfold setAdd
  have kp:Kept s.heap h1:=λb o c q=>by
   refine (sb1.2 b λz=>?_).trans q
   subst z
   obtain ⟨o',ho',c',_⟩:=hit
   rw[ho'] at q
   cases q
   rw[c'] at c
   rcases c with c | c <;> exact absurd c (by decide)
  have S1:=S.keep kp
  have hx1:=Pz hx kp.t
  refine Ef (Ac (wpAny_pyHash_tuple (s:={ s with heap:=h1 }) hu hx1 ?_))
  have kt:∀(h2:Heap) (es2:Array (Int×Value)) (ep2:Nat) (t2:Az) (V:List (List Int)),Gd a h1 h2->SetT prog w V h2 a es2 ep2 t2->es2.size<=i+1->(∀x,x∈V↔x∈ws.take (i+1))->(ws.Nodup->(es2.toList.map (·.2)).Perm (items.toList.take (i+1)))->(∀v∈es2.toList.map (·.2),v∈items.toList)->∀tk,Ld (model prog w) A (.builtin "set.update.loop" ⟨[.ref a,.ref it],[]⟩) R { s with heap:=h2,toks:=tk }:=λh2 es2 ep2 t2 V sb2 S2 l2 u2 g2 w2 tk=>by
   have kt2:Sj h1 h2:=Xa S1.obj (by show Eb "set" ≠ Eb "tuple"; decide) sb2
   refine ih (i+1) { s with heap:=h2,toks:=tk } es2 ep2 t2 V (by omega) lt ?_ ?_ (hw.keep λb o c e=>kt2 b o c (kp.t b o c e)) S2 l2 u2 g2 w2 λes3 ep3 t3 h3 tk3 V3 k3 S3 u3 g3 w3=>?_
   ·obtain ⟨o,ho,r⟩:=hit1
    exact ⟨o,(sb2.2 it (Lo n1)).trans ho,r⟩
   ·obtain ⟨o,ho,r⟩:=hl
    exact ⟨o,(sb2.2 l (Lo n2)).trans ((sb1.2 l n3).trans ho),r⟩
   ·exact hR es3 ep3 t3 h3 tk3 V3 (λb o q1 q2 e=>k3 b o q1 q2 ((sb2.2 b q1).trans ((sb1.2 b q2).trans e))) S3 u3 g3 w3
  have tk1:=Jy lt'
  refine vQ (s:={ s with heap:=h1,toks:=s.toks+(ws[i].length+1) }) S1 (by omega) hu hx1 (λhm=>?_) λes2 ep2 t2 h2 nk sb2 S2 g2=>?_
  ·refine Al ⟨Mf Cs _,?_⟩
   refine kt h1 es ep t U (Heap.SameBut.refl a h1) S1 (by omega) (λx=>?_) (λz=>?_) hV _
   ·rw[tk1,List.mem_append,List.mem_singleton,hU x]
    exact ⟨.inl,λq=>q.elim id λq=>by rw[q]; exact (hU _).mp hm⟩
   ·obtain ⟨j,hj,ej⟩:=Nt.mp ((hU _).mp hm)
    exact absurd ej (Ga.mp z j i (by omega) lt' (by omega))
  ·refine Al ⟨Mf Cs _,?_⟩
   refine kt h2 es2 ep2 t2 (ws[i]::U) sb2 S2 (by rw[S2.sz,Bq,<- S.sz]; omega) (λx=>?_) (λz=>?_) (λv hv=>?_) _
   ·rw[tk1,List.mem_append,List.mem_singleton,Ai,hU x]
    exact Or.comm
   ·rw[Jy (by rw[Af]; exact lt),show items.toList[i]=Cr b from ev]
    exact g2.trans ((hN z).append_right _)
   ·rcases Bg.mp (g2.mem_iff.mp hv) with q | q
    ·exact hV v q
    ·rw[Am.mp q,<- ev]
     exact Os _
end
section
variable{prog:Bu}{w:World}{A:Df}{E:Value->Aj->Prop}{s:Aj}
theorem iO{h:Heap}:SetT prog w [] (h.push (Es #[] 0 (.fresh 0 0 (!bt w)))) h.objs.size #[] 0 (.fresh 0 0 (!bt w)) :=
 ⟨Ay _ rfl,(λe he=>by simp at he),⟨⟨mG,rfl,rfl,Dw,(λj hj=>by simp [SetTable.fresh] at hj),rfl⟩,by show 0 * 5<7 * 3; decide⟩,by show 7 % 2=1; decide,by show 7<8192; decide,by show 0<=1100; decide,λz=>by show (!bt w)=true; rw[z]; rfl,Do,rfl,λu hu=>by simp at hu,λx hx=>by simp at hx⟩
theorem sF{l:Addr}{items:Array Value}{ws:List (List Int)}{Q:Value->Aj->Prop}(hh:A.handled=none)(hu:A.units+64<cLine)(hl:s.heap.IsList l items)(hw:Ss prog w s.heap items.toList ws)(few:ws.length<=1100)(h:∀es ep t h' tk U,(∀b o,s.heap.get? b=some o->h'.get? b=some o)->SetT prog w U h' s.heap.objs.size es ep t->(∀x,x∈U↔x∈ws)->(ws.Nodup->(es.toList.map (·.2)).Perm items.toList)->(∀v∈es.toList.map (·.2),v∈items.toList)->Q (.ref s.heap.objs.size) { s with heap:=h',toks:=tk }):wpAny (model prog w) A (call (.type "set") [.ref l]) Q E s:=by
 obtain ⟨c,tl,hmro⟩:=PySem.F.called_set.mro
 have hmade:=PySem.F.called_set.made
 have hsub:=PySem.F.called_set.sub
 have h1:=PySem.F.called_set.notType
 have h2:=PySem.F.called_set.canCreate
 have hct:=PySem.F.typeCall_set_1 (.ref l)
 refine wpAny_call (Tg (show wpAny _ _ (callAny (.type "set") _) _ _ _ from ?_))
 refine Al ⟨Code.quiet_builtin _ (by decide +kernel),Et PySem.F.entry_type_call ?_⟩
 rw[Around.under_plain (weight_type_call_type "set" [.ref l] []) rfl]
 repeat (any_goals (first | assumption | wp_step))
 refine Jb (eY (.ref l) (E:=E) (Q:=λv s1=>v=.ref s.heap.objs.size/\s1={ s with heap:=s.heap.push (Es #[] 0 (.fresh 0 0 (!bt w))) }) ⟨rfl,rfl⟩) λr s1 hr=>?_
 rcases r with e | (_ | _ | _ | v)
 ·exact hr
 ·exact hr.elim
 ·exact hr.elim
 ·exact hr.elim
 obtain ⟨rfl,rfl⟩:=hr
 have S0:=iO (prog:=prog) (w:=w) (h:=s.heap)
 have T0:Shared.TypeIs { s with heap:=s.heap.push (Es #[] 0 (.fresh 0 0 (!bt w))) } (.ref s.heap.objs.size) "set" := ⟨_,S0.obj,rfl⟩
 have hli:=PySem.F.called_set.init.lookup
 have hbi:=PySem.F.called_set.init.bind (.ref s.heap.objs.size)
 repeat (any_goals (first | assumption | wp_step))
 refine Jb (codeAny_call_builtin (R:=wants (λr s2=>r=.none/\∃es ep t h' tk U,s2={ s with heap:=h',toks:=tk }/\(∀b o,s.heap.get? b=some o->h'.get? b=some o)/\SetT prog w U h' s.heap.objs.size es ep t/\(∀x,x∈U↔x∈ws)/\(ws.Nodup->(es.toList.map (·.2)).Perm items.toList)/\(∀v∈es.toList.map (·.2),v∈items.toList)) E)
  PySem.F.called_set.init.plain PySem.F.entry_set_init (check_set_init_1 T0 ?_)) λr s2 hr=>?_
 ·obtain ⟨⟨oc,od,odt,osl⟩,ho,hc,n,hd⟩:=id hl
  have hc':oc=.type "list" := hc
  have hd':odt=.seq items n:=hd
  subst hc' hd'
  have ho':=Ag (Es #[] 0 (.fresh 0 0 (!bt w))) ho
  have hl1:(s.heap.push (Es #[] 0 (.fresh 0 0 (!bt w)))).IsList l items:=⟨_,ho',rfl,n,rfl⟩
  have f1:=PySem.F.sub_list_set
  have f2:=PySem.F.sub_list_frozenset
  have f3:(Eb "list" == Eb "dict")=false:=by decide
  have lt:=Bc ho
  unfold Builtin.«set.__init__» noKeywords Ra
  generalize hPI:pyIter=PI
  wp_walk
  subst hPI
  refine aU hl1 (Ac (wpAny_runValue ?_))
  have sz:(s.heap.push (Es #[] 0 (.fresh 0 0 (!bt w)))).objs.size=s.heap.objs.size+1:=Heap.size_push _ _
  have g1:((s.heap.push (Es #[] 0 (.fresh 0 0 (!bt w)))).push { cls:=.type "list_iterator",data:=.fields #[.ref l,.int 0 0] }).get? (s.heap.push (Es #[] 0 (.fresh 0 0 (!bt w)))).objs.size=some { cls:=.type "list_iterator",data:=.fields #[.ref l,.int 0 0] }:=Ay _ rfl
  have kp1:Sj s.heap ((s.heap.push (Es #[] 0 (.fresh 0 0 (!bt w)))).push { cls:=.type "list_iterator",data:=.fields #[.ref l,.int 0 0] }):=λb o _ e=>Ag _ (Ag _ e)
  refine nY (by rw[sz]; exact Cp (Yy _)) (Nat.ne_of_gt lt) (by rw[sz]; exact Cp (Ki lt)) few (by simp [hh]) (by simp; omega) (items.size - 0) 0 _ #[] 0 (.fresh 0 0 (!bt w)) [] rfl (Dx _) ⟨_,g1,rfl,rfl⟩ ⟨_,Ag _ ho',rfl,n,rfl⟩
   (hw.keep kp1) (S0.keep λb o _ q=>Ag _ q) (Dx _) (λx=>Iff.rfl) (λ_=>Lp _) (λv hv=>nomatch hv) λes ep t h' tk U k' S' m' m2' m3'=>?_
  refine Al (Al ⟨rfl,es,ep,t,h',tk,U,rfl,λb o e=>?_,S',m',m2',m3'⟩)
  ·have lb:=Bc e
   exact k' b o (Cp lb) (by rw[sz]; exact Cp (Ki lb)) (Ag _ (Ag _ e))
 ·rcases r with e | (_ | _ | _ | v)
  ·exact hr
  ·exact hr.elim
  ·exact hr.elim
  ·exact hr.elim
  obtain ⟨rfl,es,ep,t,h',tk,U,rfl,k',S',m',m2',m3'⟩:=hr
  repeat (any_goals (first | assumption | wp_step))
  exact h es ep t h' tk U k' S' m' m2' m3'
end
end NdS
namespace Nd
open PySem PySem.Spec PyProof.Rows L2 NdS
def jU(a:Addr)(n:Nat)(h:Heap):Prop:=∃es ep t,h.get? a=some (Es es ep t)/\t.fits es.size=true/\es.size=n
abbrev nS(a:Addr)(n:Nat):HO:=.ext (jU a n)
theorem xA{P:Bu}{w':World}{H:Hp}{h:Heap}{a:Addr}{n:Nat}(e:jU a n h):Hu P w' H h a (nS a n) :=
 ⟨e,let ⟨_,_,_,S,_⟩:=e; ⟨_,S⟩,λh1 h2 ⟨es,ep,t,S,m⟩ k=>⟨es,ep,t,k _ S,m⟩⟩
theorem oD{P:Bu}{w:World}{H:Hp}{h:Heap}{a:Addr}{n:Nat}(ok:Xz P w H h)(e:H a=some (nS a n)):jU a n h :=
 (show Hu P w H h a (nS a n) from ok a _ e).1
theorem gD{prog:Bu}{w:World}:∀{ns:List Int} {vs:List Value},Ek (ns.map V.int) vs->ItemsAre (Bs prog w) ns vs
 | [],_,h=>by cases h; exact .nil
 | n::ns,_,h=>by
  cases h with
  | cons a t =>
   obtain ⟨tk,rfl⟩:=a
   exact .cons (intKind_is _ _ _ _) (gD t)
theorem lT:∀{rs:List Addr} {vs:List Value},Ek (rs.map V.ref) vs->vs=rs.map Cr
 | [],_,h=>by cases h; rfl
 | r::rs,_,h=>by
  cases h with
  | cons a t =>
   cases a
   rw[lT t]
   rfl
theorem Wa{α:Type}[DecidableEq α]:∀{l1 l2:List α},l1.Nodup->(∀e∈l1,e∈l2)->l1.length<=l2.length
 | [],_,_,_=>Dx _
 | a::l1,l2,nd,h=>by
  have nd':=Bt.mp nd
  have ha:=h a (Aa ..)
  have:=Wa (l2:=l2.erase a) nd'.2 λe he=>(Lj (show e≠a from λz=>nd'.1 (by rw[<- z]; exact he))).mpr (h e (Ab _ he))
  rw[Ja ha] at this
  have p:0<l2.length:=Jz ha
  rw[Bq]
  omega
theorem fR{α:Type}[DecidableEq α]:∀{l:List α},¬ l.Nodup->∃x∈l,x∈l.erase x
 | [],h=>absurd Do h
 | a::l,h=>by
  by_cases c:a∈l
  ·exact ⟨a,Aa ..,by rw[List.erase_cons_head]; exact c⟩
  ·obtain ⟨x,hx,hx2⟩:=fR (l:=l) λz=>h (Bt.mpr ⟨c,z⟩)
   have ne:¬ (a == x)=true:=λz=>c (by rw[show a=x by simpa using z]; exact hx)
   exact ⟨x,Ab _ hx,by rw[List.erase_cons_tail ne]; exact Ab _ hx2⟩
theorem sI{α:Type}[DecidableEq α]{U ws:List α}(n1:U.Nodup)(h:∀x,x∈U↔x∈ws):U.length<=ws.length/\(U.length=ws.length↔ws.Nodup):=by
 have l1:=Wa n1 λe he=>(h e).mp he
 refine ⟨l1,λe=>Ft λz=>?_,λn2=>Nat.le_antisymm l1 (Wa n2 λe he=>(h e).mpr he)⟩
 obtain ⟨x,hx,hx2⟩:=fR z
 have:=Wa (l2:=ws.erase x) n1 λe he=>by
  by_cases c:e=x
  ·rw[c]; exact hx2
  ·exact (Lj c).mpr ((h e).mp he)
 rw[Ja hx] at this
 have p:0<ws.length:=Jz hx
 omega
def J7(K:PySem.W.Frag):List V->Hp->VK->Prop:=λxs H Q=>∃(a:Addr) (rs:List Addr) (f:Addr->List Int),xs=[.ref a]/\Oy K H a (rs.map V.ref)/\(∀r∈rs,To K H r ((f r).map V.int))/\rs.length<=1100 /\
 ∀(p:Addr) (n:Nat),H p=none->n<=rs.length->(n=rs.length↔(rs.map f).Nodup)->Q (.ref p) (upd H p (nS p n))
theorem oH{X:Cx}(hc:X.calm=true)(hu:X.A.units+64<cLine):Jn X (.type "set") (J7 X.K):=by
 intro pins s σ H xs us Q I r h
 obtain ⟨a,rs,f,rfl,hs,ht,few,q⟩:=h
 obtain ⟨u,rfl,ru⟩:=vals1 r
 cases ru
 obtain ⟨its,rv,pl,_⟩:=I.list hs
 have e:=lT rv
 subst e
 refine sF (ws:=rs.map f) (I.ok.hd hc) hu pl.isList ⟨by simp,λi h1 h2=>?_⟩ (by rw[Ae]; exact few) λes ep t h' tk U k S m m2 _=>?_
 ·have hi:i<rs.length:=by simpa using h1
  obtain ⟨js,jv,⟨o,e,hcl,n,hd⟩,_⟩:=I.tuple (ht rs[i] (Os hi))
  exact ⟨rs[i],by simp,o,_,n,e,hcl,hd,by rw[List.getElem_map]; simpa using gD jv⟩
 ·obtain ⟨l1,l2⟩:=sI S.nd m
  rw[Ae,<- S.sz] at l1 l2
  exact ⟨.ref s.heap.objs.size,_,I.laid k (Ah _) (xA ⟨es,ep,t,S.obj,S.tab.fits,rfl⟩),rfl,q _ _ (I.hok.fresh (Ah _)) l1 l2⟩
def E7:List V->Hp->VK->Prop:=λxs H Q=>∃a n,xs=[V.ref a]/\H a=some (nS a n)/\n<=1100/\Q (.int n) H
theorem mS{X:Cx}:Jn X (.builtin "len") E7:=by
 intro pins s σ H xs us Q I r h
 obtain ⟨a,n,rfl,ha,hn,q⟩:=h
 obtain ⟨u,rfl,ru⟩:=vals1 r
 cases ru
 obtain ⟨es,ep,t,ho,hf,rfl⟩:=oD I.hok ha
 refine call_len_set ho ⟨rfl,rfl,rfl⟩ rfl hf (by omega) ?_
 exact ⟨.int es.size,H,I.tok _,⟨_,rfl⟩,q⟩
end Nd
namespace Nd
open PySem L2
end Nd
namespace DL
open PySem PySem.Spec PyProof.Rows L2 Nd
def O7(xs:List DV)(δ:DS)(P:DV->DS->Prop):Prop:=match xs with
 | [.dat _ (.list ds)]=>∃ws:List (List Int),ds=ws.map Bv/\ws.length<=1100/\∀n:Nat,n<=ws.length->(ws.Nodup->n=ws.length)->(n=ws.length->ws.Nodup)->P (.dat .ow (.int n)) δ
 | _=>False
def lS(da:DA):DE:=λδ P=>da δ λxs δ1=>O7 xs δ1 P
section
variable{X:Cx}{p p2 pos pos2:Pos}{e:Expr}{da:DA}
theorem oF(hu:X.A.units+64<cLine)(hc:X.calm=true)(hg:Gl X "len")(hm:X.mg "len" = none)(hg2:Gl X "set")(hm2:X.mg "set" = none)(ha:oW X [e] da)(he:Bd [e] X.env=[(false,eval e X.env)]:=by rfl)(he2:Bd [.Call (.Name "set" p2) [e] [] pos2] X.env=[(false,eval (.Call (.Name "set" p2) [e] [] pos2) X.env)]:=by rfl):Ei X (.Call (.Name "len" p) [.Call (.Name "set" p2) [e] [] pos2] [] pos) (lS da):=by
 refine PE.imp (Wx mS hg hm (by decide +kernel) (Fh (Nq (oH hc hu) hg2 hm2 (by decide +kernel) ha (by decide) (by decide) he rfl) Jd he2) (by decide) (by decide) he2 rfl) λσ H Q h=>?_
 obtain ⟨H0,Y,S,T,δ,P,rfl,hS,hA,hd,k⟩:=h
 refine ⟨H0,Y,S,T,δ,_,rfl,hS,hA,hd,λxs δ' As us S' H' e1 e2 ex eu hA' p=>?_⟩
 unfold O7 at p
 split at p
 ·obtain ⟨v,F,rfl,hA2⟩:=Il eu hA' ex
  obtain ⟨ws,rfl,hl,pp⟩:=p
  obtain ⟨a,xs,G,rfl,ha,ra,rfl,hz⟩:=(hA2.told mem_mid).list_inv
  obtain ⟨rs,rfl,rfl,rfl,c1,c2⟩:=iC ra rfl
  rw[Ae] at hl
  refine ⟨a,rs,B8 H',rfl,Oy.of ha,λr hr=>To.of (c1 r hr),hl,λq n hq h1 h2=>?_⟩
  refine ⟨q,n,rfl,Dt,by omega,?_⟩
  have s1:=Fu hq (nS q n)
  exact k _ δ' _ _ S' _ e1 e2 ((hA2.drop.grow s1 (Ah _)).pushI (.int _)) (pp n (by rw[Ae]; exact h1) (by rw[Ae]; exact h2.mpr) (by rw[Ae]; exact h2.mp))
 ·exact p.elim
end
def uI(H:Hp)(r:Addr):List V:=match H r with
 | some (.lst xs)=>xs
 | _=>[]
section
variable{K:PySem.W.Frag}
theorem fI{H:Hp}:∀{C:List (List Ad)} {xs:List V} {G:List Addr},RdFs K H xs (C.map Ed) G->(∀c∈C,Dk c=true/\c.length<1000000)->xs=G.map V.ref/\(∀r∈G,H r=some (.lst (uI H r))/\(uI H r).length<Aw)/\∀H',(∀r∈G,H' r=some (.lst (uI H r++[.non])))->(∀b o,H b=some o->L5 o->H' b=some o)->RdFs K H' xs (C.map λc=>Ed (c++[.none])) G
 | [],_,_,h,_=>by
  cases h
  exact ⟨rfl,(λ_ z=>nomatch z),λ_ _ _=>.nil⟩
 | c::C,_,_,h,hc=>by
  cases h with
  | @cons x _ xs _ F G a t =>
  obtain ⟨e1,e2,e3⟩:=fI t λd hd=>hc d (Ab _ hd)
  obtain ⟨i1,i2⟩:=hc c Aa
  obtain ⟨r,ys,Gr,rfl,hr,ry,rfl,_⟩:=a.list_inv
  obtain rfl:=ry.imm i1
  have el:uI H r=ys:=by unfold uI; rw[hr]
  refine ⟨by rw[e1]; rfl,λr' hr'=>?_,λH' h1 h2=>?_⟩
  ·rcases Ai.mp hr' with rfl | hr'
   ·rw[el]
    exact ⟨hr,Bp (by rw[ry.len]; exact i2) (Yw (n:=1000000) (Ah _))⟩
   ·exact e2 r' hr'
  ·have q:=h1 r Aa
   rw[el] at q
   have r1:RdFs K H' (ys++[.non]) (c++[.none]) ([]++[]):=(ry.kp λb o e z=>h2 b o e (z.resolve_left (λz=>nomatch z))).snoc .non
   exact RdFs.cons (F:=[r]) (.lst q (by rw[Bj]; exact Yw (by simp; omega)) r1) (e3 H' (λr' hr'=>h1 r' (Ab _ hr')) h2)
end
end DL
namespace NdW
open PySem PyProof.Rows NdS
end NdW
namespace Nd
open PySem PySem.Spec PyProof.Rows L2 NdS NdW
end Nd
namespace DL
open PySem PySem.Spec PyProof.Rows L2 Nd
def yZ(t u:DB)(D:DEnds)(b:Bool)(δ:DS):Prop:=match b with
 | true=>t D δ
 | false=>u D δ
def L9(x:DV)(δ:DS)(P:DV->DS->Prop):Prop:=match x with
 | .dat _ d=>imm d=true/\P (.dat .ow d) δ
 | _=>False
def W9(i:Nat)(s:Option DV)(δ:DS)(P:DV->DS->Prop):Prop:=match s with
 | some (.dat .pk _)=>False
 | some (.dat _ d)=>P (.dat .sh d) ⟨δ.sl.set i (.dat .sh d),δ.n⟩
 | _=>False
def tupB(xs:List DV)(δ:DS)(P:DV->DS->Prop):Prop:=match datas xs with
 | some ds=>ds.length<=1000/\P (.dat (pkMd .sh xs) (.tuple ds)) δ
 | none=>False
def lstB(xs:List DV)(δ:DS)(P:DV->DS->Prop):Prop:=match datas xs with
 | some ds=>ds.length<=1000/\P (.dat (pkMd .tp xs) (.list ds)) δ
 | none=>False
def xY(x:DV)(δ:DS)(P:Option Int->DS->Prop):Prop:=match x with
 | .dat _ (.int i)=>P (some i) δ
 | _=>False
def U7(i:Bool)(x:DV)(l h:Option Int)(δ:DS)(P:DV->DS->Prop):Prop:=match x with
 | .dat m (.list ds)=>fF i m (Km ds l h) λz=>P z δ
 | .dat m (.tuple ds)=>Zg i m (Km ds l h) λz=>P z δ
 | _=>False
def X1(xs:List DV)(δ:DS)(P:DV->DS->Prop):Prop:=match xs with
 | [.dat _ (.list ds)]=>∃ns:List Int,ds=ns.map By/\(∀x∈ns,0<=x/\x<60)/\P (.dat .ow (.list ((Xp ns).map By))) δ
 | [.dat _ (.tuple ds)]=>∃ns:List Int,ds=ns.map By/\(∀x∈ns,0<=x/\x<60)/\P (.dat .ow (.list ((Xp ns).map By))) δ
 | _=>False
def bB(x:DV)(δ:DS)(P:Bool->DS->Prop):Prop:=match x with
 | .dat _ (.bool b)=>P b δ
 | _=>False
def E4(x:DV)(δ:DS)(P:Bool->DS->Prop):Prop:=match x with
 | .dat _ d=>B7 d/\P (Zj d) δ
 | _=>False
def zY(du:DT)(b:Bool)(δ:DS)(P:Bool->DS->Prop):Prop:=match b with
 | true=>du δ P
 | false=>P false δ
def R6(du:DT)(b:Bool)(δ:DS)(P:Bool->DS->Prop):Prop:=match b with
 | true=>P true δ
 | false=>du δ P
def E9(x:DV)(δ:DS)(P:DV->DS->Prop):Prop:=match x with
 | .dat _ (.bool b)=>P (.dat .ow (.bool (!b))) δ
 | _=>False
def C0(db:DE)(x:DV)(δ:DS)(P:DV->DS->Prop):Prop:=match x with
 | .dat _ (.bool true)=>db δ P
 | .dat _ (.bool false)=>P (.dat .ow (.bool false)) δ
 | _=>False
def U1(da db:DE)(b:Bool)(δ:DS)(P:DV->DS->Prop):Prop:=match b with
 | true=>da δ P
 | false=>db δ P
def lB(x:DV)(δ:DS)(P:Md->List Ad->DS->Prop):Prop:=match x with
 | .dat m (.list ds)=>P (Kj m) ds δ
 | _=>False
def U6(x:DV)(δ:DS)(P:Md->List Ad->DS->Prop):Prop:=match x with
 | .dat m (.tuple ds)=>P (Kj m) ds δ
 | _=>False
def yA(xs:List DV)(δ:DS)(P:Md->List Ad->DS->Prop):Prop:=match xs with
 | [.dat _ (.int j)]=>-1000000<=j/\j<=1000000/\P .sh ((Br j.toNat).map λi:Nat=>.int i) δ
 | _=>False
def R3(xs:List DV)(δ:DS)(P:Md->List Ad->DS->Prop):Prop:=match xs with
 | [.dat m (.tuple ds)]=>P (Kj m) (ds.zipIdx.map λp=>.tuple [.int p.2,p.1]) δ
 | _=>False
def L6(dg:DG)(db:DB)(D:DEnds)(m:Md)(ds:List Ad)(δ1:DS):Prop:=m=.sh/\∃I:Nat->DS->Prop,I 0 δ1 /\
 (∀i d δ',ds[i]? = some d->I i δ'->dg (.dat .sh d) δ' λδ2=>db { D with nx:=I (i+1),ct:=I (i+1),bk:=D.nx } δ2)/\∀δ',I ds.length δ'->D.nx δ'
def qW(js:List Nat)(dc:DT)(de:DE)(P:DV->DS->Prop)(m:Md)(ds:List Ad)(δ1:DS):Prop:=∃I:Nat->List Ad->Nat->Prop,I 0 [] δ1.n /\
 (∀i d acc n,ds[i]? = some d->I i acc n->Np dc de ⟨.dat m d::frD δ1.sl js,n⟩ (λe n'=>I (i+1) (acc++[e]) n') (λn'=>I (i+1) acc n')) /\
 ∀acc n,I ds.length acc n->P (.dat .ow (.list acc)) ⟨δ1.sl,n⟩
def rZ(js:List Nat)(dc:DT)(de:DE)(P:DV->DS->Prop)(m:Md)(ds:List Ad)(δ1:DS):Prop:=∃I:Nat->List Ad->Nat->Prop,I 0 [] δ1.n /\
 (∀i d acc n,ds[i]? = some d->I i acc n->∃d1 d2,d=.tuple [d1,d2]/\Np dc de ⟨.dat m d1::.dat m d2::frD δ1.sl js,n⟩ (λe n'=>I (i+1) (acc++[e]) n') (λn'=>I (i+1) acc n')) /\
 ∀acc n,I ds.length acc n->P (.dat .ow (.list acc)) ⟨δ1.sl,n⟩
def n8(yes:Ad->Nat->Prop)(y:DV)(δ:DS):Prop:=match y with
 | .dat _ e=>imm e=true/\yes e δ.n
 | _=>False
def yJ(de:DE)(yes:Ad->Nat->Prop)(no:Nat->Prop)(b:Bool)(δ:DS):Prop:=match b with
 | true=>de δ λy δ3=>n8 yes y δ3
 | false=>no δ.n
def callB(pf:PF)(xs:List DV)(δ:DS)(P:DV->DS->Prop):Prop:=match datas xs with
 | some ds=>pf ds λd=>P (.dat .ow d) δ
 | none=>False
def callBW(i:Nat)(df:DF)(xs:List DV)(δ:DS)(P:DV->DS->Prop):Prop:=match δ.sl[i]? with
 | some .drw=>match datas xs with
  | some ds=>df ds δ.n λd n'=>P (.dat .ow d) ⟨δ.sl,n'⟩
  | none=>False
 | _=>False
def sW(xs:List DV)(δ:DS)(P:DV->DS->Prop):Prop:=match xs with
 | [.dat _ (.int _)]=>P .drw δ
 | _=>False
def appB(i:Nat)(y:DV)(δ:DS)(D:DEnds):Prop:=match δ.sl[i]?,y with
 | some (.dat m (.list ds)),.dat _ e=>own1 m=true/\npk δ.sl=true/\imm e=true/\ds.length<1000000/\D.nx ⟨δ.sl.set i (.dat m (.list (ds++[e]))),δ.n⟩
 | _,_=>False
def setB(i:Nat)(y z:DV)(δ:DS)(D:DEnds):Prop:=match δ.sl[i]?,y,z with
 | some (.dat m (.list ds)),.dat _ e,.dat _ (.int k)=>own1 m=true/\npk δ.sl=true/\imm e=true/\Dk ds=true/\∃j,pE ds.length k=some j/\D.nx ⟨δ.sl.set i (.dat m (.list (ds.set j e))),δ.n⟩
 | _,_,_=>False
def K5(xs:List DV)(δ:DS)(P:DV->DS->Prop):Prop:=match xs with
 | [.dat _ (.tuple ds)]=>∃ns:List Int,ds=ns.map By/\(∀x∈ns,0<=x/\x<60)/\P (.dat .ow (.list ((Xp ns).map By))) δ
 | _=>False
theorem e_lenSet{da:DA}{δ:DS}{P:DV->DS->Prop}:lS da δ P=(da δ λxs δ1=>O7 xs δ1 P):=rfl
theorem e_lsB{m:Md}{ds:List Ad}{δ:DS}{P:DV->DS->Prop}:O7 [.dat m (.list ds)] δ P=(∃ws:List (List Int),ds=ws.map Bv/\ws.length<=1100/\∀n:Nat,n<=ws.length->(ws.Nodup->n=ws.length)->(n=ws.length->ws.Nodup)->P (.dat .ow (.int n)) δ):=rfl
theorem B4{i:Nat}{dk de:DE}{D:DEnds}{δ:DS}:rM i dk de D δ=(match δ.sl[i]? with | some (.dat _ (.list _))=>dk δ λz δ1=>de δ1 λy δ2=>yG i z y δ2 D | _=>False):=rfl
theorem e_seq{t u:DB}{D:DEnds}{δ:DS}:K2 t u D δ=(t { D with nx:=λδ'=>u D δ' } δ):=rfl
theorem e_skip{D:DEnds}{δ:DS}:yO D δ=(D.nx δ):=rfl
theorem e_ret{de:DE}{D:DEnds}{δ:DS}:N6 de D δ=(de δ D.rt):=rfl
theorem e_expr{de:DE}{D:DEnds}{δ:DS}:xN de D δ=(de δ λ_ δ'=>D.nx δ'):=rfl
theorem e_if{dt:DT}{t u:DB}{D:DEnds}{δ:DS}:V7 dt t u D δ=(dt δ (yZ t u D)):=rfl
theorem e_asg{de:DE}{dg:DG}{D:DEnds}{δ:DS}:qK de dg D δ=(de δ λx δ'=>dg x δ' D.nx):=rfl
theorem e_name{i:Nat}{m:Md}{d:Ad}{δ:DS}{Q:DS->Prop}:Rq i (.dat .ow d) δ Q=(Q ⟨δ.sl.set i (.dat .sh d),δ.n⟩):=rfl
theorem e_name2{i:Nat}{m:Md}{d:Ad}{δ:DS}{Q:DS->Prop}:Rq i (.dat .sh d) δ Q=(Q ⟨δ.sl.set i (.dat .sh d),δ.n⟩):=rfl
theorem e_name4{i:Nat}{δ:DS}{Q:DS->Prop}:Rq i .drw δ Q=(Q ⟨δ.sl.set i .drw,δ.n⟩):=rfl
theorem e_own{i:Nat}{d:Ad}{δ:DS}{Q:DS->Prop}:kD i (.dat .ow d) δ Q=(Q ⟨δ.sl.set i (.dat .ow d),δ.n⟩):=rfl
theorem e_gtup{n:Nat}{gs:uF}{m:Md}{ds:List Ad}{δ:DS}{Q:DS->Prop}:qN n gs (.dat m (.tuple ds)) δ Q=(ds.length=n/\gs (ds.map λd=>.dat (Oc m) d) δ Q):=rfl
theorem e_gsn{δ:DS}{Q:DS->Prop}:sG [] δ Q=(Q δ):=rfl
theorem e_gsc{g:DG}{gs:uF}{x:DV}{r:List DV}{δ:DS}{Q:DS->Prop}:kR g gs (x::r) δ Q=(g x δ λδ'=>gs r δ' Q):=rfl
theorem e_op{rd:D2}{da db:DE}{δ:DS}{P:DV->DS->Prop}:Zo rd da db δ P=(da δ λx δ1=>db δ1 λy δ2=>rd x y λz=>P z δ2):=rfl
theorem e_var{i:Nat}{δ:DS}{P:DV->DS->Prop}:B3 i δ P=(match δ.sl[i]? with | some (.dat m d)=>P (.dat (eO m) d) δ | _=>False):=rfl
theorem e_c{d:Ad}{δ:DS}{P:DV->DS->Prop}:dC d δ P=(P (.dat .ow d) δ):=rfl
theorem e_imm{de:DE}{δ:DS}{P:DV->DS->Prop}:E1 de δ P=(de δ λx δ'=>L9 x δ' P):=rfl
theorem e_immB{m:Md}{d:Ad}{δ:DS}{P:DV->DS->Prop}:L9 (.dat m d) δ P=(imm d=true/\P (.dat .ow d) δ):=rfl
theorem e_take{i:Nat}{δ:DS}{P:DV->DS->Prop}:sV i δ P=(match δ.sl[i]? with | some (.dat m d)=>P (.dat m d) ⟨δ.sl.set i .un,δ.n⟩ | _=>False):=rfl
theorem e_I{C:Int->Int->Prop}{g:Int->Int->Ad}{i j:Int}{m m':Md}{P:DV->Prop}:M0 C g (.dat m (.int i)) (.dat m' (.int j)) P=(C i j/\P (.dat .ow (g i j))):=rfl
theorem e_I0{g:Int->Int->Ad}{i j:Int}{m m':Md}{P:DV->Prop}:eJ g (.dat m (.int i)) (.dat m' (.int j)) P=(P (.dat .ow (g i j))):=rfl
theorem e_eqF{d e:Ad}{m m':Md}{P:DV->Prop}:gB false (.dat m d) (.dat m' e) P=(d.depth<=60/\e.depth<=60/\P (.dat .ow (.bool (Dh d e)))):=rfl
theorem e_eqT{d e:Ad}{m m':Md}{P:DV->Prop}:gB true (.dat m d) (.dat m' e) P=(d.depth<=60/\e.depth<=60/\P (.dat .ow (.bool (!Dh d e)))):=rfl
theorem e_inTl{d:Ad}{es:List Ad}{m m':Md}{P:DV->Prop}:pP true (.dat m d) (.dat m' (.list es)) P=(Bb es<=60/\d.depth<=60/\P (.dat .ow (.bool (!(es.any λe=>Dh e d))))):=rfl
theorem e_inTt{d:Ad}{es:List Ad}{m m':Md}{P:DV->Prop}:pP true (.dat m d) (.dat m' (.tuple es)) P=(Bb es<=60/\d.depth<=60/\P (.dat .ow (.bool (!(es.any λe=>Dh e d))))):=rfl
theorem e_ixl{ds:List Ad}{i:Int}{m m':Md}{P:DV->Prop}:tT (.dat m (.list ds)) (.dat m' (.int i)) P=(∃d,Sm ds i=some d/\P (.dat (Oc m) d)):=rfl
theorem e_cat{ds es:List Ad}{m m':Md}{P:DV->Prop}:kP (.dat m (.list ds)) (.dat m' (.list es)) P=(Dk ds=true/\Dk es=true/\ds.length+es.length<=1000000/\P (.dat .ow (.list (ds++es)))):=rfl
theorem e_catT_w1{nds:List Int}{ds es:List Ad}{m m':Md}{P:DV->Prop}:bD (.dat m (Bv nds)) (.dat m' (.tuple es)) P=(Dk (nds.map By)=true/\Dk es=true/\(nds.map By).length+es.length<=1000000/\P (.dat .ow (.tuple ((nds.map By)++es)))):=rfl
theorem e_catS{i j:Str}{m m':Md}{P:DV->Prop}:cN (.dat m (.str i)) (.dat m' (.str j)) P=(i.length+j.length<=1000000/\P (.dat .ow (.str (i++j)))):=rfl
theorem e_ntT{m:Md}{ds:List Ad}{P:DV->Prop}:Zg true m ds P=(Dk ds=true/\P (.dat .ow (.tuple ds))):=rfl
theorem e_pkOfsh  : eO .sh=(Md.sh):=rfl
theorem e_pkOfow  : eO .ow=(Md.pk):=rfl
theorem e_mdInow  : Oc .ow=(Md.ow):=rfl
theorem e_mdItsh  : Kj .sh=(Md.sh):=rfl
theorem e_mdItow  : Kj .ow=(Md.sh):=rfl
theorem e_nil{δ:DS}{P:List DV->DS->Prop}:zO δ P=(P [] δ):=rfl
theorem e_cons{de:DE}{da:DA}{δ:DS}{P:List DV->DS->Prop}:xS de da δ P=(de δ λx δ1=>da δ1 λxs δ2=>P (x::xs) δ2):=rfl
theorem e_tup{da:DA}{δ:DS}{P:DV->DS->Prop}:C1 da δ P=(da δ λxs δ'=>tupB xs δ' P):=rfl
theorem e_lst{da:DA}{δ:DS}{P:DV->DS->Prop}:E6 da δ P=(da δ λxs δ'=>lstB xs δ' P):=rfl
theorem e_noPart{δ:DS}{P:Option Int->DS->Prop}:lX δ P=(P none δ):=rfl
theorem e_part{de:DE}{δ:DS}{P:Option Int->DS->Prop}:yH de δ P=(de δ λx δ'=>xY x δ' P):=rfl
theorem e_partB{m:Md}{i:Int}{δ:DS}{P:Option Int->DS->Prop}:xY (.dat m (.int i)) δ P=(P (some i) δ):=rfl
theorem e_sl{i:Bool}{de:DE}{dl dh:DO}{δ:DS}{P:DV->DS->Prop}:V6 i de dl dh δ P=(de δ λx δ1=>dl δ1 λl δ2=>dh δ2 λh δ3=>U7 i x l h δ3 P):=rfl
theorem e_slBt_w1{nds:List Int}{i:Bool}{m:Md}{ds:List Ad}{l h:Option Int}{δ:DS}{P:DV->DS->Prop}:U7 i (.dat m (Bv nds)) l h δ P=(Zg i m (Km (nds.map By) l h) λz=>P z δ):=rfl
theorem e_cb{rd:DC}{da:DA}{δ:DS}{P:DV->DS->Prop}:O6 rd da δ P=(da δ λxs δ1=>rd xs λz=>P z δ1):=rfl
theorem e_lenl{ds:List Ad}{m m':Md}{P:DV->Prop}:kS [.dat m (.list ds)] P=(P (.dat .ow (.int ds.length))):=rfl
theorem e_tuplel{i:Bool}{ds:List Ad}{m m':Md}{P:DV->Prop}:bZ i [.dat m (.list ds)] P=(Zg i m ds P):=rfl
theorem e_all{ds:List Ad}{m m':Md}{P:DV->Prop}:sU [.dat m (.list ds)] P=(∃bs:List Bool,ds=bs.map PyData.bool/\P (.dat .ow (.bool (bs.all id)))):=rfl
theorem e_isi{d:Ad}{n:String}{m m':Md}{P:DV->Prop}:sT [.dat m d,.val (.ty n)] P=((n = "int" \/ n = "bool" \/ n = "str" \/ n = "list" \/ n = "tuple")/\P (.dat .ow (.bool (Rl d n)))):=rfl
theorem e_str{d:Ad}{m m':Md}{P:DV->Prop}:qL [.dat m d] P=((∃b,b<=400/\Jh b d/\(b+12) * Gk d<=Aw)/\d.depth<=90/\P (.dat .ow (.str (Yb d)))):=rfl
theorem e_v{v:V}{δ:DS}{P:DV->DS->Prop}:dV v δ P=(P (.val v) δ):=rfl
theorem e_b{de:DE}{δ:DS}{P:Bool->DS->Prop}:dB de δ P=(de δ λx δ'=>bB x δ' P):=rfl
theorem e_bB{m:Md}{b:Bool}{δ:DS}{P:Bool->DS->Prop}:bB (.dat m (.bool b)) δ P=(P b δ):=rfl
theorem e_tru{de:DE}{δ:DS}{P:Bool->DS->Prop}:o4 de δ P=(de δ λx δ'=>E4 x δ' P):=rfl
theorem e_truB{m:Md}{d:Ad}{δ:DS}{P:Bool->DS->Prop}:E4 (.dat m d) δ P=(B7 d/\P (Zj d) δ):=rfl
theorem e_notT{dt:DT}{δ:DS}{P:Bool->DS->Prop}:xR dt δ P=(dt δ λb δ'=>P (!b) δ'):=rfl
theorem e_andT{dt du:DT}{δ:DS}{P:Bool->DS->Prop}:xF dt du δ P=(dt δ λb δ'=>zY du b δ' P):=rfl
theorem e_orT{dt du:DT}{δ:DS}{P:Bool->DS->Prop}:D0 dt du δ P=(dt δ λb δ'=>R6 du b δ' P):=rfl
theorem e_orTf{du:DT}{δ:DS}{P:Bool->DS->Prop}:R6 du false δ P=(du δ P):=rfl
theorem e_not{de:DE}{δ:DS}{P:DV->DS->Prop}:J4 de δ P=(de δ λx δ'=>E9 x δ' P):=rfl
theorem e_notB{m:Md}{b:Bool}{δ:DS}{P:DV->DS->Prop}:E9 (.dat m (.bool b)) δ P=(P (.dat .ow (.bool (!b))) δ):=rfl
theorem e_and{da db:DE}{δ:DS}{P:DV->DS->Prop}:J8 da db δ P=(da δ λx δ'=>C0 db x δ' P):=rfl
theorem e_andt{db:DE}{m:Md}{δ:DS}{P:DV->DS->Prop}:C0 db (.dat m (.bool true)) δ P=(db δ P):=rfl
theorem e_ifE{dt:DT}{da db:DE}{δ:DS}{P:DV->DS->Prop}:C6 dt da db δ P=(dt δ λb δ'=>U1 da db b δ' P):=rfl
theorem e_ifEt{da db:DE}{δ:DS}{P:DV->DS->Prop}:U1 da db true δ P=(da δ P):=rfl
theorem e_ifEf{da db:DE}{δ:DS}{P:DV->DS->Prop}:U1 da db false δ P=(db δ P):=rfl
theorem e_dL{de:DE}{δ:DS}{P:Md->List Ad->DS->Prop}:dL de δ P=(de δ λx δ'=>lB x δ' P):=rfl
theorem e_dTp{de:DE}{δ:DS}{P:Md->List Ad->DS->Prop}:V0 de δ P=(de δ λx δ'=>U6 x δ' P):=rfl
theorem e_lB{m:Md}{ds:List Ad}{δ:DS}{P:Md->List Ad->DS->Prop}:lB (.dat m (.list ds)) δ P=(P (Kj m) ds δ):=rfl
theorem e_tpB_w1{nds:List Int}{m:Md}{ds:List Ad}{δ:DS}{P:Md->List Ad->DS->Prop}:U6 (.dat m (Bv nds)) δ P=(P (Kj m) (nds.map By) δ):=rfl
theorem e_range1{da:DA}{δ:DS}{P:Md->List Ad->DS->Prop}:gE da δ P=(da δ λxs δ'=>yA xs δ' P):=rfl
theorem e_rng1B{m:Md}{j:Int}{δ:DS}{P:Md->List Ad->DS->Prop}:yA [.dat m (.int j)] δ P=(-1000000<=j/\j<=1000000/\P .sh ((Br j.toNat).map λi:Nat=>.int i) δ):=rfl
theorem e_for{di:DI}{dg:DG}{db:DB}{D:DEnds}{δ:DS}:M4 di dg db D δ=(di δ (L6 dg db D)):=rfl
theorem e_comp{di:DI}{js:List Nat}{dc:DT}{de:DE}{δ:DS}{P:DV->DS->Prop}:xT di js dc de δ P=(di δ (qW js dc de P)):=rfl
theorem e_comp2{di:DI}{js:List Nat}{dc:DT}{de:DE}{δ:DS}{P:DV->DS->Prop}:tR di js dc de δ P=(di δ (rZ js dc de P)):=rfl
theorem e_noTest{δ:DS}{P:Bool->DS->Prop}:cR δ P=(P true δ):=rfl
theorem e_step{dc:DT}{de:DE}{δ:DS}{yes:Ad->Nat->Prop}{no:Nat->Prop}:Np dc de δ yes no=(dc δ λb δ2=>yJ de yes no b δ2):=rfl
theorem e_stepT{de:DE}{δ:DS}{yes:Ad->Nat->Prop}{no:Nat->Prop}:yJ de yes no true δ=(de δ λy δ3=>n8 yes y δ3):=rfl
theorem e_yesB{m:Md}{e:Ad}{δ:DS}{yes:Ad->Nat->Prop}:n8 yes (.dat m e) δ=(imm e=true/\yes e δ.n):=rfl
theorem e_call{pf:PF}{da:DA}{δ:DS}{P:DV->DS->Prop}:sC pf da δ P=(da δ λxs δ1=>callB pf xs δ1 P):=rfl
theorem e_callW{i:Nat}{df:DF}{da:DA}{δ:DS}{P:DV->DS->Prop}:jL i df da δ P=(match δ.sl[i]? with | some .drw=>da δ λxs δ1=>callBW i df xs δ1 P | _=>False):=rfl
theorem e_draws{da:DA}{δ:DS}{P:DV->DS->Prop}:uA da δ P=(da δ λxs δ1=>sW xs δ1 P):=rfl
theorem e_drawsB{m:Md}{i:Int}{δ:DS}{P:DV->DS->Prop}:sW [.dat m (.int i)] δ P=(P .drw δ):=rfl
theorem e_append{i:Nat}{de:DE}{D:DEnds}{δ:DS}:dM i de D δ=(match δ.sl[i]? with | some (.dat _ (.list _))=>de δ λy δ1=>appB i y δ1 D | _=>False):=rfl
theorem e_setI{i:Nat}{dk de:DE}{D:DEnds}{δ:DS}:xG i dk de D δ=(de δ λy δ1=>match δ1.sl[i]? with | some (.dat _ (.list _))=>dk δ1 λz δ2=>setB i y z δ2 D | _=>False):=rfl
theorem e_appendO{i:Nat}{de:DE}{D:DEnds}{δ:DS}:Yu i de D δ=(match δ.sl[i]? with | some (.dat _ (.list _))=>de δ λy δ1=>appOB i y δ1 D | _=>False):=rfl
theorem e_scrSl{i:Nat}{dl dh:DO}{δ:DS}{P:DV->DS->Prop}:iP i dl dh δ P=(match δ.sl[i]? with | some (.scr ns)=>dl δ λl δ2=>dh δ2 λh δ3=>P (.dat .ow (.list ((Km ns l h).map By))) δ3 | _=>False):=rfl
theorem e_ssT{da:DA}{δ:DS}{P:DV->DS->Prop}:F9 da δ P=(da δ λxs δ1=>K5 xs δ1 P):=rfl
theorem e_ssTt{m:Md}{ds:List Ad}{δ:DS}{P:DV->DS->Prop}:K5 [.dat m (.tuple ds)] δ P=(∃ns:List Int,ds=ns.map By/\(∀x∈ns,0<=x/\x<60)/\P (.dat .ow (.list ((Xp ns).map By))) δ):=rfl
theorem e_tr{de:DE}{δ:DS}{P:DV->DS->Prop}:U3 de δ P=(de δ λx δ1=>P2 x δ1 P):=rfl
theorem e_trB{m:Md}{j:Int}{δ:DS}{P:DV->DS->Prop}:P2 (.dat m (.int j)) δ P=(0<=j/\j<=1000/\P (.dat .ow (Bv (oI j.toNat))) δ):=rfl
section
variable{t u:DB}{D:DEnds}{δ δ1:DS}
theorem cH{α:Type}{dg:DG}{db:DB}{ds:List Ad}{l:List α}{g:α->Ad}(e:ds=l.map g)(I:Nat->DS->Prop)(h0:I 0 δ1)(hs:∀i a δ',l[i]? = some a->I i δ'->dg (.dat .sh (g a)) δ' λδ2=>db { D with nx:=I (i+1),ct:=I (i+1),bk:=D.nx } δ2)(hf:∀δ',I l.length δ'->D.nx δ'):L6 dg db D .sh ds δ1:=by
 subst e
 refine ⟨rfl,I,h0,λi d δ' hd hI=>?_,λδ' h=>hf δ' (by rw[Ae] at h; exact h)⟩
 rw[Cf] at hd
 cases q:l[i]? with
 | none=>rw[q] at hd; cases hd
 | some a=>rw[q] at hd; cases hd; exact hs i a δ' q hI
end
section
variable{js:List Nat}{dc:DT}{de:DE}{P:DV->DS->Prop}{m:Md}{ds:List Ad}{δ1:DS}{α:Type}
theorem C4{l:List α}{g:α->Ad}(e:ds=l.map g)(p:α->Bool)(f:α->Ad)(h:∀a∈l,∀(yes:Ad->Nat->Prop) (no:Nat->Prop),(p a=true->yes (f a) δ1.n)->(p a=false->no δ1.n)->Np dc de ⟨.dat m (g a)::frD δ1.sl js,δ1.n⟩ yes no)(q:P (.dat .ow (.list ((l.filter p).map f))) δ1):qW js dc de P m ds δ1:=by
 subst e
 refine ⟨λi acc n=>n=δ1.n/\acc=((l.take i).filter p).map f,⟨rfl,by simp⟩,λi d acc n hd ⟨hn,ha⟩=>?_,λacc n ⟨hn,ha⟩=>?_⟩
 ·subst hn ha
  rw[Cf] at hd
  cases q:l[i]? with
  | none=>rw[q] at hd; cases hd
  | some a =>
   rw[q] at hd
   cases hd
   refine h a (Be q) _ _ (λhp=>⟨rfl,?_⟩) (λhp=>⟨rfl,?_⟩)
   ·rw[Qj q,Mz,Cm]; simp [hp]
   ·rw[Qj q,Mz,Cm]; simp [hp]
 ·subst hn ha
  rw[Ae,Ie]
  exact q
theorem Uz{l:List α}{g:α->Ad}(e:ds=l.map g)(f:α->Ad)(h:∀a∈l,∀(yes:Ad->Nat->Prop) (no:Nat->Prop),yes (f a) δ1.n->Np dc de ⟨.dat m (g a)::frD δ1.sl js,δ1.n⟩ yes no)(q:P (.dat .ow (.list (l.map f))) δ1):qW js dc de P m ds δ1:=by
 refine C4 e (λ_=>true) f (λa ha yes no hy _=>h a ha yes no (hy rfl)) ?_
 rw[Tn.mpr λ_ _=>rfl]
 exact q
theorem rU{l:List α}{g1 g2:α->Ad}(e:ds=l.map λa=>.tuple [g1 a,g2 a])(p:α->Bool)(f:α->Ad)(h:∀a∈l,∀(yes:Ad->Nat->Prop) (no:Nat->Prop),(p a=true->yes (f a) δ1.n)->(p a=false->no δ1.n)->Np dc de ⟨.dat m (g1 a)::.dat m (g2 a)::frD δ1.sl js,δ1.n⟩ yes no)(q:P (.dat .ow (.list ((l.filter p).map f))) δ1):rZ js dc de P m ds δ1:=by
 subst e
 refine ⟨λi acc n=>n=δ1.n/\acc=((l.take i).filter p).map f,⟨rfl,by simp⟩,λi d acc n hd ⟨hn,ha⟩=>?_,λacc n ⟨hn,ha⟩=>?_⟩
 ·subst hn ha
  rw[Cf] at hd
  cases q:l[i]? with
  | none=>rw[q] at hd; cases hd
  | some a =>
   rw[q] at hd
   cases hd
   refine ⟨_,_,rfl,h a (Be q) _ _ (λhp=>⟨rfl,?_⟩) (λhp=>⟨rfl,?_⟩)⟩
   ·rw[Qj q,Mz,Cm]; simp [hp]
   ·rw[Qj q,Mz,Cm]; simp [hp]
 ·subst hn ha
  rw[Ae,Ie]
  exact q
end
theorem Ve{t u:DB}{D:DEnds}{b:Bool}{δ:DS}(h1:b=true->t D δ)(h2:b=false->u D δ):yZ t u D b δ:=by
 cases b with
 | true=>exact h1 rfl
 | false=>exact h2 rfl
theorem uC{du:DT}{b:Bool}{δ:DS}{P:Bool->DS->Prop}(h1:b=true->du δ P)(h2:b=false->P false δ):zY du b δ P:=by
 cases b with
 | true=>exact h1 rfl
 | false=>exact h2 rfl
theorem F5{du:DT}{b:Bool}{δ:DS}{P:Bool->DS->Prop}(h1:b=true->P true δ)(h2:b=false->du δ P):R6 du b δ P:=by
 cases b with
 | true=>exact h1 rfl
 | false=>exact h2 rfl
class Im (d:Ad):Prop where
 h:imm d=true
class ImA (ds:List Ad):Prop where
 h:Dk ds=true
theorem im{d:Ad}[h:Im d]:imm d=true:=h.h
theorem W8{ds:List Ad}[h:ImA ds]:Dk ds=true:=h.h
instance {i:Int}:Im (.int i):=⟨by simp [imm]⟩
instance {i:Bool}:Im (.bool i):=⟨by simp [imm]⟩
instance {i:Str}:Im (.str i):=⟨by simp [imm]⟩
instance:Im .none:=⟨by simp [imm]⟩
instance {ds:List Ad} [h:ImA ds]:Im (.tuple ds):=⟨by rw[imm]; exact h.h⟩
instance {ns:List Int}:Im (Bv ns):=⟨qB ns⟩
instance:ImA []:=⟨by simp [Dk]⟩
instance {d:Ad} {ds:List Ad} [h:Im d] [t:ImA ds]:ImA (d::ds):=⟨by rw[Dk,h.h,t.h]; rfl⟩
instance {α:Type} {f:α->Ad} {l:List α} [h:∀a,Im (f a)]:ImA (l.map f):=⟨Ly (λa=>(h a).h) l⟩
instance {a b:List Ad} [h:ImA a] [k:ImA b]:ImA (a++b):=⟨by rw[Wn,h.h,k.h]; rfl⟩
class Dp (d:Ad) (k:outParam Nat):Prop where
 h:d.depth<=k
class DpA (ds:List Ad) (k:outParam Nat):Prop where
 h:Bb ds<=k
theorem dp{d:Ad}{k:Nat}[h:Dp d k](hk:k<=60:=by decide):d.depth<=60:=Bm h.h hk
instance {i:Int}:Dp (.int i) 0:=⟨by simp [Cg]⟩
instance {i:Bool}:Dp (.bool i) 0:=⟨by simp [Cg]⟩
instance {i:Str}:Dp (.str i) 0:=⟨by simp [Cg]⟩
instance:Dp .none 0:=⟨by simp [Cg]⟩
instance {ds:List Ad} {k:Nat} [h:DpA ds k]:Dp (.tuple ds) (k+1):=⟨by have:=h.h; simp only[Cg]; omega⟩
instance {ds:List Ad} {k:Nat} [h:DpA ds k]:Dp (.list ds) (k+1):=⟨by have:=h.h; simp only[Cg]; omega⟩
instance {ns:List Int}:Dp (Bv ns) 1:=⟨Yp ns⟩
instance:DpA [] 0:=⟨by simp [Bb]⟩
instance {d:Ad} {ds:List Ad} {k j:Nat} [h:Dp d k] [t:DpA ds j]:DpA (d::ds) (k+j):=⟨by have:=h.h; have:=t.h; simp only[Bb]; omega⟩
instance {α:Type} {f:α->Ad} {l:List α} {k:Nat} [h:∀a,Dp (f a) k]:DpA (l.map f) k:=⟨Vd λx hx=>by
 obtain ⟨a,_,rfl⟩:=Bh.mp hx
 exact (h a).h⟩
theorem cY{a b:List Ad}:Bb (a++b)<=Bb a+Bb b:=by
 induction a with
 | nil=>simp [Bb]
 | cons x a ih=>simp only[Ew,Bb]; omega
instance {a b:List Ad} {k j:Nat} [h:DpA a k] [t:DpA b j]:DpA (a++b) (k+j):=⟨by have:=h.h; have:=t.h; have:=cY (a:=a) (b:=b); omega⟩
theorem eqD_str(i j:Str):Dh (.str i) (.str j)=(i == j):=by simp [Dh]
theorem pM(a b:List Ad):Dh (.list a) (.list b)=Ir a b:=by simp [Dh]
theorem mD(a b:List Ad):Dh (.tuple a) (.tuple b)=Ir a b:=by simp [Dh]
theorem Ua(x y:Ad)(a b:List Ad):Ir (x::a) (y::b)=(Dh x y && Ir a b):=by simp [Ir]
theorem Xv{α:Type}[DecidableEq α]{f:α->Ad}(h:∀a b,Dh (f a) (f b)=decide (a=b)):∀l m:List α,Ir (l.map f) (m.map f)=decide (l=m)
 | [],[]=>by simp [Ir]
 | [],_::_=>by simp [Ir]
 | _::_,[]=>by simp [Ir]
 | a::l,b::m=>by simp [Ir,h,Xv h l m]
theorem eqD_intd(i j:Int):Dh (.int i) (.int j)=decide (i=j):=by simp [Dh]; rfl
theorem eqD_word(a b:List Int):Dh (Bv a) (Bv b)=decide (a=b):=by
 unfold Bv
 rw[mD,Xv eqD_intd]
def zN(ws:List (List Int)):Ad:=.list (ws.map Bv)
instance {ws:List (List Int)}:Dp (zN ws) 2:=⟨(inferInstance:Dp (.list (ws.map Bv)) 2).h⟩
def F8(ns:List Int):Ad:=.list (ns.map By)
instance {ns:List Int}:Dp (F8 ns) 1:=⟨(inferInstance:Dp (.list (ns.map By)) 1).h⟩
theorem O4(ns:List Int)(i:Int):((ns.map By).any λe=>Dh e (.int i))=decide (i∈ns):=by
 rw[List.any_map]
 induction ns with
 | nil=>rfl
 | cons n ns ih =>
  rw[Tq,ih]
  simp only[Rj,eqD_intd,Ai]
  by_cases h:n=i
  ·subst h; simp
  ·have : ¬ i=n:=λz=>h z.symm
   simp [h,this]
theorem any_map{α:Type}[DecidableEq α]{f:α->Ad}(h:∀a b,Dh (f a) (f b)=decide (a=b))(l:List α)(a:α):((l.map f).any λe=>Dh e (f a))=decide (a∈l):=by
 rw[List.any_map]
 induction l with
 | nil=>rfl
 | cons n ns ih =>
  rw[Tq,ih]
  simp only[Rj,h,Ai]
  by_cases h:n=a
  ·subst h; simp
  ·have : ¬ a=n:=λz=>h z.symm
   simp [h,this]
theorem any_word(ws:List (List Int))(a:List Int):((ws.map Bv).any λe=>Dh e (Bv a))=decide (a∈ws):=(any_map eqD_word ws a).trans (decide_eq_decide.mpr Iff.rfl)
theorem vV{α β:Type}(f:α->β)(l:List α)(i:Int):Sm (l.map f) i=(Sm l i).map f:=by
 unfold Sm
 rw[Ae]
 cases pE l.length i with
 | none=>rfl
 | some j=>simp
theorem gA{α:Type}{l:List α}{i:Int}(h0:0<=i)(h1:i<l.length):∃a,l[i.toNat]? = some a/\Sm l i=some a/\a∈l:=by
 have hk:i.toNat<l.length:=by omega
 refine ⟨l[i.toNat],by simp [hk],?_,Os hk⟩
 have q:Sm l ((i.toNat:Nat):Int)=some l[i.toNat]:=dQ (by simp [hk])
 rwa [show ((i.toNat:Nat):Int)=i by omega] at q
theorem im_e{d:Ad}[h:Im d]:(imm d=true)=True:=eq_true h.h
theorem ima_e{ds:List Ad}[h:ImA ds]:(Dk ds=true)=True:=eq_true h.h
theorem dp_e{d:Ad}{k:Nat}[h:Dp d k](hk:k<=60):(d.depth<=60)=True:=eq_true (Bm h.h hk)
theorem dpa_e{ds:List Ad}{k:Nat}[h:DpA ds k](hk:k<=60):(Bb ds<=60)=True:=eq_true (Bm h.h hk)
theorem eqD_l0(a:List Ad):Dh (.list a) (.list [])=a.isEmpty:=wI a
theorem ow_e{d:Ad}{R:Ad->Prop}:(∃e,DV.dat .ow d=.dat .ow e/\R e)=R d:=by
 apply propext
 constructor
 ·(intro q_; obtain ⟨e,h,r⟩ := q_); cases h; exact r
 ·intro r; exact ⟨d,rfl,r⟩
theorem tt_e{m:Md}{b:Bool}:(∃m',DV.dat m (.bool b)=.dat m' (.bool true))=(b=true):=by
 apply propext
 constructor
 ·rintro ⟨e,h⟩; cases h; rfl
 ·intro r; subst r; exact ⟨m,rfl⟩
theorem cdiv_e{i j:Int}:x5 i j=(0<j/\j<1073741824):=rfl
theorem pV{t u:DB}{D:DEnds}{b:Bool}{δ:DS}(J:DS->Prop)(h:∀N:DS->Prop,(∀δ',J δ'->N δ')->yZ t u { D with nx:=N } b δ)(k:∀δ',J δ'->D.nx δ'):yZ t u D b δ:=h D.nx k
theorem gJ{sl sl':List DV}{n n':Nat}(h:sl=sl')(h':n=n'):(⟨sl,n⟩ : DS)=⟨sl',n'⟩:=by subst h h'; rfl
theorem Sz{j i a:Nat}(h:(Br j)[i]? = some a):a=i/\i<j:=by
 obtain ⟨h1,h2⟩:=Aq.mp h
 rw[De] at h1
 rw[List.getElem_range] at h2
 exact ⟨h2.symm,h1⟩
def NP(v:DV):Prop:=∀l,npk (v::l)=npk l
theorem Mj:NP .un:=λ_=>rfl
theorem Jo{d:Ad}:NP (.dat .sh d):=λ_=>rfl
theorem u5:NP .drw:=λ_=>rfl
theorem G8{t u:DB}{D:DEnds}(X:(Bool->DS->Prop)->Prop)(J:DS->Prop)(h:∀N:DS->Prop,(∀δ',J δ'->N δ')->X (yZ t u { D with nx:=N }))(k:∀δ',J δ'->D.nx δ'):X (yZ t u D):=h D.nx k
theorem fold_w(w:List Int):PyData.tuple (List.map By w)=Bv w:=rfl
theorem isi_li(ds:List Ad):Rl (.list ds) "list" = true:=by simp [Rl,uJ]
theorem isi_tt(ds:List Ad):Rl (.tuple ds) "tuple" = true:=by simp [Rl,uJ]
theorem isi_ib(i:Int):Rl (.int i) "bool" = false:=by simp [Rl,uJ]
theorem isi_ii(i:Int):Rl (.int i) "int" = true:=by simp [Rl,uJ]
theorem isi_wt(w:List Int):Rl (Bv w) "tuple" = true:=isi_tt _
theorem aN{ws:List (List Int)}{i:Int}(h0:0<=i)(h1:i<ws.length):∃w∈ws,Sm (ws.map Bv) i=some (Bv w):=by
 obtain ⟨w,_,e2,e3⟩:=gA (l:=ws) h0 h1
 exact ⟨w,e3,by rw[vV,e2]; rfl⟩
theorem E8{ns:List Int}(k:Nat):(Km ns none (some (k:Int))).length<=k:=by
 rw[oP,Ig]
 exact Nat.min_le_left _ _
theorem ifB_lt{t u:DB}{D:DEnds}{δ:DS}:yZ t u D true δ=t D δ:=rfl
theorem ifB_lf{t u:DB}{D:DEnds}{δ:DS}:yZ t u D false δ=u D δ:=rfl
theorem isi_ss(i:Str):Rl (.str i) "str" = true:=by simp [Rl,uJ]
theorem str_self(s:Str):(s == s)=true:=by simp
theorem lO{α:Type}{l:List α}{i:Nat}{a:α}(h:l[i]? = some a):Sm l (i:Int)=some a:=by
 obtain ⟨b,e1,e2,_⟩:=gA (l:=l) (i:=(i:Int)) (by omega) (by have:=(Aq.mp h).1; omega)
 rw[e2,<- e1,<- h]; rfl
theorem okT_l{ds:List Ad}:B7 (.list ds)=True:=rfl
theorem okT_w{w:List Int}:B7 (Bv w)=True:=rfl
theorem tU{α:Type}(x:α)(l:List α):Sm (x::l) 0=some x:=lO (i:=0) rfl
theorem sO{α:Type}(x y:α)(l:List α):Sm (x::y::l) 1=some y:=lO (i:=1) rfl
theorem xX{α:Type}(x y z:α)(l:List α):Sm (x::y::z::l) 2=some z:=lO (i:=2) rfl
theorem yR{α:Type}(x y z t:α)(l:List α):Sm (x::y::z::t::l) 3=some t:=lO (i:=3) rfl
theorem dec_self{α:Type}(a:α)[h:Decidable (a=a)]:decide (a=a)=true:=by simp
theorem isE_cons{α:Type}(a:α)(l:List α):(a::l).isEmpty=false:=rfl
theorem ow_npk:(Md.ow≠Md.pk)=True:=eq_true (by decide)
end DL
namespace K81
open PySem L2 Nd DL
def top(i:Nat):Stmt:=PySem.Challenge.pw_needledeck_k81_shown_and_read.main.body.getD i (.Pass ⟨0,0,0,0⟩)
abbrev Rx:Stmt:=top 4
abbrev Us:Stmt:=top 5
abbrev Iv:Stmt:=top 9
abbrev Mk:Stmt:=top 10
abbrev Pe:Stmt:=top 11
abbrev Oa:Stmt:=top 12
abbrev Nx:Stmt:=top 13
abbrev Kf:Stmt:=top 14
abbrev Mq:Stmt:=top 15
abbrev Rm:Stmt:=top 16
abbrev Mg:Stmt:=top 17
abbrev Pq:Stmt:=top 18
abbrev Of:Stmt:=top 19
abbrev Pa:Stmt:=top 20
abbrev bJ:Stmt:=top 22
abbrev lP:Stmt:=top 23
abbrev Pm:Stmt:=top 24
abbrev Ro:Stmt:=top 25
abbrev Pd:Stmt:=top 26
abbrev Ph:Stmt:=top 27
abbrev Fk:Stmt:=top 28
abbrev Ht:Stmt:=top 29
abbrev Ik:Stmt:=top 30
abbrev Jf:Stmt:=top 31
abbrev Xl:Stmt:=top 32
section
variable{P:Bu}{w:World}{K:PySem.W.Frag}{mg:Str->Option Value}{base:Heap}
theorem W3:FnScope ["_law_cell"] ["_law_cell"] (Bo bJ):=⟨rfl,rfl,rfl,by decide +kernel,rfl,by decide +kernel,by decide +kernel⟩
theorem qF{f:Addr}{fd:Cb}(F:Fun K "_law_draws" "_law_draws" bJ f fd):FnOk P w K mg base Fd 1 f fd ["_law_cell"] kE:=by
 refine F.ok W3 (λvs H Q E h=>?_) (λcdv A outer s H vs Q E hr h=>?_)
 ·obtain ⟨c,rfl,_⟩:=h
  rfl
 obtain ⟨c,rfl,q⟩:=h
 refine ⟨_,Qb (Ym (qU (Fh (pv 0) (Fh Ey (Fh (mL yI (pv 0) (Iu jB Ey Ey) (Ul _)) Jd))))),?_⟩
 refine ⟨_,rfl,_,rfl,10,18,rfl,rfl,⟨by decide,by decide,by decide⟩,_,_,rfl,rfl,(by show 3<=Aw; decide),λp hp=>?_⟩
 exact q p _ _ hp Dt (Fu hp _)
theorem W6:FnScope ["_law_draws_here", "_law_k", "_law_number"] ["_law_draws_here"] (Bo lP):=⟨rfl,rfl,rfl,by decide +kernel,rfl,by decide +kernel,by decide +kernel⟩
theorem wC{f:Addr}{fd:Cb}(F:Fun K "_law_next" "_law_next" lP f fd):FnOk P w K mg base Fd 1 f fd ["_law_draws_here"] sJ:=by
 refine F.ok W6 (λvs H Q E h=>?_) (λcdv A outer s H vs Q E hr h=>?_)
 ·obtain ⟨d,c,k,fl,rfl,_⟩:=h
  rfl
 obtain ⟨d,c,k,fl,rfl,hd,h0,h1,q⟩:=h
 refine ⟨_,Je (aZ (Iu Wt (Yl Qm (pv 0) Ey (λ_ _=>rfl)) Ey) (iZ (pv 0) Ey Yk))
  (Je (Uu (i:=1) W6.nd rfl (Cz rfl) (Yl Qm (pv 0) Ey (λ_ _=>rfl)))
  (Je (qZ (jA (Yl Qm (pv 0) Ey (λ_ _=>rfl)))
   (Je (Uu (i:=2) W6.nd rfl (Cz rfl) (Iu Uk (Yl Qm (pv 0) Ey (λ_ _=>rfl)) (Iu jB Ey Ey)))
    (Je (aZ (Iu bT (Yl Qm (pv 0) Ey (λ_ _=>rfl)) (Iu jB Ey Ey)) (iZ (pv 0) Ey Yk))
    (Qb (Ym (pv 2))))) bK)
  (Je (Uu (i:=2) W6.nd rfl (Cz rfl) (Iu Uk (Iu Yo (Iu Wt (Iu Wt (Iu Uk (Yl Qm (pv 0) Ey (λ_ _=>rfl)) Ey) (Iu Yo (Iu Yo (pv 1) (pv 1)) Ey)) (pv 1)) Ey) Ey))
  (Je (Uu (i:=2) W6.nd rfl (Cz rfl) (Iu Uk (Iu Yo (pv 2) (pv 2)) Ey))
  (Qb (Ym (Iu bT (Iu Uk (Iu Yo (pv 2) (Iu Wt (pv 2) Ey)) Ey) Ey))))))),?_⟩
 -- draws[1]=draws[1]+1
 refine ⟨_,rfl,d,_,1,_,rfl,rfl,Oy.of hd,rfl,_,_,rfl,rfl,_,rfl,d,_,1,1,rfl,rfl,hd,rfl,?_⟩
 have e1:(upd H d (.lst ([V.int c,V.int k,V.bl fl].set 1 (V.int (k+1))))) d=some (.lst [.int c,.int (k+1),.bl fl]):=Dt
 generalize hH1:upd H d (.lst ([V.int c,V.int k,V.bl fl].set 1 (V.int (k+1))))=H1 at e1
 have s1:Vf d H H1:=by rw[<- hH1]; exact Vf.upd
 -- k=draws[1]; if draws[2]
 refine ⟨_,rfl,d,_,1,_,rfl,rfl,Oy.of e1,rfl,_,rfl,d,_,2,_,rfl,rfl,Oy.of e1,rfl,_,rfl,?_⟩
 refine R5 (λ_=>?_) (λ_=>?_)
 ·refine ⟨_,rfl,d,_,0,_,rfl,rfl,Oy.of e1,rfl,10,6,rfl,rfl,⟨by decide,by decide,by decide⟩,_,_,rfl,rfl,(by show (0:Int)<10 ^ (6:Int).toNat; decide),?_⟩
  refine ⟨_,rfl,d,_,0,_,rfl,rfl,Oy.of e1,rfl,10,6,rfl,rfl,⟨by decide,by decide,by decide⟩,_,_,rfl,rfl,⟨by decide,by decide⟩,_,rfl,d,_,0,0,rfl,rfl,e1,rfl,_,rfl,?_⟩
  exact q _ _ _ Dt (s1.trans Vf.upd)
 ·have m1:=Vv c 1000003 (by decide)
  have b1:=Vv ((c % 1000003+(k+1) * (k+1) * 7919+(k+1)) * 48271) 2147483629 (by decide)
  refine ⟨_,rfl,d,_,0,_,rfl,rfl,Oy.of e1,rfl,_,_,rfl,rfl,(by show (0:Int)<1000003; decide),_,rfl,_,rfl,_,_,rfl,rfl,.inl ⟨by omega,by omega⟩,_,_,rfl,rfl,.inr ⟨by decide,by decide⟩,_,_,rfl,rfl,_,rfl,_,_,rfl,rfl,
   _,_,rfl,rfl,.inr ⟨by decide,by decide⟩,_,_,rfl,rfl,(by show (0:Int)<2147483629; decide),?_⟩
  generalize ((c % 1000003+(k+1) * (k+1) * 7919+(k+1)) * 48271) % 2147483629=x at b1
  have b2:=Vv (x * x) 2147483587 (by decide)
  refine ⟨_,rfl,_,rfl,_,_,rfl,rfl,.inl ⟨by omega,by omega⟩,_,_,rfl,rfl,(by show (0:Int)<2147483587; decide),?_⟩
  generalize (x * x) % 2147483587=y at b2
  refine ⟨_,rfl,_,rfl,_,_,rfl,rfl,_,_,rfl,rfl,.inl ⟨by omega,by omega⟩,_,_,rfl,rfl,(by show (0:Int)<2147483579; decide),_,_,rfl,rfl,⟨by decide,by decide⟩,?_⟩
  exact q _ _ _ e1 s1
theorem oJ{f:Addr}{fd:Cb}(F:Fun K "_law_draws" "_law_draws" bJ f fd):FnOk P w K mg base Fd 1 f fd ["_law_cell"] Ta:=rD (qF F)
theorem qI{f:Addr}{fd:Cb}(F:Fun K "_law_next" "_law_next" lP f fd):FnOk P w K mg base Fd 1 f fd ["_law_draws_here"] (Zn K Rp):=wV (wC F)
end
end K81
namespace DL
open PySem PySem.Spec PyProof.Rows L2 Nd
end DL
namespace Nd
open PySem PySem.Spec PyProof.Rows L2
section
variable{X:Cx}
theorem gT:∀{ss:List Str} {its:List Value},Ek (ss.map V.str) its->∃l:List (Str×Tok),l.map (·.1)=ss/\its=strValues l
 | [],_,.nil=>⟨[],rfl,rfl⟩
 | s::ss,_,.cons r t=>by
  obtain ⟨l,e1,e2⟩:=gT t
  obtain ⟨k,rfl⟩:=r
  exact ⟨(s,k)::l,by rw[Au,e1],by rw[e2]; rfl⟩
theorem fL(sep:Str):∀(ss:List Str) (n:Nat),List.foldl (λa x=>a+x.length+sep.length) n ss=n+(ss.map λx=>x.length+sep.length).sum
 | [],n=>by simp
 | s::ss,n=>by rw[Mb,fL sep ss,Au,Tp]; omega
theorem mC(k:Nat):∀ss:List Str,(ss.map λx=>x.length+k).sum=(ss.map λx=>x.length).sum+ss.length * k
 | []=>by simp
 | s::ss=>by
  rw[Au,Tp,mC k ss,Au,Tp,Bq,Nat.succ_mul]
  omega
theorem Td(sep:Str)(ss:List Str):(Bk sep ss).length<=(ss.map λx=>x.length+sep.length).sum:=by
 rw[size_glued,mC]
 exact Nat.add_le_add_left (Nat.mul_le_mul_right _ (Nat.sub_le _ _)) _
def O1(K:PySem.W.Frag):V->List V->Hp->VK->Prop:=λx vs H Q=>∃sep a ss,x=.str sep/\vs=[.ref a]/\Oy K H a (ss.map V.str)/\(ss.map λx=>x.length+sep.length).sum<=Aw/\Q (.str (Bk sep ss)) H
theorem wK:M6 X "str.join" (O1 X.K):=by
 intro pins s σ H x vs v us Q I rx rv h
 obtain ⟨sep,a,ss,rfl,rfl,hq,hz,q⟩:=h
 obtain ⟨t,rfl⟩:=rx
 obtain ⟨u,rfl,ru⟩:=rv.one
 cases ru
 obtain ⟨its,r,pl,hl⟩:=I.list hq
 obtain ⟨l,e1,rfl⟩:=gT r
 refine On F.slot_str_join rfl F.entry_str_join (F.args_str_join_2 _ _) (meets_str_join_list sep t a l ?_) ⟨pl.isList,?_⟩
 ·rw[List.foldl_toArray,e1,fL]
  unfold Builtin.Str.tooLong
  exact decide_eq_false (by omega)
 ·match l,e1 with
  | [p],e1 =>
   subst e1
   exact ⟨.str p.1,H,I,⟨_,rfl⟩,q⟩
  | [],e1 =>
   subst e1
   exact ⟨Bm (Td _ _) hz,.str _,H,I.tok _,⟨_,rfl⟩,q⟩
  | p::p2::l,e1 =>
   subst e1
   exact ⟨Bm (Td _ _) hz,.str _,H,I.tok _,⟨_,rfl⟩,q⟩
def zF:V->List V->Hp->VK->Prop:=λx vs H Q=>∃z y,x=.str z/\vs=[.str y]/\z.length<=100000/\(∀c∈z.cps.toList,c<256)/\y.length=1/\(∀c∈y.cps.toList,c<256) /\
 ∀p,H p=none->Q (.ref p) (upd H p (.lst ((Dl z (Bf z y 0 z.length (z.length+1)) y.length).map V.str)))
theorem Zy:∀(k:Nat) (l:List Str),Ek (l.map V.str) (strsFrom k l)
 | _,[]=>.nil
 | k,s::l=>.cons ⟨_,rfl⟩ (Zy _ l)
theorem sQ(z:Str)(w:Nat):Dl z [] w=[z]:=by
 rw[Nc]
 simp [Cn,Ex]
theorem rP:M6 X "str.split" zF:=by
 intro pins s σ H x vs v us Q I rx rv h
 obtain ⟨z,y,rfl,rfl,hz,hk,hy,hk2,q⟩:=h
 obtain ⟨t,rfl⟩:=rx
 obtain ⟨u,rfl,ru⟩:=rv.one
 obtain ⟨t2,rfl⟩:=ru
 have hf:H s.heap.objs.size=none:=I.hok.fresh (Ah _)
 have kind:∀c:Str,(∀i∈c.cps.toList,i<256)->Kr c=1:=λc hc=>by
  unfold Kr
  rw[if_pos]
  rw[Array.all_eq_true']
  exact λi hi=>decide_eq_true (hc i (by simpa using hi))
 have hl:z.length<=Aw:=Bm hz (Yw (by decide))
 have lo:=StrLaws.occ_length_le z y 0 z.length (z.length+1)
 by_cases he:(Bf z y 0 z.length (z.length+1)).isEmpty=true
 ·have e0:Bf z y 0 z.length (z.length+1)=[]:=List.isEmpty_iff.mp he
  rw[e0,sQ] at q
  by_cases hc:(decide (z.length<y.length) || decide (Kr z<Kr y))=true
  ·refine On aW rfl Yz (Wh _ _) (meets_str_split_cannot_occur z y t t2 hc) ?_
   exact ⟨.ref s.heap.objs.size,upd H s.heap.objs.size (.lst [.str z]),I.laid (t':=_) (λb u e=>Ag _ e) (Ah _) ⟨sz (by simp),_,0,.cons ⟨_,rfl⟩ .nil,Ay _ rfl⟩,rfl,q _ hf⟩
  ·refine On aW rfl Yz (Wh _ _) (meets_str_split_not_found z y t t2 (Vs.mpr hc) (by rw[hy]; rfl) he) ?_
   exact ⟨.ref s.heap.objs.size,upd H s.heap.objs.size (.lst [.str z]),I.laid (t':=_) (λb u e=>Ag _ e) (Ah _) ⟨sz (by simp),_,0,.cons ⟨_,rfl⟩ .nil,Ay _ rfl⟩,rfl,q _ hf⟩
 ·have hne:Bf z y 0 z.length (z.length+1)≠[]:=λe=>he (by rw[e]; rfl)
  have hlt:y.length<=z.length:=by
   cases ho:Bf z y 0 z.length (z.length+1) with
   | nil=>exact absurd ho hne
   | cons i r =>
    have:=(StrLaws.occ_spec z y 0 z.length (z.length+1) i (by rw[ho]; exact Aa)).1
    omega
  have lp:(Dl z (Bf z y 0 z.length (z.length+1)) y.length).length<=Aw:=by
   rw[length_partsBetween]
   exact Bm (show _<=100002 by omega) (Yw (by decide))
  refine On aW rfl Yz (Wh _ _) (meets_str_split_sep z y t t2 (by rw[kind z hk,kind y hk2]; simp; omega) (by rw[hy]; rfl) (Vs.mpr he) hl lp) ?_
  exact ⟨.ref s.heap.objs.size,upd H s.heap.objs.size (.lst ((Dl z (Bf z y 0 z.length (z.length+1)) y.length).map V.str)),I.laid (t':=_) (λb u e=>Ag _ e) (Ah _) ⟨by rw[Ae]; exact lp,_,0,Zy _ _,Ay _ rfl⟩,rfl,q _ hf⟩
def Sy(z y:Str):List Str:=match Bf z y 0 z.length 1 with
 | i::_=>[Cn z 0 i,y,Cn z (i+y.length) z.length]
 | []=>[z,Str.empty,Str.empty]
def C8:V->List V->Hp->VK->Prop:=λx vs H Q=>∃z y,x=.str z/\vs=[.str y]/\z.length<=100000/\y.length=1/\∀p,H p=none->Q (.ref p) (upd H p (.tup ((Sy z y).map V.str)))
theorem bX:M6 X "str.partition" C8:=by
 intro pins s σ H x vs v us Q I rx rv h
 obtain ⟨z,y,rfl,rfl,hz,hy,q⟩:=h
 obtain ⟨t,rfl⟩:=rx
 obtain ⟨u,rfl,ru⟩:=rv.one
 obtain ⟨t2,rfl⟩:=ru
 have hf:H s.heap.objs.size=none:=I.hok.fresh (Ah _)
 refine On F.slot_str_partition rfl F.entry_str_partition (F.args_str_partition_2 _ _) (meets_str_partition z y t t2 (by rw[hy]; rfl) (Bm hz (Yw (by decide)))) ?_
 have q':=q _ hf
 unfold Sy at q'
 cases e:Bf z y 0 z.length 1 with
 | nil =>
  rw[e] at q'
  exact ⟨.ref s.heap.objs.size,upd H s.heap.objs.size (.tup [.str z,.str Str.empty,.str Str.empty]),I.laid (t':=_) (λb u e=>Ag _ e) (Ah _) ⟨sz (by simp),_,.cons ⟨_,rfl⟩ (.cons ⟨_,rfl⟩ (.cons ⟨_,rfl⟩ .nil)),⟨_,Ay _ rfl,rfl,_,rfl⟩⟩,rfl,q'⟩
 | cons i r =>
  rw[e] at q'
  exact ⟨.ref s.heap.objs.size,upd H s.heap.objs.size (.tup [.str (Cn z 0 i),.str y,.str (Cn z (i+y.length) z.length)]),I.laid (t':=_) (λb u e=>Ag _ e) (Ah _) ⟨sz (by simp),_,.cons ⟨_,rfl⟩ (.cons ⟨_,rfl⟩ (.cons ⟨_,rfl⟩ .nil)),⟨_,Ay _ rfl,rfl,_,rfl⟩⟩,rfl,q'⟩
theorem mX:Jn X (.type "int") (λxs H Q=>∃z n,xs=[.str z]/\intText? z=some n/\z.length<=640/\Q (.int n) H):=by
 intro pins s σ H xs us Q I r h
 obtain ⟨z,n,rfl,hn,hl,q⟩:=h
 obtain ⟨u,rfl,t,rfl⟩:=vals1 r
 exact PySem.W.KIN.call_text hn hl ⟨.int n,H,I.tok _,⟨_,rfl⟩,q⟩
end
def Ju(z:Str):Prop:=∀c∈z.cps.toList,c<128
def Q8(z:Str):It:=⟨λi _=>i<z.cps.size,λi H x H'=>H'=H/\∃c,z.cps[i]? = some c/\x=.str ⟨#[c]⟩,λi _=>z.cps.size<=i⟩
theorem sH{P:Bu}{w:World}{K:PySem.W.Frag}{tg:Expr}(z:Str)(t:Tok)(it:Addr):Turn P w K tg (Q8 z) [it] it (λi h=>h.IsStrIter it "str_ascii_iterator" z t i) where
 mem:=by simp
 obj:=λi h st b hb=>by
  have e:b=it:=by simpa using hb
  subst e
  obtain ⟨o,e,c,d⟩:=st
  exact ⟨o,e,λv z=>by rw[d] at z; cases z⟩
 keep:=λi h h' st k=>by
  obtain ⟨o,e,c,d⟩:=st
  exact ⟨o,k it (by simp) o e,c,d⟩
 item:=by
  intro X hP hw hK hc i pins s σ H E I hf st hg
  subst hP hw hK
  obtain ⟨f0,f1,f2,f3,f4,f5⟩:=hf it (by simp)
  have hg:i<z.cps.size:=hg
  have hx:z.cps[i]? = some z.cps[i]:=by simp [hg]
  refine wpAny_pyNext_ascii_item st hx λh' st' sb=>?_
  have I1:Inv X pins σ H { s with heap:=h',toks:=s.toks+1 }:=I.turned (t':=s.toks+1) (λb o hb e=>(sb.2 b hb).trans e) f0 f1 f3 f4 f5
  obtain ⟨o,e,c,d⟩:=id st'
  exact ⟨_,rfl,kQ (s:={ s with heap:=h',toks:=s.toks+1 }) e c d (by decide) ⟨.str ⟨#[z.cps[i]]⟩,H,I1,⟨_,rfl⟩,⟨rfl,_,hx,rfl⟩,st',λb hb=>(hf b hb).1⟩⟩
 done:=by
  intro X hP hw hK hc i pins s σ H E I hf st hg
  subst hP hw hK
  obtain ⟨f0,f1,f2,f3,f4,f5⟩:=hf it (by simp)
  have hg:z.cps.size<=i:=hg
  exact wpAny_pyNext_ascii_end (I.ok.hd hc) st (by simp; omega) λh' eb=>⟨rfl,I.turned (t':=s.toks) (λb o hb e=>eb b o hb e) f0 f1 f3 f4 f5⟩
 self:=λ_ _ _ _ _ st h=>wpAny_pyIter_striter_ascii st h
section
variable{X:Cx}{tg:Expr}
def Q7(te:TE):TI:=λσ H R=>te σ H λx H1=>∃z,x=.str z/\Ju z/\R (Q8 z) H1
theorem zD{l:Expr}{tl:TE}(hl:PE X l tl):PI X tg l (Q7 tl):=by
 intro pins s σ H R I h
 refine Hb (hl pins s σ H _ I h) λv s1 q0_ => ?_
 obtain ⟨x,H1,I1,r1,q1⟩ := q0_
 obtain ⟨z,e,ha,q⟩:=q1
 subst e
 obtain ⟨t,rfl⟩:=r1
 refine wpAny_pyIter_strU ?_
 have et:strIterType z = "str_ascii_iterator" := by
  rw[strIterType,if_pos]
  rw[Array.all_eq_true']
  exact λi hi=>decide_eq_true (ha i (by simpa using hi))
 rw[et]
 refine ⟨s1.heap.objs.size,[s1.heap.objs.size],_,_,H1,rfl,I1.kept (t':=s1.toks) λb o e=>Ag _ e,sH z t _,⟨_,Ay _ rfl,rfl,rfl⟩,λb hb=>?_,q⟩
 have e:b=s1.heap.objs.size:=by simpa using hb
 subst e
 exact I1.fpOk (Ah _) (I1.hok.fresh (Ah _))
end
def rW(c:Nat)(z:Str):Prop:=c∉z.cps.toList
theorem Xq(z:Str)(i j:Nat):(Cn z i j).cps.toList=(z.cps.toList.take j).drop i:=by
 unfold Cn
 rw[Array.toList_extract,List.extract_eq_drop_take',]
theorem Qu{a b:Str}(h:a.cps.toList=b.cps.toList):a=b:=by
 cases a; cases b
 congr 1
 exact Array.toList_inj.mp h
theorem Ye{z y:Str}{c:Nat}(hy:y.cps.toList=[c])(i:Nat):StrLaws.At z y z.length i↔z.cps.toList[i]? = some c:=by
 have e1:y.length=1:=by
  show y.cps.size=1
  rw[<- Af,hy]
  rfl
 unfold StrLaws.At Builtin.Str.subAt
 rw[e1,beq_iff_eq,<- Array.toList_inj,hy,Array.toList_extract,List.extract_eq_drop_take,Nat.add_sub_cancel_left]
 have el:z.length=z.cps.toList.length:=(Af).symm
 rw[el]
 constructor
 ·rintro ⟨h1,h2⟩
  have : (z.cps.toList.drop i)[0]? = some c:=by
   have:=congrArg (λl=>l[0]?) h2
   simpa using this
  simpa using this
 ·intro h
  obtain ⟨h1,h2⟩:=Aq.mp h
  refine ⟨h1,?_⟩
  rw[dY h1,h2]
  rfl
def PB(z:Str)(lo:Nat)(cuts:List Nat):List Str:=((lo::cuts.map (· + 1)).zip (cuts++[z.length])).map λp=>Cn z p.1 p.2
theorem eG{z:Str}{c lo hi:Nat}(h:∀k,lo<=k->k<hi->¬ z.cps.toList[k]? = some c):rW c (Cn z lo hi):=by
 unfold rW
 rw[Xq]
 intro hm
 obtain ⟨k,hk⟩:=List.mem_iff_getElem?.mp hm
 rw[List.getElem?_drop] at hk
 by_cases hl:lo+k<hi
 ·rw[iH hl] at hk
  exact h _ (by omega) hl hk
 ·rw[List.getElem?_take_eq_none (by omega)] at hk
  cases hk
theorem mM{z y:Str}{c:Nat}(hy:y.cps.toList=[c]):∀(cuts:List Nat) (lo f:Nat),StrLaws.ChainG z y z.length lo cuts f->(∀k,f<=k->¬ StrLaws.At z y z.length k)->∀q∈PB z lo cuts,rW c q
 | [],lo,f,hc,hf,q,hq=>by
  have e:f=lo:=by first | exact hc | exact hc.symm | exact hc.1
  subst e
  rw[show PB z f []=[Cn z f z.length] from rfl] at hq
  rw[Am.mp hq]
  exact eG λk h1 _ z=>hf k h1 ((Ye hy k).mpr z)
 | i::r,lo,f,hc,hf,q,hq=>by
  obtain ⟨h1,h2,h3,h4⟩:=hc
  have e1:y.length=1:=by
   show y.cps.size=1
   rw[<- Af,hy]
   rfl
  rw[e1] at h4
  rw[show PB z lo (i::r)=Cn z lo i::PB z (i+1) r from rfl] at hq
  rcases Ai.mp hq with e | hq
  ·rw[e]
   exact eG λk a b z=>h3 k a b ((Ye hy k).mpr z)
  ·exact mM hy r (i+1) f h4 hf q hq
theorem Nw(sep p:Str):∀(R:List Str),(Bk sep (p::R)).cps.toList=p.cps.toList++R.flatMap λq=>sep.cps.toList++q.cps.toList:=by
 intro R
 rw[PySem.Builtin.Str.glued.eq_1]
 show (List.foldl (λacc p=>acc++sep.cps++p.cps) p.cps R).toList=_
 generalize p.cps=a
 induction R generalizing a with
 | nil=>simp
 | cons q R ih =>
  rw[Mb,ih,Kb]
  simp
theorem sL{c:Nat}:∀{R S:List (List Nat)} {p q:List Nat},c∉p->c∉q->(∀x∈R,c∉x)->(∀x∈S,c∉x)->p++R.flatMap (λx=>c::x)=q++S.flatMap (λx=>c::x)->p=q/\R=S:=by
 have tw:∀(R:List (List Nat)) (p:List Nat),c∉p->(p++R.flatMap λx=>c::x).takeWhile (λx=>decide (x≠c))=p:=λR p hp=>by
  have h1:∀x∈p,decide (x≠c)=true:=λx hx=>decide_eq_true λe=>hp (by rw[<- e]; exact hx)
  rw[List.takeWhile_append_of_pos h1]
  cases R with
  | nil=>simp
  | cons r R=>simp
 intro R
 induction R with
 | nil =>
  intro S p q hp hq _ hS h
  have e:p=q:=by rw[<- tw [] p hp,h,tw S q hq]
  subst e
  have h:=iI h
  cases S with
  | nil=>exact ⟨rfl,rfl⟩
  | cons s S=>simp at h
 | cons r R ih =>
  intro S p q hp hq hR hS h
  have e:p=q:=by rw[<- tw (r::R) p hp,h,tw S q hq]
  subst e
  have h:=iI h
  cases S with
  | nil=>simp at h
  | cons s S =>
   rw[Kb,Kb,Ew,Ew] at h
   injection h with _ h
   obtain ⟨e1,e2⟩:=ih (hR r Aa) (hS s Aa) (λx hx=>hR x (Ab _ hx)) (λx hx=>hS x (Ab _ hx)) h
   exact ⟨rfl,by rw[e1,e2]⟩
theorem Vh{y:Str}{c:Nat}(hy:y.cps.toList=[c]){ps:List Str}(hn:ps≠[])(hp:∀p∈ps,rW c p):Dl (Bk y ps) (Bf (Bk y ps) y 0 (Bk y ps).length ((Bk y ps).length+1)) y.length=ps:=by
 have e1:y.length=1:=by
  show y.cps.size=1
  rw[<- Af,hy]
  rfl
 obtain ⟨f,h1,h2⟩:=StrLaws.occ_tight (Bk y ps) y (by rw[e1]; exact Ah _)
 have g:=StrLaws.glued_between_self (Bk y ps) y ((Bk y ps).length+1)
 generalize Bf (Bk y ps) y 0 (Bk y ps).length ((Bk y ps).length+1)=cuts at h1 g
 have fr:=mM hy cuts 0 f h1 h2
 have eP:Dl (Bk y ps) cuts y.length=PB (Bk y ps) 0 cuts:=by
  rw[Nc,e1]
  rfl
 rw[eP] at g ⊢
 have hne:PB (Bk y ps) 0 cuts≠[]:=by
  unfold PB
  cases cuts <;> simp
 generalize PB (Bk y ps) 0 cuts=qs at g fr hne
 obtain ⟨p,R,rfl⟩:=Hy hn
 obtain ⟨q,S,rfl⟩:=Hy hne
 have g2:=congrArg (λs:Str=>s.cps.toList) g
 rw[Nw,Nw,hy] at g2
 have fm:∀R:List Str,(R.flatMap λq=>[c]++q.cps.toList)=(R.map λq=>q.cps.toList).flatMap λx=>c::x:=λR=>by
  rw[List.flatMap_map]
  rfl
 rw[fm,fm] at g2
 obtain ⟨a,b⟩:=sL (fr q Aa) (hp p Aa) (λx hx=>by
  obtain ⟨u,hu,rfl⟩:=Bh.mp hx
  exact fr u (Ab _ hu)) (λx hx=>by
  obtain ⟨u,hu,rfl⟩:=Bh.mp hx
  exact hp u (Ab _ hu)) g2
 rw[Qu a,(List.map_inj_right λx y e=>Qu e).mp b]
end Nd
namespace DL
open PySem PySem.Spec PyProof.Rows L2 Nd
def signs(z:Str):List Ad:=z.cps.toList.map λc=>Fe ⟨#[c]⟩
section
variable{K:PySem.W.Frag}{H:Hp}
theorem RdFs.strs:∀ns:List Str,RdFs K H (ns.map V.str) (ns.map Fe) []
 | []=>.nil
 | n::ns=>RdFs.cons (F:=[]) (.str n) (RdFs.strs ns)
theorem RdFs.strs_inv:∀{ns:List Str} {xs:List V} {F:List Addr},RdFs K H xs (ns.map Fe) F->xs=ns.map V.str/\F=[]
 | [],_,_,h=>by cases h; exact ⟨rfl,rfl⟩
 | n::ns,_,_,h=>by
  rw[Au] at h
  cases h with
  | cons a t =>
   obtain ⟨rfl,rfl⟩:=a.str_inv
   obtain ⟨rfl,rfl⟩:=RdFs.strs_inv t
   exact ⟨rfl,rfl⟩
theorem eM(ns:List Str):Dk (ns.map Fe)=true:=Ly (λ_=>by simp [imm]) ns
theorem rR{z:Str}:IterOk K (Q8 z) [] .sh (signs z) where
 md:=.inl rfl
 hd:=λe he=>nomatch he
 np:=λ_ e he=>nomatch he
 go:=λH n i h hi=>by
  unfold signs at hi
  rw[Ae,Af] at hi
  exact hi
 yld:=λH n i x H' h hi y=>by
  obtain ⟨rfl,c,hc,rfl⟩:=y
  refine ⟨Yc.refl _,.str ⟨#[c]⟩,[],?_,.str _,λa z=>nomatch z⟩
  unfold signs
  rw[Cf,Ep,hc]
  rfl
 stop:=λH n h=>by
  unfold signs
  rw[Ae,Af]
  exact Ah _
end
def O5(x:DV)(δ:DS)(P:Md->List Ad->DS->Prop):Prop:=match x with
 | .dat _ (.str z)=>Ju z/\z.length<=100000/\P .sh (signs z) δ
 | _=>False
def V2(de:DE):DI:=λδ P=>de δ λx δ'=>O5 x δ' P
def lW(ne:Bool):D2:=λx y P=>match x,y with
 | .dat _ (.str i),.dat _ (.str j)=>P (.dat .ow (.bool (match ne with | true=>!(!(Bf j i 0 j.length 1).isEmpty) | false=>!(Bf j i 0 j.length 1).isEmpty)))
 | _,_=>False
theorem n5{K:PySem.W.Frag}:jX K (λx y H Q=>∃i j,x=.str i/\y=.str j/\Q (.bl (!(Bf j i 0 j.length 1).isEmpty)) H) (lW false):=by
 intro H0 X n S T x y v w F G H Q P hA hd k
 unfold lW at hd
 split at hd
 ·obtain ⟨rfl,_⟩:=(hA.told Fm).str_inv
  obtain ⟨rfl,_⟩:=(hA.told mem_mid).str_inv
  exact ⟨_,_,rfl,rfl,k _ _ [] H (hA.drop2.pushI (.bl _)) hd⟩
 ·exact hd.elim
def jH:DC:=λxs P=>match xs with
 | [.dat _ (.str z)]=>z.length<=640/\∃n,intText? z=some n/\P (.dat .ow (.int n))
 | _=>False
theorem xC{K:PySem.W.Frag}:Sf K (λxs H Q=>∃z n,xs=[V.str z]/\intText? z=some n/\z.length<=640/\Q (.int n) H) jH:=by
 intro H0 X n S T As us H Q P eu hA hd k
 unfold jH at hd
 split at hd
 ·rename_i ex
  obtain ⟨v,F,rfl,hA⟩:=Il eu hA ex
  obtain ⟨rfl,_⟩:=(hA.told mem_mid).str_inv
  obtain ⟨hl,m,hm,p⟩:=hd
  exact ⟨_,m,rfl,hm,hl,k _ _ [] H (hA.drop.pushI (.int _)) p⟩
 ·exact hd.elim
def lH(z:Str)(y:DV)(δ:DS)(P:DV->DS->Prop):Prop:=match y with
 | .dat _ (.list ds)=>∃ss:List Str,ds=ss.map Fe/\(ss.map λx=>x.length+z.length).sum<=1000000/\P (.dat .ow (.str (Bk z ss))) δ
 | _=>False
def mE(x:DV)(δ:DS)(db:DE)(P:DV->DS->Prop):Prop:=match x with
 | .dat _ (.str z)=>db δ λy δ2=>lH z y δ2 P
 | _=>False
def xU(da db:DE):DE:=λδ P=>da δ λx δ1=>mE x δ1 db P
def cG(z:Str)(y:DV)(δ:DS)(P:DV->DS->Prop):Prop:=match y with
 | .dat _ (.str y)=>z.length<=100000/\Ju z/\y.length=1/\Ju y/\P (.dat .ow (.list ((Dl z (Bf z y 0 z.length (z.length+1)) y.length).map Fe))) δ
 | _=>False
def cB(x:DV)(δ:DS)(db:DE)(P:DV->DS->Prop):Prop:=match x with
 | .dat _ (.str z)=>db δ λy δ2=>cG z y δ2 P
 | _=>False
def rH(da db:DE):DE:=λδ P=>da δ λx δ1=>cB x δ1 db P
def lF(z:Str)(y:DV)(δ:DS)(P:DV->DS->Prop):Prop:=match y with
 | .dat _ (.str y)=>z.length<=100000/\y.length=1/\P (.dat .ow (.tuple ((Sy z y).map Fe))) δ
 | _=>False
def bY(x:DV)(δ:DS)(db:DE)(P:DV->DS->Prop):Prop:=match x with
 | .dat _ (.str z)=>db δ λy δ2=>lF z y δ2 P
 | _=>False
def yS(da db:DE):DE:=λδ P=>da δ λx δ1=>bY x δ1 db P
section
variable{X:Cx}{o e a b tg:Expr}{da db de:DE}{apos cpos pos:Pos}
theorem t8(h:Ei X e de):p6 X tg e (V2 de):=by
 refine PI.imp (zD h) λσ H R h=>?_
 obtain ⟨H0,Y,S,T,δ,P,rfl,hS,hA,hd,k⟩:=h
 refine ⟨H0,Y,S,T,δ,_,rfl,hS,hA,hd,λx δ1 v F S1 H1 e1 e2 hA1 p1=>?_⟩
 unfold O5 at p1
 split at p1
 ·obtain ⟨rfl,_⟩:=(hA1.told mem_mid).str_inv
  obtain ⟨q1,q2,q3⟩:=p1
  exact ⟨_,rfl,q1,k _ _ δ1 _ [] S1 H1 e1 e2 hA1.drop rR (by unfold signs; rw[Ae,Af]; exact Bm q2 (Yw (by decide))) q3⟩
 ·exact p1.elim
theorem z0(ha:Ei X a da)(hb:Ei X b db)(hm:Ff .In b=false:=by with_unfolding_all rfl):Ei X (.Compare a [.In] [b] pos) (Zo (lW false) da db):=t9 oK n5 ha hb hm
theorem sA{x:Str}{z:Str}{u:Value}(hg:Gl X x)(hm:X.mg x=some u)(r:RelV (.str z) u)(hd:(x == ("__debug__" : Str))=false:=by decide):Ei X (.Name x pos) (dC (.str z)):=Xk (mJ hg hm r hd) λ_=>.str z
theorem tY{x:Str}{z:Int}{u:Value}(hg:Gl X x)(hm:X.mg x=some u)(r:RelV (.int z) u)(hd:(x == ("__debug__" : Str))=false:=by decide):Ei X (.Name x pos) (dC (.int z)):=Xk (mJ hg hm r hd) λ_=>.int z
theorem Qc(ho:Ei X o da)(he:Ei X e db)
  (hbase:Jp o "join" X.env (eval o X.env)=eval o X.env:=by rfl) (hline:(apos.endLine == cpos.line)=true:=by rfl)
  (hfew:((Gc cpos (Bd [e] X.env)).all (λx=>!x.1) && (Vk cpos (Ms [] X.env)).all (λx=>x.1.isSome)
   && decide (([e]:List Expr).length+([]:List Ke).length+(if ([]:List Ke).isEmpty then 0 else 1)<30))=true:=by rfl)
  (hs:Bd [e] X.env=[(false,eval e X.env)]:=by rfl):Ei X (.Call (.Attribute o "join" apos) [e] [] cpos) (xU da db):=by
 refine PE.imp (Zr PySem.F.plainAttrs_str PySem.F.slot_str_join PySem.F.type_str_join wK ho (Fh he Jd hs) hbase hfew hline hs rfl) λσ H Q h=>?_
 obtain ⟨H0,Y,S,T,δ,P,rfl,hS,hA,hd,k⟩:=h
 refine ⟨H0,Y,S,T,δ,_,rfl,hS,hA,hd,λx δ1 v F S1 H1 e1 e2 hA1 p1=>?_⟩
 unfold mE at p1
 split at p1
 ·rename_i m z
  obtain ⟨rfl,rfl⟩:=(hA1.told mem_mid).str_inv
  refine ⟨rfl,?_⟩
  refine ⟨H0,Y,S1,⟨some (.str z),.dat m (.str z),[]⟩::T,δ1,_,e1,e2,hA1,p1,λy δ2 w G S2 H2 e3 e4 hA2 p2=>?_⟩
  unfold lH at p2
  split at p2
  ·obtain ⟨ss,rfl,hz,p3⟩:=p2
   obtain ⟨b,ys,G2,rfl,hlb,rb,_,_⟩:=(hA2.told mem_mid).list_inv
   obtain ⟨rfl,_⟩:=rb.strs_inv
   exact ⟨z,b,ss,rfl,rfl,Oy.of hlb,Bm hz (Yw (Ah _)),k _ δ2 _ [] S2 _ e3 e4 (hA2.drop2.pushI (.str _)) p3⟩
  ·exact p2.elim
 ·exact p1.elim
theorem gN(ho:Ei X o da)(he:Ei X e db)
  (hbase:Jp o "split" X.env (eval o X.env)=eval o X.env:=by rfl) (hline:(apos.endLine == cpos.line)=true:=by rfl)
  (hfew:((Gc cpos (Bd [e] X.env)).all (λx=>!x.1) && (Vk cpos (Ms [] X.env)).all (λx=>x.1.isSome)
   && decide (([e]:List Expr).length+([]:List Ke).length+(if ([]:List Ke).isEmpty then 0 else 1)<30))=true:=by rfl)
  (hs:Bd [e] X.env=[(false,eval e X.env)]:=by rfl):Ei X (.Call (.Attribute o "split" apos) [e] [] cpos) (rH da db):=by
 refine PE.imp (Zr PySem.F.plainAttrs_str PySem.F.slot_str_split PySem.F.type_str_split rP ho (Fh he Jd hs) hbase hfew hline hs rfl) λσ H Q h=>?_
 obtain ⟨H0,Y,S,T,δ,P,rfl,hS,hA,hd,k⟩:=h
 refine ⟨H0,Y,S,T,δ,_,rfl,hS,hA,hd,λx δ1 v F S1 H1 e1 e2 hA1 p1=>?_⟩
 unfold cB at p1
 split at p1
 ·rename_i m z
  obtain ⟨rfl,rfl⟩:=(hA1.told mem_mid).str_inv
  refine ⟨rfl,?_⟩
  refine ⟨H0,Y,S1,⟨some (.str z),.dat m (.str z),[]⟩::T,δ1,_,e1,e2,hA1,p1,λy δ2 w G S2 H2 e3 e4 hA2 p2=>?_⟩
  unfold cG at p2
  split at p2
  ·rename_i m2 y
   obtain ⟨hz,az,ly,ay,p3⟩:=p2
   obtain ⟨rfl,rfl⟩:=(hA2.told mem_mid).str_inv
   refine ⟨z,y,rfl,rfl,hz,λc hc=>Mw (az c hc) (by decide),ly,λc hc=>Mw (ay c hc) (by decide),λp hp=>?_⟩
   have lo:=StrLaws.occ_length_le z y 0 z.length (z.length+1)
   exact k _ δ2 _ _ S2 _ e3 e4 (hA2.drop2.newI (RdFs.strs _) (eM _) (by rw[Ae,length_partsBetween]; exact Bm (show _<=100002 by omega) (Yw (by decide))) hp .ow) p3
  ·exact p2.elim
 ·exact p1.elim
theorem wU(ho:Ei X o da)(he:Ei X e db)
  (hbase:Jp o "partition" X.env (eval o X.env)=eval o X.env:=by rfl) (hline:(apos.endLine == cpos.line)=true:=by rfl)
  (hfew:((Gc cpos (Bd [e] X.env)).all (λx=>!x.1) && (Vk cpos (Ms [] X.env)).all (λx=>x.1.isSome)
   && decide (([e]:List Expr).length+([]:List Ke).length+(if ([]:List Ke).isEmpty then 0 else 1)<30))=true:=by rfl)
  (hs:Bd [e] X.env=[(false,eval e X.env)]:=by rfl):Ei X (.Call (.Attribute o "partition" apos) [e] [] cpos) (yS da db):=by
 refine PE.imp (Zr PySem.F.plainAttrs_str PySem.F.slot_str_partition PySem.F.type_str_partition bX ho (Fh he Jd hs) hbase hfew hline hs rfl) λσ H Q h=>?_
 obtain ⟨H0,Y,S,T,δ,P,rfl,hS,hA,hd,k⟩:=h
 refine ⟨H0,Y,S,T,δ,_,rfl,hS,hA,hd,λx δ1 v F S1 H1 e1 e2 hA1 p1=>?_⟩
 unfold bY at p1
 split at p1
 ·rename_i m z
  obtain ⟨rfl,rfl⟩:=(hA1.told mem_mid).str_inv
  refine ⟨rfl,?_⟩
  refine ⟨H0,Y,S1,⟨some (.str z),.dat m (.str z),[]⟩::T,δ1,_,e1,e2,hA1,p1,λy δ2 w G S2 H2 e3 e4 hA2 p2=>?_⟩
  unfold lF at p2
  split at p2
  ·rename_i m2 y
   obtain ⟨hz,ly,p3⟩:=p2
   obtain ⟨rfl,rfl⟩:=(hA2.told mem_mid).str_inv
   refine ⟨z,y,rfl,rfl,hz,ly,λp hp=>?_⟩
   have s1:=Fu hp (.tup ((Sy z y).map V.str))
   have l3:(Sy z y).length=3:=by
    unfold Sy
    split <;> rfl
   exact k _ δ2 _ [] S2 _ e3 e4 ((hA2.drop2.grow s1 (Ah _)).pushI (.tup Dt (by rw[Ae,l3]; exact sz (by decide)) ((RdFs.strs _).kp (Kp.of s1)))) p3
  ·exact p2.elim
 ·exact p1.elim
end
section
variable{δ:DS}{P:DV->DS->Prop}{m:Md}{z y:Str}{da db de:DE}{ds:List Ad}
theorem e_tx{Q:Md->List Ad->DS->Prop}:V2 de δ Q=(de δ λx δ'=>O5 x δ' Q):=rfl
theorem e_txB{Q:Md->List Ad->DS->Prop}:O5 (.dat m (.str z)) δ Q=(Ju z/\z.length<=100000/\Q .sh (signs z) δ):=rfl
theorem e_inS{m':Md}{Q:DV->Prop}:lW false (.dat m (.str z)) (.dat m' (.str y)) Q=Q (.dat .ow (.bool (!(Bf y z 0 y.length 1).isEmpty))):=rfl
theorem e_lenS{Q:DV->Prop}:kS [.dat m (.str z)] Q=(z.length<=1000000/\Q (.dat .ow (.int z.length))):=rfl
theorem e_ixS{m':Md}{i:Int}{Q:DV->Prop}:tT (.dat m (.str z)) (.dat m' (.int i)) Q=(z.length<=Aw/\∃c,Sm z.cps.toList i=some c/\Q (.dat .ow (.str ⟨#[c]⟩))):=rfl
theorem e_intS{Q:DV->Prop}:jH [.dat m (.str z)] Q=(z.length<=640/\∃n,intText? z=some n/\Q (.dat .ow (.int n))):=rfl
theorem e_join:xU da db δ P=(da δ λx δ1=>mE x δ1 db P):=rfl
theorem e_joinB:mE (.dat m (.str z)) δ db P=(db δ λy δ2=>lH z y δ2 P):=rfl
theorem e_joinC:lH z (.dat m (.list ds)) δ P=(∃ss:List Str,ds=ss.map Fe/\(ss.map λx=>x.length+z.length).sum<=1000000/\P (.dat .ow (.str (Bk z ss))) δ):=rfl
theorem e_split:rH da db δ P=(da δ λx δ1=>cB x δ1 db P):=rfl
theorem e_splitB:cB (.dat m (.str z)) δ db P=(db δ λy δ2=>cG z y δ2 P):=rfl
theorem e_splitC:cG z (.dat m (.str y)) δ P=(z.length<=100000/\Ju z/\y.length=1/\Ju y/\P (.dat .ow (.list ((Dl z (Bf z y 0 z.length (z.length+1)) y.length).map Fe))) δ):=rfl
theorem e_prt:yS da db δ P=(da δ λx δ1=>bY x δ1 db P):=rfl
theorem e_prtB:bY (.dat m (.str z)) δ db P=(db δ λy δ2=>lF z y δ2 P):=rfl
theorem e_prtC:lF z (.dat m (.str y)) δ P=(z.length<=100000/\y.length=1/\P (.dat .ow (.tuple ((Sy z y).map Fe))) δ):=rfl
end
end DL
namespace DL
open PySem L2 Nd
def sub(a b:List Int):Bool:=a.all λi=>decide (i∈b)
theorem zQ{h:Int}{a:List Int}(r:Ck h a):a.Nodup:=r.1.imp λ{x y} h=>Int.ne_of_lt h
theorem nP{a:List Int}(nd:a.Nodup)(h:∀x∈a,0<=x/\x<60):a.length<=60:=Bm (NdS.len_leI nd λe he=>Wg (h e he).1 (h e he).2) (by decide)
theorem Jw(a:Int){b:Int}(h:0<b):0<=a % b/\a % b<b:=Vv a b h
def Ww:DF:=λds n R=>∃h:Int,ds=[.int h]/\0<h/\h<=60/\n<=90000/\∀ns n',n<=n'->n'<=n+10->Ck h ns->R (Bv ns) n'
end DL
namespace Nd
open PySem L2 Ts
end Nd
namespace Nd
open PySem L2
def ch:Nat->Nat->Nat
 | _,0=>1
 | 0,_+1=>0
 | n+1,k+1=>ch n k+ch n (k+1)
def cw:Nat->Int->Nat->List (List Int)
 | _,_,0=>[[]]
 | 0,_,_+1=>[]
 | d+1,p,m+1=>(cw d (p+1) m).map (p::·)++cw d (p+1) (m+1)
end Nd
namespace DL
open PySem L2 Nd
def pairD(p:Nat×Nat):Ad:=.tuple [.int p.1,.int p.2]
instance {p:Nat×Nat}:Im (pairD p):=⟨(inferInstance:Im (.tuple [.int p.1,.int p.2])).h⟩
instance {p:Nat×Nat}:Dp (pairD p) 1:=⟨(inferInstance:Dp (.tuple [.int p.1,.int p.2]) 1).h⟩
def xP(p:Nat×Nat×List Int):Ad:=.tuple [.int p.1,.int p.2.1,Bv p.2.2]
instance {p:Nat×Nat×List Int}:Im (xP p):=⟨(inferInstance:Im (.tuple [.int p.1,.int p.2.1,Bv p.2.2])).h⟩
instance {p:Nat×Nat×List Int}:Dp (xP p) 2:=⟨(inferInstance:Dp (.tuple [.int p.1,.int p.2.1,Bv p.2.2]) 2).h⟩
end DL
namespace DRow
open PySem L2 Nd DL
def Vp(w u:List Int):Bool:=w.all λi=>decide (i∈u)
def t7(n1 n2:List Int)(ps:List (List Int×Bool)):Option Bool:=ps.foldl (λst p=>if Vp p.1 n1=Vp p.1 n2 then st else some (Vp p.1 n1 == !p.2)) none
theorem wW(n1 n2:List Int)(ps:List (List Int×Bool))(p:List Int×Bool):t7 n1 n2 (ps++[p])=if Vp p.1 n1=Vp p.1 n2 then t7 n1 n2 ps else some (Vp p.1 n1 == !p.2):=by
 unfold t7
 rw[List.foldl_append]
 rfl
def Wu(ps:List (List Int×Bool))(n:List Int):List Int:=ps.reverse.map λp=>if Vp p.1 n=p.2 then 1 else 0
theorem Zz(ps:List (List Int×Bool))(p:List Int×Bool)(n:List Int):Wu (ps++[p]) n=(if Vp p.1 n=p.2 then 1 else 0)::Wu ps n:=by
 unfold Wu
 rw[List.reverse_append,Cm]
 rfl
theorem pL{α:Type}{P:List α->Prop}(h0:P [])(h1:∀l x,P l->P (l++[x]))(l:List α):P l:=by
 have : ∀m:List α,P m.reverse:=λm=>by
  induction m with
  | nil=>exact h0
  | cons x m ih=>rw[List.reverse_cons]; exact h1 _ _ ih
 have:=this l.reverse
 rwa [List.reverse_reverse] at this
theorem sE(n1 n2:List Int)(ps:List (List Int×Bool)):(t7 n1 n2 ps=none↔Wu ps n1=Wu ps n2)/\(t7 n1 n2 ps=some true↔HT.lexLt (Wu ps n1) (Wu ps n2)=true):=by
 induction ps using pL with
 | h0=>exact ⟨⟨λ_=>rfl,λ_=>rfl⟩,⟨λh=>(by cases h),λh=>(by cases h)⟩⟩
 | h1 l p ih =>
  rw[wW,Zz,Zz,HT.lexLt_cons]
  by_cases h:Vp p.1 n1=Vp p.1 n2
  ·rw[if_pos h,h,if_pos rfl]
   refine ⟨ih.1.trans ⟨λe=>by rw[e],λe=>(Kd e).2⟩,ih.2⟩
  ·rw[if_neg h]
   cases h1:Vp p.1 n1 <;> cases h2:Vp p.1 n2 <;> cases h3:p.2 <;> rw[h1,h2] at h <;> first | exact absurd rfl h | simp
theorem uG(x y:List Int)(ps:List (List Int×Bool)):t7 x y ps=some false↔(¬ Wu ps x=Wu ps y/\¬ HT.lexLt (Wu ps x) (Wu ps y)=true):=by
 rw[<- (sE x y ps).1,<- (sE x y ps).2]
 cases t7 x y ps with
 | none=>simp
 | some b=>cases b <;> simp
abbrev Ps:=List Int×Bool
def Fn(p:Ps):Ad:=.tuple [Bv p.1,.str (Oz p.2)]
instance {p:Ps}:Im (Fn p):=⟨(inferInstance:Im (.tuple [Bv p.1,.str (Oz p.2)])).h⟩
instance {p:Ps}:Dp (Fn p) 2:=⟨(inferInstance:Dp (.tuple [Bv p.1,.str (Oz p.2)]) _).h⟩
instance {α:Type} {f:α->Ad} {l:List α} {lo hi:Option Int} [h:∀a,Im (f a)]:ImA (Km (l.map f) lo hi):=⟨by rw[hW]; exact W8⟩
end DRow
namespace K81
open PySem L2 Nd DL
local macro_rules | `(tactic| array_get_dec) => do
  let ids:=(("e_lenS e_ixS e_tx e_txB e_inS e_intS e_join e_joinB e_joinC e_split e_splitB e_splitC e_prt e_prtB e_prtC e_lenSet e_lsB e_seq e_skip e_ret e_expr e_if e_asg e_name e_name2 e_name4 e_own e_gtup e_gsn e_gsc e_op e_var e_c e_imm e_immB e_take e_I e_I0 e_eqF e_eqT e_inTl e_inTt e_ixl e_cat e_catT_w1 e_catS e_ntT e_pkOfsh e_pkOfow e_mdInow e_mdItsh e_mdItow e_nil e_cons e_tup e_lst e_noPart e_part e_partB e_sl e_slBt_w1 e_cb e_lenl e_tuplel e_all e_isi e_str e_v e_b e_bB e_tru e_truB e_notT e_andT e_orT e_orTf e_not e_notB e_and e_andt e_ifE e_ifEt e_ifEf e_dL e_dTp e_lB e_tpB_w1 e_range1 e_rng1B e_for e_comp e_comp2 e_noTest e_step e_stepT e_yesB e_call e_callW e_draws e_drawsB e_append e_setI e_appendO e_scrSl e_ssT e_ssTt e_tr e_trB ow_npk callB callBW tupB lstB datas pkMd allOw noPk appB appOB mmd setB own1 npk retE retW retL args0 frD frD1 alD List.map_cons List.map_nil List.replicate List.getElem?_cons_zero List.getElem?_cons_succ List.set_cons_zero List.set_cons_succ List.cons_append List.nil_append Option.map_some List.length_cons List.length_nil List.append_nil rdAdd rdSub rdDiv rdMod rdLt rdGt rdGe if_true if_false Bool.false_eq_true Nat.reduceAdd Nat.reduceSub Nat.reduceLeDiff true_and im_e ima_e dp_e dpa_e any_word eqD_intd eqD_word eqD_str eqD_l0 ow_e tt_e cdiv_e Int.reduceLT Int.reduceLE Nat.reduceLT Int.reduceNeg and_self Int.reduceToNat fold_w isi_li isi_tt isi_ib isi_ii isi_wt Bool.not_true Bool.not_false String.reduceEq or_true true_or List.isEmpty_nil ifB_lt ifB_lf isi_ss str_self dec_self isE_cons okT_l okT_w" : String).splitOn " ").toArray.map λ(x:String)=>Lean.mkIdent x.toName
  `(tactic| try simp only [$[↓$ids:ident],*])
open DRow
def Hs(i:Int):Str:=Yb (.int i)
def F7(n:Nat):Bool:=let z:=Hs (n:Int); let l:=z.cps.toList
 decide (l.length<=2) && decide (1<=l.length) && l.all (λc=>decide (48<=c) && decide (c<=57)) && (decide (l[0]?≠some 48) || decide (l=[48])) && decide (intText? z=some (n:Int))
theorem wZ:∀n:Fin 60,F7 n.1=true:=by decide +kernel
theorem uZ:∀n:Fin 10,(!(Bf "0123456789" ⟨#[48+n.1]⟩ 0 (Ex "0123456789") 1).isEmpty)=true:=by decide +kernel
def zM(c:Nat):Prop:=48<=c/\c<=57
structure NumOk(i:Int):Prop where
 len:(Hs i).length<=2
 pos:1<=(Hs i).length
 dg:∀c∈(Hs i).cps.toList,zM c
 nz:(Hs i).cps.toList[0]? = some 48->Hs i = "0"
 val:intText? (Hs i)=some i
theorem bE{i:Int}(h0:0<=i)(h1:i<60):NumOk i:=by
 obtain ⟨n,rfl⟩:=Int.eq_ofNat_of_zero_le h0
 have h:=wZ ⟨n,by omega⟩
 unfold F7 at h
 simp only[Eg,decide_eq_true_eq,Bool.or_eq_true,List.all_eq_true,Af] at h
 obtain ⟨⟨⟨⟨a,b⟩,c⟩,d⟩,e⟩:=h
 refine ⟨a,b,λx hx=>c x hx,λz=>?_,e⟩
 rcases d with d | d
 ·exact absurd z d
 ·exact Qu (d.trans (by decide +kernel))
theorem zU{c:Nat}(h:zM c):(!(Bf "0123456789" ⟨#[c]⟩ 0 (Ex "0123456789") 1).isEmpty)=true:=by
 have:=uZ ⟨c - 48,by have:=h.2; omega⟩
 rwa [show 48+(c - 48)=c by have:=h.1; omega] at this
def wt(w:List Int):Str:=if w=[] then "-" else Bk "," (w.map Hs)
def Pc(l:List Str):Str:=if l=[] then "none" else Bk " " l
def Zq(b:Bool):Str:=if b=true then ":b" else ":f"
def pt(p:DRow.Ps):Str:=wt p.1++Zq p.2
def xH(c:Nat):Prop:=c=44\/c=45\/zM c
theorem Pl(a b:Str):(a++b).cps.toList=a.cps.toList++b.cps.toList:=by
 show (a.cps++b.cps).toList=_
 exact Array.toList_append
theorem dA(a b:Str):(a++b).length=a.length+b.length:=by
 show (a.cps++b.cps).size=_
 exact Array.size_append
theorem Zx{sep:Str}{c:Nat}:∀{ps:List Str},c∈(Bk sep ps).cps.toList->c∈sep.cps.toList\/∃p∈ps,c∈p.cps.toList
 | [],h=>by
  rw[PySem.Builtin.Str.glued.eq_1] at h
  exact nomatch h
 | p::R,h=>by
  rw[Nw] at h
  rcases Bg.mp h with h | h
  ·exact .inr ⟨p,Aa,h⟩
  ·obtain ⟨q,hq,h⟩:=Kw.mp h
   rcases Bg.mp h with h | h
   ·exact .inl h
   ·exact .inr ⟨q,Ab _ hq,h⟩
theorem Jv{sep:Str}{k:Nat}{ps:List Str}(h:∀p∈ps,p.length+sep.length<=k):(ps.map λx=>x.length+sep.length).sum<=k * ps.length:=by
 induction ps with
 | nil=>simp
 | cons p ps ih =>
  rw[Au,Tp,Bq,Nat.mul_succ]
  have:=h p Aa
  have:=ih λq hq=>h q (Ab _ hq)
  omega
theorem Xn{sep p:Str}{R:List Str}(h:1<=p.length):(Bk sep (p::R)).cps.toList[0]? = p.cps.toList[0]?:=by
 rw[Nw,Gb (by rw[Af]; exact h)]
structure WtOk(w:List Int):Prop where
 len:(wt w).length<=180
 pos:1<=(wt w).length
 ch:∀c∈(wt w).cps.toList,xH c
 hd:∃c,(wt w).cps.toList[0]? = some c/\xH c
 ne:w≠[]->wt w ≠ "-"
theorem Po{w:List Int}(r:Ck 60 w):WtOk w:=by
 have l60:=Ls r
 by_cases e:w=[]
 ·subst e
  have e:wt [] = "-" := rfl
  rw[show WtOk []=WtOk [] from rfl]
  refine ⟨by rw[e]; decide +kernel,by rw[e]; decide +kernel,λc hc=>?_,⟨45,by rw[e]; decide +kernel,.inr (.inl rfl)⟩,λz=>absurd rfl z⟩
  rw[e,show (Mt "-").toList=[45] by decide +kernel] at hc
  exact .inr (.inl (Am.mp hc))
 ·obtain ⟨i,v,rfl⟩:=Hy e
  have hw:wt (i::v)=Bk "," (Hs i::v.map Hs):=by
   unfold wt
   rw[if_neg e]
   rfl
  have nk:∀j∈i::v,NumOk j:=λj hj=>bE (r.2 j hj).1 (r.2 j hj).2
  have ni:=nk i Aa
  have sl:=Td "," (Hs i::v.map Hs)
  have s2:=Jv (sep := ",") (k:=3) (ps:=Hs i::v.map Hs) λp hp=>by
   have lc:Ex "," = 1:=by decide +kernel
   rw[<- Au] at hp
   obtain ⟨j,hj,rfl⟩:=Bh.mp hp
   have:=(nk j hj).len
   omega
  rw[<- Au,Ae] at s2
  have ch:∀c∈(wt (i::v)).cps.toList,xH c:=λc hc=>by
   rw[hw] at hc
   rcases Zx hc with hc | ⟨p,hp,hc⟩
   ·rw[show (Mt ",").toList=[44] by decide +kernel] at hc
    exact .inl (Am.mp hc)
   ·rw[<- Au] at hp
    obtain ⟨j,hj,rfl⟩:=Bh.mp hp
    exact .inr (.inr ((nk j hj).dg c hc))
  have hd:(wt (i::v)).cps.toList[0]? = (Hs i).cps.toList[0]?:=by rw[hw,Xn ni.pos]
  obtain ⟨c,hc⟩ : ∃c,(Hs i).cps.toList[0]? = some c:=⟨_,Cd (by rw[Af]; exact ni.pos)⟩
  have dc:=ni.dg c (Be hc)
  refine ⟨by rw[hw]; rw[Au] at s2; omega,?_,ch,⟨c,by rw[hd,hc],.inr (.inr dc)⟩,λ_ z=>?_⟩
  ·have : 0<(wt (i::v)).cps.toList.length:=by
    rw[hc] at hd
    exact (Aq.mp hd).1
   rw[Af] at this
   exact this
  ·rw[z,hc,show (Mt "-").toList[0]? = some 45 by decide +kernel] at hd
   injection hd with hd
   have:=dc.1
   omega
theorem lI{w:List Int}(r:Ck 60 w){c:Nat}(h:¬ xH c):rW c (wt w):=λz=>h ((Po r).ch c z)
theorem gR{w:List Int}(r:Ck 60 w):Ju (wt w):=λc hc=>by
 rcases (Po r).ch c hc with h | h | h
 ·omega
 ·omega
 ·have:=h.2; omega
open DRow
theorem oQ{i:Int}:Gk (.int i)=1:=by cases i <;> simp [Gk]
def Vy:PF:=λds R=>∃z:Str,ds=[.str z]/\R .none
def kJ:PF:=λds R=>∃i:Int,ds=[.str (Hs i)]/\0<=i/\i<60/\R (.int i)
def Vt:PF:=λds R=>∃(h:Int) (w:List Int),ds=[.int h,.str (wt w)]/\h<=60/\Ck h w/\R (Bv w)
def Ml:PF:=λds R=>∃w:List Int,ds=[Bv w]/\Ck 60 w/\R (.str (wt w))
def Ue(z:Str):Prop:=Ju z/\rW 32 z/\∃c,z.cps.toList[0]? = some c/\xH c
def bR:PF:=λds R=>∃l:List Str,ds=[.str (Pc l)]/\(∀z∈l,Ue z)/\(Pc l).length<=100000/\R (.list (l.map Fe))
def bL:PF:=λds R=>∃(h:Int) (D:List (List Int)),ds=[.int h,.str (Pc (D.map wt))]/\h<=60/\(∀w∈D,Ck h w)/\D.length<=60/\R (.list (D.map Bv))
def kM:PF:=λds R=>∃(h:Int) (D:List (List Int)),ds=[.int h,.str (Pc (D.map wt))]/\h<=60/\(∀w∈D,Ck h w)/\D.length<=60/\D.Nodup/\R (.list (D.map Bv))
def Vx:PF:=λds R=>∃D:List (List Int),ds=[.list (D.map Bv)]/\(∀w∈D,Ck 60 w)/\D.length<=60/\R (.str (Pc (D.map wt)))
def kN:PF:=λds R=>∃p:DRow.Ps,ds=[Bv p.1,.str (Oz p.2)]/\Ck 60 p.1/\R (.str (pt p))
def Vw:PF:=λds R=>∃ps:List DRow.Ps,ds=[.list (ps.map Fn)]/\(∀p∈ps,Ck 60 p.1)/\ps.length<=60/\R (.str (Pc (ps.map pt)))
def kW:PF:=λds R=>∃(h:Int) (p:DRow.Ps),ds=[.int h,.str (pt p)]/\h<=60/\Ck h p.1/\R (Fn p)
def lG:PF:=λds R=>∃(h:Int) (ps:List DRow.Ps),ds=[.int h,.str (Pc (ps.map pt))]/\h<=60/\(∀p∈ps,Ck h p.1)/\ps.length<=60/\R (.list (ps.map Fn))
theorem fQ{i:Int}(h0:0<=i)(h1:i<60):∃b,b<=400/\Jh b (.int i)/\(b+12) * Gk (.int i)<=Aw:=⟨12,by decide,by rw[Jh]; omega,by rw[oQ]; exact sz (by decide)⟩
theorem aG:(Mt ",").toList=[44]:=by decide +kernel
theorem Ut:(Mt " ").toList=[32]:=by decide +kernel
theorem nZ:(Mt ":").toList=[58]:=by decide +kernel
theorem aH:Ex "," = 1:=by decide +kernel
theorem Ll:Ex " " = 1:=by decide +kernel
theorem Qo:Ex ":" = 1:=by decide +kernel
theorem oT:Ju "," := λc hc=>by
 rw[aG] at hc
 rw[Am.mp hc]
 decide
theorem nM:Ju " " := λc hc=>by
 rw[Ut] at hc
 rw[Am.mp hc]
 decide
theorem kI{w:List Int}(r:Ck 60 w):((w.map Hs).map λx=>x.length+Ex ",").sum<=1000000:=by
 have l60:=Ls r
 have:=Jv (sep := ",") (k:=3) (ps:=w.map Hs) λp hp=>by
  obtain ⟨j,hj,rfl⟩:=Bh.mp hp
  have:=(bE (r.2 j hj).1 (r.2 j hj).2).len
  rw[aH]
  omega
 rw[Ae] at this
 omega
theorem cA{w:List Int}(e:w≠[]):wt w=Bk "," (w.map Hs):=if_neg e
def kH:PF:=λds R=>∃i:Int,ds=[.int i]/\R (.bool true)
def eU:PF:=λds R=>∃(h:Int) (w:List Int),ds=[.int h,Bv w]/\(Ck h w->R (.bool true))/\(¬ Ck h w->R (.bool false))
section
variable{P:Bu}{w:World}{K:PySem.W.Frag}{mg:Str->Option Value}{base:Heap}
theorem gS:FnScope ["thing"] ["thing"] (Bo Rx):=⟨rfl,rfl,rfl,by decide +kernel,rfl,by decide +kernel,by decide +kernel⟩
theorem eB{f   : Addr}{fd  : Cb}(F:Fun K "is_whole" "is_whole" Rx f fd)(mz_bool:mg "bool" = none)(mz_isinstance:mg "isinstance" = none)(mz_int:mg "int" = none):FnOk P w K mg base Fd 1 f fd ["thing"] (Kt K (kH)):=by
 refine' Fp (k:=0) F gS (λcdv A outer s H E hr=>?hb) ?h
 case hb =>
  have hu64:=hr.units
  exact Cj (Dv (x9 (Gg Ru Rn rfl mz_isinstance (by decide +kernel) (Ak (Ar (pv 0)) (Ak (Xf (n := "int") rfl mz_int (by decide +kernel)) Av))) (zC (i9 (Gg Ru Rn rfl mz_isinstance (by decide +kernel) (Ak (Ar (pv 0)) (Ak (Xf (n := "bool") rfl mz_bool (by decide +kernel)) Av)))))))
 case h =>
  (intro ds R q_; obtain ⟨i,rfl,hR⟩ := q_)
  refine ⟨rfl,?_⟩
  array_get_dec
  exact hR
theorem jM:FnScope ["holes", "thing", "least", "place"] ["holes", "thing"] (Bo Us):=⟨rfl,rfl,rfl,by decide +kernel,rfl,by decide +kernel,by decide +kernel⟩
theorem jE{f f_is_whole  : Addr}{fd d_is_whole:Cb}(F:Fun K "is_word" "is_word" Us f fd)(G_is_whole:FnOk P w K mg base Fd 1 f_is_whole d_is_whole ["thing"] (Kt K (kH)))(b_is_whole:Binds K d_is_whole ["thing"] [])(k_is_whole:PySem.W.keepIn K (.ref f_is_whole)=true)(m_is_whole:mg "is_whole" = some (.ref f_is_whole))(mz_tuple:mg "tuple" = none)(mz_isinstance:mg "isinstance" = none):FnOk P w K mg base Fd 2 f fd ["holes", "thing"] (Kt K (eU)):=by
 refine' Fp (k:=1) F jM (λcdv A outer s H E hr=>?hb) ?h
 case hb =>
  have hr1:Room 1 _:=hr.mono (by decide)
  have hu64:=hr.units
  exact Bz (Gv (Pn (Pk (Gg Ru Rn rfl mz_isinstance (by decide +kernel) (Ak (Ar (pv 1)) (Ak (Xf (n := "tuple") rfl mz_tuple (by decide +kernel)) Av)))))
   (Cj (Dv Ox)) Fc)
   (Bz (Fl (i:=2) jM.nd rfl (Cz rfl) Ci)
   (Bz (Oe Ej rfl (R4 (Ar (pv 1))) (Ih (i:=3) jM.nd rfl (Cz rfl))
   (Bz (Gv (jC (Wq (Pn (Pk (Dg G_is_whole hr1 rfl m_is_whole k_is_whole b_is_whole Di (Ak (Ar (pv 3)) Av)))) (Wq (yQ (Ar (pv 3)) (Ar (pv 2))) (Wo (L8 (Ar (pv 3)) (Ar (pv 0)))))))
    (Cj (Dv Ox)) Fc)
    (Cj (Fl (i:=2) jM.nd rfl (Cz rfl) (Uq (Ar (pv 3)) Ci)))))
   (Cj (Dv Ox))))
 case h =>
  (intro ds R q_; obtain ⟨h,w,rfl,hT,hF⟩ := q_)
  refine ⟨rfl,?_⟩
  array_get_dec
  refine cH (l:=w) (g:=By) rfl (λi δ=>(∃(least:Int) (v3:DV),δ=⟨[.dat .sh (.int h),.dat .sh (Bv w),.dat .sh (.int least),v3],0⟩/\NP v3/\(least=0\/∃j:Nat,j<i/\w[j]? = some (least - 1))/\(∀(j:Nat) (x:Int),j<i->w[j]? = some x->x<least)/\0<=least)/\Ck h (w.take i)) ?_ ?_ ?_
  ·exact ⟨⟨_,_,rfl,Mj,.inl rfl,(λj x z=>absurd z (Dy _)),Int.le_refl _⟩,Ck.nil _⟩
  ·(intro i p _ hp q_; obtain ⟨⟨least,v3,rfl,hv3,hl,hx,hl0⟩,r⟩ := q_)
   obtain ⟨i1,i2⟩:=Aq.mp hp
   array_get_dec
   refine ⟨p,rfl,?_⟩
   array_get_dec
   refine F5 (λq=>?_) (λq=>?_)
   ·have q:p<least:=of_decide_eq_true q
    array_get_dec
    refine hF λz=>?_
    rcases hl with rfl | ⟨j,hj,ej⟩
    ·have:=z.2 p (Be hp); omega
    ·obtain ⟨j1,j2⟩:=Aq.mp ej
     have:=Ga.mp z.1 j i j1 i1 hj
     rw[i2,j2] at this
     omega
   have q:¬ p<least:=of_decide_eq_false q
   array_get_dec
   refine Ve (λq2=>?_) (λq2=>?_)
   ·have q2:=of_decide_eq_true q2
    array_get_dec
    exact hF λz=>by have:=z.2 p (Be hp); omega
   have q2:=of_decide_eq_false q2
   array_get_dec
   refine ⟨⟨_,_,rfl,Jo,.inr ⟨i,by omega,by rw[hp,Int.add_sub_cancel]⟩,λj x hj ex=>?_,by omega⟩,?_⟩
   ·by_cases z:j=i
    ·subst z
     rw[hp] at ex
     cases ex
     omega
    ·have:=hx j x (by omega) ex; omega
   ·rw[Jy i1,i2]
    refine ⟨Li.mpr ⟨r.1,Jk _ _,λa ha b hb=>?_⟩,λx hx'=>?_⟩
    ·obtain ⟨j,hj,ej⟩:=Nt.mp ha
     have:=hx j a (by omega) (by rw[Cd (by omega),ej])
     rw[Am.mp hb]
     omega
    ·rcases Bg.mp hx' with z | z
     ·exact r.2 x z
     ·rw[Am.mp z]; omega
  ·(intro _ q_; obtain ⟨⟨least,v3,rfl,hv3,hl,hx,hl0⟩,r⟩ := q_)
   rw[Ie] at r
   array_get_dec
   exact hT r
theorem cW:FnScope ["word"] ["word"] (Bo Iv):=⟨rfl,rfl,rfl,by decide +kernel,rfl,by decide +kernel,by decide +kernel⟩
theorem cF{f   : Addr}{fd  : Cb}(F:Fun K "show_word" "show_word" Iv f fd)(mz_str:mg "str" = none):FnOk P w K mg base Fd 1 f fd ["word"] (Kt K (Ml)):=by
 refine' Fp (k:=0) F cW (λcdv A outer s H E hr=>?hb) ?h
 case hb =>
  have hu64:=hr.units
  have hrx:Room 0 (Ku Fd P w K mg base ["word"] "show_word" (Bo Iv) f cdv A outer s H E).nox.A:=hr
  have hu100:(Ku Fd P w K mg base ["word"] "show_word" (Bo Iv) f cdv A outer s H E).nox.A.units+100<cLine:=by have:=hrx.un; omega
  have CS1:∀{scope:Scope} (h:scope={ kind:=.function,names:=[(".0",.local),("place",.local),("str",.globalImplicit)],isGenerator:=false,isCoroutine:=false }),
    CompScope (Ku Fd P w K mg base ["word"] "show_word" (Bo Iv) f cdv A outer s H E).nox scope [] "place" [] []:=by
   rintro scope rfl
   exact Nd.compScope0 (by rfl) (by decide +kernel) (by rfl) (by decide +kernel) (by rfl) (by rfl)
  exact Cj (Dv (Uv (Wi (Ar (pv 0))) (Qc Ec (Mo (CS1 rfl) rfl (R4 (Ar (pv 0))) (λ_ _ _=>Ib) (λ_ _ _=>Iw (Qq hr.gd hu100) cD rfl mz_str (by decide +kernel) (Ak (Ar (pv 0)) Av)))) Ec))
 case h =>
  (intro ds R q_; obtain ⟨w,rfl,r,hR⟩ := q_)
  refine ⟨rfl,?_⟩
  array_get_dec
  cases w with
  | nil =>
   rw[show Zj (Bv [])=false from rfl]
   array_get_dec
   exact hR
  | cons i v =>
  rw[show Zj (Bv (i::v))=true from rfl]
  array_get_dec
  refine Uz (l:=i::v) (g:=By) rfl (λi=>.str (Hs i)) (λj hj yes no hy=>?_) ?_
  ·array_get_dec
   exact ⟨fQ (r.2 j hj).1 (r.2 j hj).2,by simp [Cg],hy⟩
  array_get_dec
  refine ⟨(i::v).map Hs,by rw[Ds]; rfl,kI r,?_⟩
  rw[<- cA (by simp)]
  exact hR
theorem dF:FnScope ["deck"] ["deck"] (Bo Mk):=⟨rfl,rfl,rfl,by decide +kernel,rfl,by decide +kernel,by decide +kernel⟩
theorem cC{f f_show_word  : Addr}{fd d_show_word:Cb}(F:Fun K "show_deck" "show_deck" Mk f fd)(G_show_word:FnOk P w K mg base Fd 1 f_show_word d_show_word ["word"] (Kt K (Ml)))(b_show_word:Binds K d_show_word ["word"] [])(k_show_word:PySem.W.keepIn K (.ref f_show_word)=true)(m_show_word:mg "show_word" = some (.ref f_show_word)):FnOk P w K mg base Fd 2 f fd ["deck"] (Kt K (Vx)):=by
 refine' Fp (k:=1) F dF (λcdv A outer s H E hr=>?hb) ?h
 case hb =>
  have hr1:Room 1 _:=hr.mono (by decide)
  have hu64:=hr.units
  have CS1:∀{scope:Scope} (h:scope={ kind:=.function,names:=[(".0",.local),("word",.local),("show_word",.globalImplicit)],isGenerator:=false,isCoroutine:=false }),
    CompScope (Ku Fd P w K mg base ["deck"] "show_deck" (Bo Mk) f cdv A outer s H E).nox scope [] "word" [] []:=by
   rintro scope rfl
   exact Nd.compScope0 (by rfl) (by decide +kernel) (by rfl) (by decide +kernel) (by rfl) (by rfl)
  exact Cj (Dv (Uv (Wi (Ar (pv 0))) (Qc Ec (Mo (CS1 rfl) rfl (uH (Ar (pv 0))) (λ_ _ _=>Ib) (λ_ _ _=>Dg G_show_word hr1 rfl m_show_word k_show_word b_show_word Di (Ak (Ar (pv 0)) Av)))) Ec))
 case h =>
  (intro ds R q_; obtain ⟨D,rfl,r,l60,hR⟩ := q_)
  refine ⟨rfl,?_⟩
  array_get_dec
  cases D with
  | nil =>
   rw[show Zj (Ed (List.map Bv []))=false from rfl]
   array_get_dec
   exact hR
  | cons u D =>
  rw[show Zj (Ed ((u::D).map Bv))=true from rfl]
  array_get_dec
  refine Uz (l:=u::D) (g:=Bv) rfl (λw=>.str (wt w)) (λw hw yes no hy=>?_) ?_
  ·array_get_dec
   refine ⟨w,rfl,r w hw,?_⟩
   array_get_dec
   exact hy
  array_get_dec
  refine ⟨(u::D).map wt,by rw[Ds]; rfl,?_,hR⟩
  have:=Jv (sep := " ") (k:=181) (ps:=(u::D).map wt) λp hp=>by
   obtain ⟨w,hw,rfl⟩:=Bh.mp hp
   have:=(Po (r w hw)).len
   rw[Ll]
   omega
  rw[Ae] at this
  omega
theorem bA:FnScope ["needles", "side"] ["needles", "side"] (Bo Pe):=⟨rfl,rfl,rfl,by decide +kernel,rfl,by decide +kernel,by decide +kernel⟩
theorem bC{f f_show_word  : Addr}{fd d_show_word:Cb}(F:Fun K "show_pass" "show_pass" Pe f fd)(G_show_word:FnOk P w K mg base Fd 1 f_show_word d_show_word ["word"] (Kt K (Ml)))(b_show_word:Binds K d_show_word ["word"] [])(k_show_word:PySem.W.keepIn K (.ref f_show_word)=true)(m_show_word:mg "show_word" = some (.ref f_show_word)):FnOk P w K mg base Fd 2 f fd ["needles", "side"] (Kt K (kN)):=by
 refine' Fp (k:=1) F bA (λcdv A outer s H E hr=>?hb) ?h
 case hb =>
  have hr1:Room 1 _:=hr.mono (by decide)
  have hu64:=hr.units
  exact Cj (Dv (bM (Dg G_show_word hr1 rfl m_show_word k_show_word b_show_word Di (Ak (Ar (pv 0)) Av)) (Uv (Nj hu64 (Ar (pv 1)) Ec) Ec Ec)))
 case h =>
  (intro ds R q_; obtain ⟨⟨w,b⟩,rfl,r,hR⟩ := q_)
  refine ⟨rfl,?_⟩
  array_get_dec
  refine ⟨w,rfl,r,?_⟩
  have lw:(wt w).length<=180:=(Po r).len
  array_get_dec
  cases b with
  | false =>
   rw[show (Oz false == ("front" : Str))=true by decide +kernel]
   array_get_dec
   exact ⟨by rw[show Ex ":f" = 2 by decide +kernel]; omega,hR⟩
  | true =>
   rw[show (Oz true == ("front" : Str))=false by decide +kernel]
   array_get_dec
   exact ⟨by rw[show Ex ":b" = 2 by decide +kernel]; omega,hR⟩
theorem gQ:FnScope ["row"] ["row"] (Bo Oa):=⟨rfl,rfl,rfl,by decide +kernel,rfl,by decide +kernel,by decide +kernel⟩
theorem eS{f f_show_pass  : Addr}{fd d_show_pass:Cb}(F:Fun K "show_row" "show_row" Oa f fd)(G_show_pass:FnOk P w K mg base Fd 2 f_show_pass d_show_pass ["needles", "side"] (Kt K (kN)))(b_show_pass:Binds K d_show_pass ["needles", "side"] [])(k_show_pass:PySem.W.keepIn K (.ref f_show_pass)=true)(m_show_pass:mg "show_pass" = some (.ref f_show_pass)):FnOk P w K mg base Fd 3 f fd ["row"] (Kt K (Vw)):=by
 refine' Fp (k:=2) F gQ (λcdv A outer s H E hr=>?hb) ?h
 case hb =>
  have hr1:Room 1 _:=hr.mono (by decide)
  have hr2:Room 2 _:=hr.mono (by decide)
  have hu64:=hr.units
  have CS1:∀{scope:Scope} (h:scope={ kind:=.function,names:=[(".0",.local),("needles",.local),("side",.local),("show_pass",.globalImplicit)],isGenerator:=false,isCoroutine:=false }),
    CompScope (Ku Fd P w K mg base ["row"] "show_row" (Bo Oa) f cdv A outer s H E).nox scope [] "needles" [] []:=by
   rintro scope rfl
   exact Nd.compScope0 (by rfl) (by decide +kernel) (by rfl) (by decide +kernel) (by rfl) (by rfl)
  exact Cj (Dv (Uv (Wi (Ar (pv 0))) (Qc Ec (iA (CS1 rfl) (.inl rfl) (by decide +kernel) rfl (uH (Ar (pv 0))) (λ_ _ _=>Ib) (λ_ _ _=>Dg G_show_pass hr2 rfl m_show_pass k_show_pass b_show_pass Di (Ak (Ar (pv 0)) (Ak (Ar (pv 1)) Av))))) Ec))
 case h =>
  (intro ds R q_; obtain ⟨ps,rfl,r,l60,hR⟩ := q_)
  refine ⟨rfl,?_⟩
  array_get_dec
  cases ps with
  | nil =>
   rw[show Zj (Ed (List.map Fn []))=false from rfl]
   array_get_dec
   exact hR
  | cons u ps =>
  rw[show Zj (Ed ((u::ps).map Fn))=true from rfl]
  array_get_dec
  refine rU (l:=u::ps) (g1:=λp=>Bv p.1) (g2:=λp=>.str (Oz p.2)) rfl (λ_=>true) (λp=>.str (pt p)) (λp hp yes no hy _=>?_) ?_
  ·array_get_dec
   refine ⟨p,rfl,r p hp,?_⟩
   array_get_dec
   exact hy rfl
  rw[Tn.mpr λ_ _=>rfl]
  array_get_dec
  refine ⟨(u::ps).map pt,by rw[Ds]; rfl,?_,hR⟩
  have:=Jv (sep := " ") (k:=183) (ps:=(u::ps).map pt) λp hp=>by
   obtain ⟨q,hq,rfl⟩:=Bh.mp hp
   have:=(Po (r q hq)).len
   unfold pt
   rw[Ll,dA]
   have : (Zq q.2).length=2:=by cases q.2 <;> decide +kernel
   omega
  rw[Ae] at this
  omega
end
open DRow
theorem pS{i:Int}(n:NumOk i):rW 44 (Hs i):=λz=>by
 have:=n.dg 44 z
 unfold zM at this
 omega
theorem uV{i:Int}(n:NumOk i):Ju (Hs i):=λc hc=>by
 have:=(n.dg c hc).2
 omega
theorem mN{w:List Int}(r:Ck 60 w):Ue (wt w):=⟨gR r,lI r (by unfold xH zM; omega),(Po r).hd⟩
theorem wQ{l:List Str}(h:∀z∈l,Ue z)(e:l≠[]):Pc l ≠ "none" := λz=>by
 obtain ⟨p,R,rfl⟩:=Hy e
 obtain ⟨_,_,c,hc,oc⟩:=h p Aa
 unfold Pc at z
 rw[if_neg e] at z
 have h1:=Xn (sep := " ") (p:=p) (R:=R) (by
  have:=(Aq.mp hc).1
  rw[Af] at this
  exact this)
 rw[z,hc,show (Mt "none").toList[0]? = some 110 by decide +kernel] at h1
 injection h1 with h1
 unfold xH zM at oc
 omega
theorem tF{l:List Str}(h:∀z∈l,Ue z)(e:l≠[]):Ju (Pc l):=λc hc=>by
 unfold Pc at hc
 rw[if_neg e] at hc
 rcases Zx hc with hc | ⟨p,hp,hc⟩
 ·rw[Ut] at hc
  rw[Am.mp hc]
  decide
 ·exact (h p hp).1 c hc
theorem mI{l:List Str}{k:Nat}(h:∀z∈l,z.length+1<=k)(hl:l.length<=60)(hk:k<=1000):(Pc l).length<=100000:=by
 unfold Pc
 by_cases e:l=[]
 ·rw[if_pos e,show Ex "none" = 4 by decide +kernel]; decide
 ·rw[if_neg e]
  have h1:=Td " " l
  have h2:=Jv (sep := " ") (k:=k) (ps:=l) λp hp=>by rw[Ll]; exact h p hp
  have h3:k * l.length<=1000 * 60:=Nat.mul_le_mul hk hl
  omega
theorem zI{D:List (List Int)}(h:∀w∈D,Ck 60 w):∀z∈D.map wt,Ue z:=λz hz=>by
 obtain ⟨w,hw,rfl⟩:=Bh.mp hz
 exact mN (h w hw)
theorem wB{D:List (List Int)}(h:∀w∈D,Ck 60 w)(l:D.length<=60):(Pc (D.map wt)).length<=100000:=mI (k:=181) (λz hz=>by
 obtain ⟨w,hw,rfl⟩:=Bh.mp hz
 have:=(Po (h w hw)).len
 omega) (by rw[Ae]; exact l) (by decide)
theorem Mp(p:DRow.Ps):(pt p).cps.toList=(wt p.1).cps.toList++[58,if p.2=true then 98 else 102]:=by
 unfold pt
 rw[Pl]
 cases p.2
 ·rw[show (Zq false).cps.toList=[58,102] by decide +kernel]; rfl
 ·rw[show (Zq true).cps.toList=[58,98] by decide +kernel]; rfl
theorem wO{p:DRow.Ps}(r:Ck 60 p.1):Ue (pt p):=by
 have k:=mN r
 refine ⟨λc hc=>?_,λhc=>?_,?_⟩
 ·rw[Mp] at hc
  rcases Bg.mp hc with hc | hc
  ·exact k.1 c hc
  ·simp only[Ai,Bw,or_false] at hc
   rcases hc with rfl | rfl
   ·decide
   ·split <;> decide
 ·rw[Mp] at hc
  rcases Bg.mp hc with hc | hc
  ·exact k.2.1 hc
  ·simp only[Ai,Bw,or_false] at hc
   rcases hc with hc | hc
   ·cases hc
   ·split at hc <;> cases hc
 ·obtain ⟨c,hc,oc⟩:=k.2.2
  refine ⟨c,?_,oc⟩
  rw[Mp,Gb (Aq.mp hc).1]
  exact hc
theorem jN{p:DRow.Ps}(r:Ck 60 p.1):(pt p).length<=182:=by
 have:=(Po r).len
 unfold pt
 rw[dA]
 have : (Zq p.2).length=2:=by cases p.2 <;> decide +kernel
 omega
def lR(b:Bool):Str:=if b=true then ("b" : Str) else ("f" : Str)
theorem qP{p:DRow.Ps}(r:Ck 60 p.1):Sy (pt p) ":" = [wt p.1, ":",lR p.2]:=by
 have hy:(Mt ":").toList=[58]:=nZ
 have nf:rW 58 (wt p.1):=lI r (by unfold xH zM; omega)
 have lw:(wt p.1).cps.toList.length=(wt p.1).length:=Af
 have lp:(pt p).cps.toList.length=(pt p).length:=Af
 have at0:(pt p).cps.toList[(wt p.1).length]? = some 58:=by
  rw[Mp,<- lw,Hx (Ah _),Nat.sub_self]
  rfl
 have before:∀k,k<(wt p.1).length->¬ (pt p).cps.toList[k]? = some 58:=λk hk e=>by
  rw[Mp,Gb (by rw[lw]; exact hk)] at e
  exact nf (Be e)
 have l2:(pt p).length=(wt p.1).length+2:=by
  rw[<- lp,Mp,Bj,lw]
  rfl
 unfold Sy
 rcases StrLaws.occ_head (pt p) ":" 1 (Ah _) with ⟨_,h⟩ | ⟨i,q,e,h1,h2⟩
 ·exact absurd ((Ye hy _).mpr at0) (h _)
 ·have ei:i=(wt p.1).length:=by
   rcases Kh i (wt p.1).length with z | z | z
   ·exact absurd ((Ye hy i).mp h1) (before i z)
   ·exact z
   ·exact absurd ((Ye hy _).mpr at0) (h2 _ z)
  rw[e]
  show [Cn (pt p) 0 i,(":" : Str),Cn (pt p) (i+Ex ":") (pt p).length]=_
  have a1:Cn (pt p) 0 i=wt p.1:=Qu (by
   rw[Xq,Mp,ei,<- lw,Sa,List.take_left'  rfl])
  have a2:Cn (pt p) (i+Ex ":") (pt p).length=lR p.2:=Qu (by
   rw[Xq,<- lp,Ie,Mp,ei,Qo,<- lw,<- List.drop_drop,List.drop_left' rfl]
   cases p.2
   ·exact (by decide +kernel:[102]=(Mt "f").toList)
   ·exact (by decide +kernel:[98]=(Mt "b").toList))
  rw[a1,a2]
section
variable{P:Bu}{w:World}{K:PySem.W.Frag}{mg:Str->Option Value}{base:Heap}
theorem Zk:FnScope ["thing"] ["thing"] (Bo Nx):=⟨rfl,rfl,rfl,by decide +kernel,rfl,by decide +kernel,by decide +kernel⟩
theorem Zc{f   : Addr}{fd  : Cb}(F:Fun K "check_text" "check_text" Nx f fd)(mz_str:mg "str" = none)(mz_isinstance:mg "isinstance" = none):FnOk P w K mg base Fd 1 f fd ["thing"] (Kt K (Vy)):=by
 refine' Fp (k:=0) F Zk (λcdv A outer s H E hr=>?hb) ?h
 case hb =>
  have hu64:=hr.units
  exact Cj (Gv (Pn (Pk (Gg Ru Rn rfl mz_isinstance (by decide +kernel) (Ak (Ar (pv 0)) (Ak (Xf (n := "str") rfl mz_str (by decide +kernel)) Av)))))
   (Cj Nf) Fc)
 case h =>
  (intro ds R q_; obtain ⟨z,rfl,hR⟩ := q_)
  refine ⟨rfl,?_⟩
  array_get_dec
  exact hR
theorem Wl:FnScope ["text"] ["text"] (Bo Kf):=⟨rfl,rfl,rfl,by decide +kernel,rfl,by decide +kernel,by decide +kernel⟩
theorem Yj{f f_check_text  : Addr}{fd d_check_text:Cb}(F:Fun K "read_number" "read_number" Kf f fd)(G_check_text:FnOk P w K mg base Fd 1 f_check_text d_check_text ["thing"] (Kt K (Vy)))(b_check_text:Binds K d_check_text ["thing"] [])(k_check_text:PySem.W.keepIn K (.ref f_check_text)=true)(m_check_text:mg "check_text" = some (.ref f_check_text))(mz_all:mg "all" = none)(mz_len:mg "len" = none)(mz_int:mg "int" = none){tkF tkM:Tok}(m_FIGURES:mg "FIGURES" = some (.str "0123456789" tkF))(m_MOST_FIGURES:mg "MOST_FIGURES" = some (.int 20 tkM)):FnOk P w K mg base Fd 2 f fd ["text"] (Kt K (kJ)):=by
 refine' Fp (k:=1) F Wl (λcdv A outer s H E hr=>?hb) ?h
 case hb =>
  have hr1:Room 1 _:=hr.mono (by decide)
  have hu64:=hr.units
  have CS1:∀{scope:Scope} (h:scope={ kind:=.function,names:=[(".0",.local),("sign",.local),("FIGURES",.globalImplicit)],isGenerator:=false,isCoroutine:=false }),
    CompScope (Ku Fd P w K mg base ["text"] "read_number" (Bo Kf) f cdv A outer s H E).nox scope [] "sign" [] []:=by
   rintro scope rfl
   exact Nd.compScope0 (by rfl) (by decide +kernel) (by rfl) (by decide +kernel) (by rfl) (by rfl)
  exact Bz (dH (Dg G_check_text hr1 rfl m_check_text k_check_text b_check_text Di (Ak (Ar (pv 0)) Av)))
   (Bz (Gv (jC (Wq (yQ (Gg Pg Xu rfl mz_len (by decide +kernel) (Ak (Ar (pv 0)) Av)) Ci) (Wq (yW (Gg Pg Xu rfl mz_len (by decide +kernel) (Ak (Ar (pv 0)) Av)) (tY (z:=20) rfl m_MOST_FIGURES ⟨_,rfl⟩)) (Wo (Pn (Pk (Gg (tW rfl) p9 rfl mz_all (by decide +kernel) (Ak (Mo (CS1 rfl) rfl (t8 (Ar (pv 0))) (λ_ _ _=>Ib) (λ_ _ _=>z0 (Ar (pv 0)) (sA (z := "0123456789") rfl m_FIGURES ⟨_,rfl⟩))) Av))))))))
   (Cj Nf) Fc)
   (Bz (Gv (jC (pN (Nj hu64 (Ny (Ar (pv 0)) Ci) Ec) (mF (Sk hu64 (Ar (pv 0)) Ec))))
   (Cj Nf) Fc)
   (Cj (Dv (Iw mX xC rfl mz_int (by decide +kernel) (Ak (Ar (pv 0)) Av))))))
 case h =>
  (intro ds R q_; obtain ⟨i,rfl,i0,i1,hR⟩ := q_)
  refine ⟨rfl,?_⟩
  have k:=bE i0 i1
  have kl:=k.len
  have kp:=k.pos
  array_get_dec
  refine ⟨_,rfl,?_⟩
  array_get_dec
  refine ⟨by omega,?_⟩
  rw[decide_eq_false (show ¬ ((Hs i).length:Int)<1 by omega)]
  array_get_dec
  refine ⟨by omega,?_⟩
  rw[decide_eq_false (show ¬ ((20:Int)<((Hs i).length:Int)) by omega)]
  array_get_dec
  refine ⟨uV k,by omega,?_⟩
  refine Uz (l:=(Hs i).cps.toList) (g:=λc=>.str ⟨#[c]⟩) rfl (λ_=>.bool true) (λc hc yes no hy=>?_) ?_
  ·array_get_dec
   rw[zU (k.dg c hc)]
   exact hy
  array_get_dec
  refine ⟨(Hs i).cps.toList.map λ_=>true,by rw[Ds]; rfl,?_⟩
  rw[show ((Hs i).cps.toList.map λ_=>true).all id=true from List.all_eq_true.mpr λb hb=>by
   obtain ⟨_,_,rfl⟩:=Bh.mp hb
   rfl]
  array_get_dec
  obtain ⟨c,hc⟩ : ∃c,(Hs i).cps.toList[0]? = some c:=⟨_,Cd (by rw[Af]; exact kp)⟩
  refine ⟨sz (by omega),c,dQ (j:=0) hc,?_⟩
  array_get_dec
  refine uC (λh1=>?_) (λh1=>?_)
  ·have e:=Rf h1
   have ec:c=48:=by
    have:=congrArg (λs:Str=>s.cps.toList) e
    rw[show (Mt "0").toList=[48] by decide +kernel] at this
    injection this
   have ez:=k.nz (by rw[hc,ec])
   array_get_dec
   rw[show (Hs i == ("0" : Str))=true by rw[ez]; decide +kernel]
   array_get_dec
   exact ⟨by omega,i,k.val,hR⟩
  ·array_get_dec
   exact ⟨by omega,i,k.val,hR⟩
theorem aY:FnScope ["holes", "text", "word"] ["holes", "text"] (Bo Mq):=⟨rfl,rfl,rfl,by decide +kernel,rfl,by decide +kernel,by decide +kernel⟩
theorem dO{f f_is_word f_check_text f_read_number  : Addr}{fd d_is_word d_check_text d_read_number:Cb}(F:Fun K "read_word" "read_word" Mq f fd)(G_is_word:FnOk P w K mg base Fd 2 f_is_word d_is_word ["holes", "thing"] (Kt K (eU)))(b_is_word:Binds K d_is_word ["holes", "thing"] [])(k_is_word:PySem.W.keepIn K (.ref f_is_word)=true)(m_is_word:mg "is_word" = some (.ref f_is_word))(G_check_text:FnOk P w K mg base Fd 1 f_check_text d_check_text ["thing"] (Kt K (Vy)))(b_check_text:Binds K d_check_text ["thing"] [])(k_check_text:PySem.W.keepIn K (.ref f_check_text)=true)(m_check_text:mg "check_text" = some (.ref f_check_text))(G_read_number:FnOk P w K mg base Fd 2 f_read_number d_read_number ["text"] (Kt K (kJ)))(b_read_number:Binds K d_read_number ["text"] [])(k_read_number:PySem.W.keepIn K (.ref f_read_number)=true)(m_read_number:mg "read_number" = some (.ref f_read_number))(mz_tuple:mg "tuple" = none):FnOk P w K mg base Fd 3 f fd ["holes", "text"] (Kt K (Vt)):=by
 refine' Fp (k:=2) F aY (λcdv A outer s H E hr=>?hb) ?h
 case hb =>
  have hr1:Room 1 _:=hr.mono (by decide)
  have hr2:Room 2 _:=hr.mono (by decide)
  have hu64:=hr.units
  have CS1:∀{scope:Scope} (h:scope={ kind:=.function,names:=[(".0",.local),("part",.local),("read_number",.globalImplicit)],isGenerator:=false,isCoroutine:=false }),
    CompScope (Ku Fd P w K mg base ["holes", "text", "word"] "read_word" (Bo Mq) f cdv A outer s H E).nox scope [] "part" [] []:=by
   rintro scope rfl
   exact Nd.compScope0 (by rfl) (by decide +kernel) (by rfl) (by decide +kernel) (by rfl) (by rfl)
  exact Bz (dH (Dg G_check_text hr1 rfl m_check_text k_check_text b_check_text Di (Ak (Ar (pv 1)) Av)))
   (Bz (Gv (Nj hu64 (Ar (pv 1)) Ec)
   (Cj (Dv (Rw Av))) Fc)
   (Bz (Fl (i:=2) aY.nd rfl (Cz rfl) (Iw Wy (Yt (i:=true)) rfl mz_tuple (by decide +kernel) (Ak (Mo (CS1 rfl) rfl (uH (gN (Ar (pv 1)) Ec)) (λ_ _ _=>Ib) (λ_ _ _=>Dg G_read_number hr2 rfl m_read_number k_read_number b_read_number Di (Ak (Ar (pv 0)) Av))) Av)))
   (Bz (Gv (Pn (Pk (Dg G_is_word hr2 rfl m_is_word k_is_word b_is_word Di (Ak (Ar (pv 0)) (Ak (Ar (pv 2)) Av)))))
   (Cj Nf) Fc)
   (Cj (Dv (Xy (Ar (pv 2))))))))
 case h =>
  (intro ds R q_; obtain ⟨h,w,rfl,h60,r,hR⟩ := q_)
  refine ⟨rfl,?_⟩
  have r60:Ck 60 w:=r.up h60
  have ok:=Po r60
  have ol:=ok.len
  array_get_dec
  refine ⟨_,rfl,?_⟩
  array_get_dec
  by_cases e:w=[]
  ·subst e
   rw[show (wt [] == ("-" : Str))=true by decide +kernel]
   array_get_dec
   exact hR
  ·rw[show (wt w == ("-" : Str))=false from beq_false_of_ne (ok.ne e)]
   array_get_dec
   refine ⟨by omega,gR r60,aH,oT,?_⟩
   rw[cA e,Vh aG (by simpa using e) (λp hp=>by
    obtain ⟨j,hj,rfl⟩:=Bh.mp hp
    exact pS (bE (r60.2 j hj).1 (r60.2 j hj).2))]
   refine Uz (l:=w) (g:=λi=>.str (Hs i)) (by rw[Ds]; rfl) (λi=>.int i) (λj hj yes no hy=>?_) ?_
   ·array_get_dec
    refine ⟨j,rfl,(r60.2 j hj).1,(r60.2 j hj).2,?_⟩
    array_get_dec
    exact hy
   array_get_dec
   refine ⟨h,w,rfl,λ_=>?_,λz=>absurd r z⟩
   array_get_dec
   exact hR
end
open DRow
section
variable{P:Bu}{w:World}{K:PySem.W.Frag}{mg:Str->Option Value}{base:Heap}
theorem gU:FnScope ["text"] ["text"] (Bo Rm):=⟨rfl,rfl,rfl,by decide +kernel,rfl,by decide +kernel,by decide +kernel⟩
theorem eT{f f_check_text  : Addr}{fd d_check_text:Cb}(F:Fun K "parts_of" "parts_of" Rm f fd)(G_check_text:FnOk P w K mg base Fd 1 f_check_text d_check_text ["thing"] (Kt K (Vy)))(b_check_text:Binds K d_check_text ["thing"] [])(k_check_text:PySem.W.keepIn K (.ref f_check_text)=true)(m_check_text:mg "check_text" = some (.ref f_check_text)):FnOk P w K mg base Fd 2 f fd ["text"] (Kt K (bR)):=by
 refine' Fp (k:=1) F gU (λcdv A outer s H E hr=>?hb) ?h
 case hb =>
  have hr1:Room 1 _:=hr.mono (by decide)
  have hu64:=hr.units
  exact Bz (dH (Dg G_check_text hr1 rfl m_check_text k_check_text b_check_text Di (Ak (Ar (pv 0)) Av)))
   (Cj (Dv (Uv (Nj hu64 (Ar (pv 0)) Ec) (Gq Av) (gN (Ar (pv 0)) Ec))))
 case h =>
  (intro ds R q_; obtain ⟨l,rfl,hl,ll,hR⟩ := q_)
  refine ⟨rfl,?_⟩
  array_get_dec
  refine ⟨_,rfl,?_⟩
  array_get_dec
  by_cases e:l=[]
  ·subst e
   rw[show (Pc [] == ("none" : Str))=true by decide +kernel]
   array_get_dec
   exact hR
  ·rw[show (Pc l == ("none" : Str))=false from beq_false_of_ne (wQ hl e)]
   array_get_dec
   refine ⟨ll,tF hl e,Ll,nM,?_⟩
   rw[show Pc l=Bk " " l from if_neg e,Vh Ut e λp hp=>(hl p hp).2.1]
   exact hR
theorem dR:FnScope ["holes", "text"] ["holes", "text"] (Bo Mg):=⟨rfl,rfl,rfl,by decide +kernel,rfl,by decide +kernel,by decide +kernel⟩
theorem dG{f f_read_word f_parts_of  : Addr}{fd d_read_word d_parts_of:Cb}(F:Fun K "read_deck" "read_deck" Mg f fd)(G_read_word:FnOk P w K mg base Fd 3 f_read_word d_read_word ["holes", "text"] (Kt K (Vt)))(b_read_word:Binds K d_read_word ["holes", "text"] [])(k_read_word:PySem.W.keepIn K (.ref f_read_word)=true)(m_read_word:mg "read_word" = some (.ref f_read_word))(G_parts_of:FnOk P w K mg base Fd 2 f_parts_of d_parts_of ["text"] (Kt K (bR)))(b_parts_of:Binds K d_parts_of ["text"] [])(k_parts_of:PySem.W.keepIn K (.ref f_parts_of)=true)(m_parts_of:mg "parts_of" = some (.ref f_parts_of)):FnOk P w K mg base Fd 4 f fd ["holes", "text"] (Kt K (bL)):=by
 refine' Fp (k:=3) F dR (λcdv A outer s H E hr=>?hb) ?h
 case hb =>
  have hr1:Room 1 _:=hr.mono (by decide)
  have hr2:Room 2 _:=hr.mono (by decide)
  have hr3:Room 3 _:=hr.mono (by decide)
  have hu64:=hr.units
  have CS1:∀{scope:Scope} (h:scope={ kind:=.function,names:=[(".0",.local),("part",.local),("read_word",.globalImplicit),("holes",.free)],isGenerator:=false,isCoroutine:=false }),
    CompScope (Ku Fd P w K mg base ["holes", "text"] "read_deck" (Bo Mg) f cdv A outer s H E).nox scope [("holes",s.heap.objs.size+1)] "part" ["holes"] [0]:=by
   rintro scope rfl
   refine ⟨by rfl,.inl (by decide +kernel),by rfl,by decide +kernel,.inl rfl,λy c h=>?_,by rfl,by decide +kernel,rfl,λk y j e1 e2=>?_⟩
   ·have z:=Jx h
    simp only[Ai,Bw,or_false,Prod.mk.injEq] at z
    obtain ⟨rfl,rfl⟩:=z; rfl
   ·match k,e1,e2 with
    | 0,e1,e2=>cases e1; cases e2; exact ⟨rfl,rfl,by first | exact .inl rfl | exact .inr rfl⟩
    | k+1,e1,e2=>cases e1
  exact Cj (Dv (Mo (CS1 rfl) rfl (uH (Dg G_parts_of hr2 rfl m_parts_of k_parts_of b_parts_of Di (Ak (Ar (pv 1)) Av))) (λ_ _ _=>Ib) (λ_ _ _=>Dg G_read_word hr3 rfl m_read_word k_read_word b_read_word Di (Ak (Ar (pv 1)) (Ak (Ar (pv 0)) Av)))))
 case h =>
  (intro ds R q_; obtain ⟨h,D,rfl,h60,r,lD,hR⟩ := q_)
  refine ⟨rfl,?_⟩
  have r60:∀w∈D,Ck 60 w:=λw hw=>(r w hw).up h60
  array_get_dec
  refine ⟨D.map wt,rfl,zI r60,wB r60 lD,?_⟩
  array_get_dec
  refine Uz (l:=D) (g:=λw=>.str (wt w)) (by rw[Ds]; rfl) Bv (λw hw yes no hy=>?_) ?_
  ·array_get_dec
   refine ⟨h,w,rfl,h60,r w hw,?_⟩
   array_get_dec
   exact hy
  array_get_dec
  exact hR
theorem dP:FnScope ["holes", "text", "needles", "colon", "side", "word"] ["holes", "text"] (Bo Pq):=⟨rfl,rfl,rfl,by decide +kernel,rfl,by decide +kernel,by decide +kernel⟩
theorem bQ{f f_read_word  : Addr}{fd d_read_word:Cb}(F:Fun K "read_pass" "read_pass" Pq f fd)(G_read_word:FnOk P w K mg base Fd 3 f_read_word d_read_word ["holes", "text"] (Kt K (Vt)))(b_read_word:Binds K d_read_word ["holes", "text"] [])(k_read_word:PySem.W.keepIn K (.ref f_read_word)=true)(m_read_word:mg "read_word" = some (.ref f_read_word)):FnOk P w K mg base Fd 4 f fd ["holes", "text"] (Kt K (kW)):=by
 refine' Fp (k:=3) F dP (λcdv A outer s H E hr=>?hb) ?h
 case hb =>
  have hr1:Room 1 _:=hr.mono (by decide)
  have hr2:Room 2 _:=hr.mono (by decide)
  have hr3:Room 3 _:=hr.mono (by decide)
  have hu64:=hr.units
  exact Bz (o8 (wU (Ar (pv 1)) Ec) (o9 (n:=3) rfl (Wz (Ih (i:=2) dP.nd rfl (Cz rfl)) (Wz (Ih (i:=3) dP.nd rfl (Cz rfl)) (Wz (Ih (i:=4) dP.nd rfl (Cz rfl)) wJ)))))
   (Bz (Fl (i:=5) dP.nd rfl (Cz rfl) (Dg G_read_word hr3 rfl m_read_word k_read_word b_read_word Di (Ak (Ar (pv 0)) (Ak (Ar (pv 2)) Av))))
   (Bz (Gv (fX hu64 (Ar (pv 4)) (Rw (Ak Ec (Ak Ec Av))))
   (Cj Nf) Fc)
   (Cj (Dv (Rw (Ak (Xy (Ar (pv 5))) (Ak (Uv (Nj hu64 (Ar (pv 4)) Ec) Ec Ec) Av)))))))
 case h =>
  (intro ds R q_; obtain ⟨h,p,rfl,h60,r,hR⟩ := q_)
  refine ⟨rfl,?_⟩
  have r60:Ck 60 p.1:=r.up h60
  have lp:=jN r60
  array_get_dec
  refine ⟨by omega,Qo,?_⟩
  rw[qP r60]
  array_get_dec
  refine ⟨h,p.1,rfl,h60,r,?_⟩
  obtain ⟨w,b⟩:=p
  unfold Fn at hR
  cases b with
  | false =>
   rw[show lR false = "f" from rfl]
   array_get_dec
   rw[show ([Fe "f",.str "b"].any λe=>Dh e (.str "f"))=true by simp [Dh]]
   array_get_dec
   exact hR
  | true =>
   rw[show lR true = "b" from rfl]
   array_get_dec
   rw[show ([Fe "f",.str "b"].any λe=>Dh e (.str "b"))=true by simp [Dh]]
   array_get_dec
   rw[show (("b" : Str) == "f")=false by decide +kernel]
   array_get_dec
   exact hR
theorem gX:FnScope ["holes", "text"] ["holes", "text"] (Bo Of):=⟨rfl,rfl,rfl,by decide +kernel,rfl,by decide +kernel,by decide +kernel⟩
theorem fJ{f f_parts_of f_read_pass  : Addr}{fd d_parts_of d_read_pass:Cb}(F:Fun K "read_row" "read_row" Of f fd)(G_parts_of:FnOk P w K mg base Fd 2 f_parts_of d_parts_of ["text"] (Kt K (bR)))(b_parts_of:Binds K d_parts_of ["text"] [])(k_parts_of:PySem.W.keepIn K (.ref f_parts_of)=true)(m_parts_of:mg "parts_of" = some (.ref f_parts_of))(G_read_pass:FnOk P w K mg base Fd 4 f_read_pass d_read_pass ["holes", "text"] (Kt K (kW)))(b_read_pass:Binds K d_read_pass ["holes", "text"] [])(k_read_pass:PySem.W.keepIn K (.ref f_read_pass)=true)(m_read_pass:mg "read_pass" = some (.ref f_read_pass)):FnOk P w K mg base Fd 5 f fd ["holes", "text"] (Kt K (lG)):=by
 refine' Fp (k:=4) F gX (λcdv A outer s H E hr=>?hb) ?h
 case hb =>
  have hr1:Room 1 _:=hr.mono (by decide)
  have hr2:Room 2 _:=hr.mono (by decide)
  have hr3:Room 3 _:=hr.mono (by decide)
  have hr4:Room 4 _:=hr.mono (by decide)
  have hu64:=hr.units
  have CS1:∀{scope:Scope} (h:scope={ kind:=.function,names:=[(".0",.local),("part",.local),("read_pass",.globalImplicit),("holes",.free)],isGenerator:=false,isCoroutine:=false }),
    CompScope (Ku Fd P w K mg base ["holes", "text"] "read_row" (Bo Of) f cdv A outer s H E).nox scope [("holes",s.heap.objs.size+1)] "part" ["holes"] [0]:=by
   rintro scope rfl
   refine ⟨by rfl,.inl (by decide +kernel),by rfl,by decide +kernel,.inl rfl,λy c h=>?_,by rfl,by decide +kernel,rfl,λk y j e1 e2=>?_⟩
   ·have z:=Jx h
    simp only[Ai,Bw,or_false,Prod.mk.injEq] at z
    obtain ⟨rfl,rfl⟩:=z; rfl
   ·match k,e1,e2 with
    | 0,e1,e2=>cases e1; cases e2; exact ⟨rfl,rfl,by first | exact .inl rfl | exact .inr rfl⟩
    | k+1,e1,e2=>cases e1
  exact Cj (Dv (Mo (CS1 rfl) rfl (uH (Dg G_parts_of hr2 rfl m_parts_of k_parts_of b_parts_of Di (Ak (Ar (pv 1)) Av))) (λ_ _ _=>Ib) (λ_ _ _=>Dg G_read_pass hr4 rfl m_read_pass k_read_pass b_read_pass Di (Ak (Ar (pv 1)) (Ak (Ar (pv 0)) Av)))))
 case h =>
  (intro ds R q_; obtain ⟨h,ps,rfl,h60,r,lD,hR⟩ := q_)
  refine ⟨rfl,?_⟩
  have r60:∀p∈ps,Ck 60 p.1:=λp hp=>(r p hp).up h60
  array_get_dec
  refine ⟨ps.map pt,rfl,λz hz=>?_,mI (k:=183) (λz hz=>?_) (by rw[Ae]; exact lD) (by decide),?_⟩
  ·obtain ⟨p,hp,rfl⟩:=Bh.mp hz
   exact wO (r60 p hp)
  ·obtain ⟨p,hp,rfl⟩:=Bh.mp hz
   have:=jN (r60 p hp)
   omega
  array_get_dec
  refine Uz (l:=ps) (g:=λp=>.str (pt p)) (by rw[Ds]; rfl) Fn (λp hp yes no hy=>?_) ?_
  ·array_get_dec
   refine ⟨h,p,rfl,h60,r p hp,?_⟩
   array_get_dec
   exact hy
  array_get_dec
  exact hR
theorem bP:FnScope ["holes", "text", "code"] ["holes", "text"] (Bo Pa):=⟨rfl,rfl,rfl,by decide +kernel,rfl,by decide +kernel,by decide +kernel⟩
theorem bF{f f_read_deck  : Addr}{fd d_read_deck:Cb}(F:Fun K "read_code" "read_code" Pa f fd)(G_read_deck:FnOk P w K mg base Fd 4 f_read_deck d_read_deck ["holes", "text"] (Kt K (bL)))(b_read_deck:Binds K d_read_deck ["holes", "text"] [])(k_read_deck:PySem.W.keepIn K (.ref f_read_deck)=true)(m_read_deck:mg "read_deck" = some (.ref f_read_deck))(mz_len:mg "len" = none)(mz_set:mg "set" = none):FnOk P w K mg base Fd 5 f fd ["holes", "text"] (Kt K (kM)):=by
 refine' Fp (k:=4) F bP (λcdv A outer s H E hr=>?hb) ?h
 case hb =>
  have hr1:Room 1 _:=hr.mono (by decide)
  have hr2:Room 2 _:=hr.mono (by decide)
  have hr3:Room 3 _:=hr.mono (by decide)
  have hr4:Room 4 _:=hr.mono (by decide)
  have hu64:=hr.units
  exact Bz (Qh (i:=2) bP.nd rfl (Cz rfl) (Dg G_read_deck hr4 rfl m_read_deck k_read_deck b_read_deck Di (Ak (Ar (pv 0)) (Ak (Ar (pv 1)) Av))))
   (Bz (Gv (Sk hu64 (oF hu64 rfl rfl mz_len rfl mz_set (Ak (Ar (pv 2)) Av)) (Gg Pg Xu rfl mz_len (by decide +kernel) (Ak (Ar (pv 2)) Av)))
   (Cj Nf) Fc)
   (Cj (Dv (Wc (pv 2)))))
 case h =>
  (intro ds R q_; obtain ⟨h,D,rfl,h60,r,lD,nd,hR⟩ := q_)
  refine ⟨rfl,?_⟩
  array_get_dec
  refine ⟨h,D,rfl,h60,r,lD,?_⟩
  array_get_dec
  refine ⟨D,rfl,by omega,λn n1 n2 n3=>?_⟩
  rw[n2 nd]
  array_get_dec
  rw[Ae,decide_eq_true rfl]
  array_get_dec
  exact hR
end
open DRow
def xM:DF:=λds n R=>∃h m:Int,ds=[.int h,.int m]/\1<=h/\h<=60/\0<=m/\m<=60/\n<=50000/\∀(ps:List DRow.Ps) n',(ps.length:Int)<=m->(∀p∈ps,Ck h p.1)->n<=n'->n'<=n+1+1200->R (.list (ps.map Fn)) n'
def tX:DF:=λds n R=>∃h m:Int,ds=[.int h,.int m]/\1<=h/\h<=60/\0<=m/\m<=60/\n<=50000/\∀(ws:List (List Int)) n',(ws.length:Int)<=m->(∀w∈ws,Ck h w)->n<=n'->n'<=n+1+1200->R (.list (ws.map Bv)) n'
def rK:DF:=λds n R=>∃h m:Int,ds=[.int h,.int m]/\1<=h/\h<=60/\0<=m/\m<=60/\n<=50000/\∀(ws:List (List Int)) n',(ws.length:Int)<=m->(∀w∈ws,Ck h w)->ws.Nodup->n<=n'->n'<=n+1+1200->R (.list (ws.map Bv)) n'
theorem Tz(w:List Int)(lo hi:Option Int):Km (w.map By) lo hi=(Km w lo hi).map By:=by
 unfold Km
 rw[Ae,<- List.map_drop,<- List.map_take]
section
variable{P:Bu}{w:World}{K:PySem.W.Frag}{mg:Str->Option Value}{base:Heap}
theorem bG:FnScope ["_law_draws_here", "_law_holes", "_law_pick", "_law_bits", "_law_told", "_law_place"] ["_law_draws_here", "_law_holes"] (Bo Pm):=⟨rfl,rfl,rfl,by decide +kernel,rfl,by decide +kernel,by decide +kernel⟩
theorem dJ{f f_L_next  : Addr}{fd d_L_next:Cb}(F:Fun K "_law_word" "_law_word" Pm f fd)(G_L_next:FnOk P w K mg base Fd 1 f_L_next d_L_next ["_law_draws_here"] (Zn K Rp))(b_L_next:Binds K d_L_next ["_law_draws_here"] [])(k_L_next:PySem.W.keepIn K (.ref f_L_next)=true)(m_L_next:mg "_law_next" = some (.ref f_L_next))(mz_range:mg "range" = none)(mz_tuple:mg "tuple" = none):FnOk P w K mg base Fd 2 f fd ["_law_draws_here", "_law_holes"] (Zn K (Ww)):=by
 refine' Wb (k:=1) F bG (λcdv A outer s H E hr=>?hb) ?h
 case hb =>
  have hr1:Room 1 _:=hr.mono (by decide)
  have hu64:=hr.units
  exact Bz (Fl (i:=2) bG.nd rfl (Cz rfl) (Eh G_L_next hr1 rfl m_L_next k_L_next b_L_next Di (pv 0) Av))
   (Bz (Fl (i:=3) bG.nd rfl (Cz rfl) (Od (Ar (pv 2)) Ci))
   (Bz (Qh (i:=4) bG.nd rfl (Cz rfl) (Gq Av))
   (Bz (Oe Ej rfl (Nn rfl mz_range (Ak (Ar (pv 1)) Av)) (Ih (i:=5) bG.nd rfl (Cz rfl))
   (Bz (Gv (Nj hu64 (Fz (Ar (pv 5)) Ci) Ci)
    (Cj (Fl (i:=3) bG.nd rfl (Cz rfl) (Eh G_L_next hr1 rfl m_L_next k_L_next b_L_next Di (pv 0) Av))) Fc)
    (Bz (Gv (Nj hu64 (Fz (Ar (pv 3)) (Ny (Gq (Ak Ci (Ak Ci (Ak Ci (Ak Ci Av))))) (Fz (Ar (pv 2)) Ci))) Ci)
    (Cj (Qe (pv 4) (Ar (pv 5)))) Fc)
    (Cj (Fl (i:=3) bG.nd rfl (Cz rfl) (Od (Ar (pv 3)) Ci))))))
   (Cj (Dv (Iw Wy (Yt (i:=true)) rfl mz_tuple (by decide +kernel) (Ak (Ar (pv 4)) Av)))))))
 case h =>
  (intro ds n R q_; obtain ⟨h,rfl,h1,h60,hn,hR⟩ := q_)
  refine ⟨rfl,?_⟩
  array_get_dec
  refine ⟨rfl,by omega,λr1=>?_⟩
  array_get_dec
  refine ⟨by omega,by omega,?_⟩
  refine cH (l:=Br h.toNat) (g:=λi:Nat=>.int i) rfl (λi δ=>∃(p:Int) (ns:List Int) (v:DV) (n1:Nat),δ=⟨[.drw,.dat .sh (.int h),.dat .sh (.int r1),.dat .sh (.int p),.dat .ow (.list (ns.map By)),v],n1⟩/\Ck i ns/\NP v/\n<=n1/\n1<=n+1+i / 16) ?_ ?_ ?_
  ·exact ⟨_,[],_,_,rfl,Ck.nil _,Mj,by omega,by omega⟩
  ·(intro i a _ ha q_; obtain ⟨p,ns,v,n1,rfl,hr,hv,k1,k2⟩ := q_)
   obtain ⟨rfl,hi⟩:=Sz ha
   have l60:=nP (zQ hr) (λx hx=>by have:=hr.2 x hx; omega)
   array_get_dec
   refine pV (λδ=>∃(p:Int) (n2:Nat),δ=⟨[.drw,.dat .sh (.int h),.dat .sh (.int r1),.dat .sh (.int p),.dat .ow (.list (ns.map By)),.dat .sh (.int a)],n2⟩/\n<=n2/\n2<=n+1+(a+1) / 16) (λN hN=>?_) ?_
   ·refine Ve (λhb=>?_) (λhb=>?_)
    ·have hb:=of_decide_eq_true hb
     array_get_dec
     refine ⟨rfl,by omega,λr2=>?_⟩
     array_get_dec
     exact hN _ ⟨r2,_,rfl,by omega,by omega⟩
    ·array_get_dec
     exact hN _ ⟨p,_,rfl,by omega,by omega⟩
   ·(intro _ q_; obtain ⟨p,n2,rfl,k3,k4⟩ := q_)
    array_get_dec
    obtain ⟨q,e1,e2⟩ : ∃q:Int,Sm [By 2,.int 2,.int 4,.int 1] (r1 % 4)=some (.int q)/\0<q/\q<1073741824:=by
     have:=Jw r1 (b:=4) (by decide)
     rcases (by omega:r1 % 4=0\/r1 % 4=1\/r1 % 4=2\/r1 % 4=3) with e | e | e | e <;> rw[e]
     ·exact ⟨2,tU _ _,by decide⟩
     ·exact ⟨2,sO _ _ _,by decide⟩
     ·exact ⟨4,xX _ _ _ _,by decide⟩
     ·exact ⟨1,yR _ _ _ _ _,by decide⟩
    refine ⟨_,e1,?_⟩
    array_get_dec
    refine ⟨e2.1,?_⟩
    refine Ve (λhb=>?_) (λhb=>?_)
    ·array_get_dec
     refine ⟨by rw[Ae]; omega,?_⟩
     refine ⟨_,ns++[(a:Int)],_,_,gJ (by rw[Cm]; rfl) rfl,hr.more (by omega),Jo,by omega,by omega⟩
    ·array_get_dec
     exact ⟨_,ns,_,_,rfl,hr.up (by omega),Jo,by omega,by omega⟩
  ·(intro _ q_; obtain ⟨p,ns,v,n1,rfl,hr,hv,k1,k2⟩ := q_)
   rw[De] at hr k2
   array_get_dec
   exact ⟨by omega,hR ns _ (by omega) (by omega) (by rwa [show ((h.toNat:Nat):Int)=h by omega] at hr)⟩
theorem gF:FnScope ["_law_draws_here", "_law_holes", "_law_many", "_law_told", "_law_k", "_law_needles"] ["_law_draws_here", "_law_holes", "_law_many"] (Bo Ro):=⟨rfl,rfl,rfl,by decide +kernel,rfl,by decide +kernel,by decide +kernel⟩
theorem eN{f f_L_next f_L_word  : Addr}{fd d_L_next d_L_word:Cb}(F:Fun K "_law_row" "_law_row" Ro f fd)(G_L_next:FnOk P w K mg base Fd 1 f_L_next d_L_next ["_law_draws_here"] (Zn K Rp))(b_L_next:Binds K d_L_next ["_law_draws_here"] [])(k_L_next:PySem.W.keepIn K (.ref f_L_next)=true)(m_L_next:mg "_law_next" = some (.ref f_L_next))(G_L_word:FnOk P w K mg base Fd 2 f_L_word d_L_word ["_law_draws_here", "_law_holes"] (Zn K (Ww)))(b_L_word:Binds K d_L_word ["_law_draws_here", "_law_holes"] [])(k_L_word:PySem.W.keepIn K (.ref f_L_word)=true)(m_L_word:mg "_law_word" = some (.ref f_L_word))(mz_range:mg "range" = none):FnOk P w K mg base Fd 3 f fd ["_law_draws_here", "_law_holes", "_law_many"] (Zn K (xM)):=by
 refine' Wb (k:=2) F gF (λcdv A outer s H E hr=>?hb) ?h
 case hb =>
  have hr1:Room 1 _:=hr.mono (by decide)
  have hr2:Room 2 _:=hr.mono (by decide)
  have hu64:=hr.units
  exact Bz (Qh (i:=3) gF.nd rfl (Cz rfl) (Gq Av))
   (Bz (Oe Ej rfl (Nn rfl mz_range (Ak (Fz (Eh G_L_next hr1 rfl m_L_next k_L_next b_L_next Di (pv 0) Av) (Uq (Ar (pv 2)) Ci)) Av)) (Ih (i:=4) gF.nd rfl (Cz rfl))
   (Bz (Fl (i:=5) gF.nd rfl (Cz rfl) (Eh G_L_word hr2 rfl m_L_word k_L_word b_L_word Di (pv 0) (Ak (Ar (pv 1)) Av)))
    (Bz (Gv (yW (Fz (Eh G_L_next hr1 rfl m_L_next k_L_next b_L_next Di (pv 0) Av) Ci) Ci)
    (Cj (Fl (i:=5) gF.nd rfl (Cz rfl) (Yh (i:=true) (Ar (pv 5)) Sw (So (Uq Ci (Fz (Eh G_L_next hr1 rfl m_L_next k_L_next b_L_next Di (pv 0) Av) Ci)))))) Fc)
    (Cj (Qe (pv 3) (Rw (Ak (Xy (Ar (pv 5))) (Ak (Ny (Gq (Ak Ec (Ak Ec Av))) (Fz (Eh G_L_next hr1 rfl m_L_next k_L_next b_L_next Di (pv 0) Av) Ci)) Av))))))))
   (Cj (Dv (Wc (pv 3)))))
 case h =>
  (intro ds n R q_; obtain ⟨h,m,rfl,h1,h60,m0,m60,hn,hR⟩ := q_)
  refine ⟨rfl,?_⟩
  array_get_dec
  refine ⟨rfl,by omega,λr1=>?_⟩
  array_get_dec
  have bm:=Jw r1 (b:=m+1) (by omega)
  refine ⟨by omega,by omega,by omega,?_⟩
  refine cH (l:=Br (r1 % (m+1)).toNat) (g:=λi:Nat=>.int i) rfl (λi δ=>∃(ps:List DRow.Ps) (v1 v2:DV) (n':Nat),δ=⟨[.drw,.dat .sh (.int h),.dat .sh (.int m),.dat .ow (.list (ps.map Fn)),v1,v2],n'⟩/\n<=n'/\n'<=n+1+20 * i/\ps.length<=i/\(∀p∈ps,Ck h p.1)/\NP v1/\NP v2) ?_ ?_ ?_
  ·exact ⟨[],_,_,_,rfl,by omega,by omega,Ah _,λ_ z=>(nomatch z),Mj,Mj⟩
  ·(intro i a _ ha q_; obtain ⟨ps,v1,v2,n1,rfl,k1,k2,lp,hp,hv1,hv2⟩ := q_)
   obtain ⟨rfl,hi⟩:=Sz ha
   array_get_dec
   refine ⟨h,rfl,h1,h60,by omega,λw n2 l1 l2 rw_=>?_⟩
   array_get_dec
   refine ⟨rfl,by omega,λr2=>?_⟩
   array_get_dec
   refine pV (λδ=>∃(w':List Int) (n3:Nat),δ=⟨[.drw,.dat .sh (.int h),.dat .sh (.int m),.dat .ow (.list (ps.map Fn)),.dat .sh (.int a),.dat .sh (Bv w')],n3⟩/\n2<=n3/\n3<=n2+3/\Ck h w') (λN hN=>?_) ?_
   ·refine Ve (λhb=>?_) (λhb=>?_)
    ·array_get_dec
     refine ⟨rfl,by omega,λr3=>?_⟩
     array_get_dec
     rw[Tz]
     array_get_dec
     exact hN _ ⟨_,_,rfl,by omega,by omega,rw_.sub (Lr _ _ _)⟩
    ·array_get_dec
     exact hN _ ⟨w,_,rfl,by omega,by omega,rw_⟩
   ·(intro _ q_; obtain ⟨w',n3,rfl,k3,k4,rw'⟩ := q_)
    array_get_dec
    refine ⟨rfl,by omega,λr4=>?_⟩
    array_get_dec
    obtain ⟨b,eb⟩ : ∃b,Sm [Fe "front",.str "back"] (r4 % 2)=some (.str (Oz b)):=by
     have:=Jw r4 (b:=2) (by decide)
     rcases (by omega:r4 % 2=0\/r4 % 2=1) with e | e <;> rw[e]
     ·exact ⟨false,tU _ _⟩
     ·exact ⟨true,sO _ _ _⟩
    refine ⟨_,eb,?_⟩
    array_get_dec
    refine ⟨by rw[Ae]; omega,ps++[(w',b)],_,_,_,gJ (by rw[Cm]; rfl) rfl,by omega,by omega,by rw[Bj,Er]; omega,λp hp'=>?_,Jo,Jo⟩
    rcases Bg.mp hp' with z | z
    ·exact hp p z
    ·rw[Am.mp z]; exact rw'
  ·(intro _ q_; obtain ⟨ps,v1,v2,n1,rfl,k1,k2,lp,hp,hv1,hv2⟩ := q_)
   rw[De] at lp k2
   array_get_dec
   exact ⟨k1,hR ps _ (by omega) hp k1 (by omega)⟩
theorem cO:FnScope ["_law_draws_here", "_law_holes", "_law_many", "_law_told", "_law_k"] ["_law_draws_here", "_law_holes", "_law_many"] (Bo Pd):=⟨rfl,rfl,rfl,by decide +kernel,rfl,by decide +kernel,by decide +kernel⟩
theorem cI{f f_L_next f_L_word  : Addr}{fd d_L_next d_L_word:Cb}(F:Fun K "_law_deck" "_law_deck" Pd f fd)(G_L_next:FnOk P w K mg base Fd 1 f_L_next d_L_next ["_law_draws_here"] (Zn K Rp))(b_L_next:Binds K d_L_next ["_law_draws_here"] [])(k_L_next:PySem.W.keepIn K (.ref f_L_next)=true)(m_L_next:mg "_law_next" = some (.ref f_L_next))(G_L_word:FnOk P w K mg base Fd 2 f_L_word d_L_word ["_law_draws_here", "_law_holes"] (Zn K (Ww)))(b_L_word:Binds K d_L_word ["_law_draws_here", "_law_holes"] [])(k_L_word:PySem.W.keepIn K (.ref f_L_word)=true)(m_L_word:mg "_law_word" = some (.ref f_L_word))(mz_range:mg "range" = none)(mz_len:mg "len" = none):FnOk P w K mg base Fd 3 f fd ["_law_draws_here", "_law_holes", "_law_many"] (Zn K (tX)):=by
 refine' Wb (k:=2) F cO (λcdv A outer s H E hr=>?hb) ?h
 case hb =>
  have hr1:Room 1 _:=hr.mono (by decide)
  have hr2:Room 2 _:=hr.mono (by decide)
  have hu64:=hr.units
  exact Bz (Qh (i:=3) cO.nd rfl (Cz rfl) (Gq Av))
   (Bz (Oe Ej rfl (Nn rfl mz_range (Ak (Fz (Eh G_L_next hr1 rfl m_L_next k_L_next b_L_next Di (pv 0) Av) (Uq (Ar (pv 2)) Ci)) Av)) (Ih (i:=4) cO.nd rfl (Cz rfl))
   (Bz (Qe (pv 3) (Eh G_L_word hr2 rfl m_L_word k_L_word b_L_word Di (pv 0) (Ak (Ar (pv 1)) Av)))
    (Cj (Gv (Nj hu64 (Fz (Eh G_L_next hr1 rfl m_L_next k_L_next b_L_next Di (pv 0) Av) Ci) Ci)
    (Cj (uX (pv 3) (Ar (pv 4)) (Ny (Ar (pv 3)) (Fz (Eh G_L_next hr1 rfl m_L_next k_L_next b_L_next Di (pv 0) Av) (Gg Pg Xu rfl mz_len (by decide +kernel) (Ak (Ar (pv 3)) Av)))))) Fc))))
   (Cj (Dv (Wc (pv 3)))))
 case h =>
  (intro ds n R q_; obtain ⟨h,m,rfl,h1,h60,m0,m60,hn,hR⟩ := q_)
  refine ⟨rfl,?_⟩
  array_get_dec
  refine ⟨rfl,by omega,λr1=>?_⟩
  array_get_dec
  have bm:=Jw r1 (b:=m+1) (by omega)
  refine ⟨by omega,by omega,by omega,?_⟩
  refine cH (l:=Br (r1 % (m+1)).toNat) (g:=λi:Nat=>.int i) rfl (λi δ=>∃(ws:List (List Int)) (v:DV) (n':Nat),δ=⟨[.drw,.dat .sh (.int h),.dat .sh (.int m),.dat .ow (.list (ws.map Bv)),v],n'⟩/\n<=n'/\n'<=n+1+15 * i/\ws.length=i/\(∀w∈ws,Ck h w)/\NP v) ?_ ?_ ?_
  ·exact ⟨[],_,_,rfl,by omega,by omega,rfl,λ_ z=>(nomatch z),Mj⟩
  ·(intro i a _ ha q_; obtain ⟨ws,v,n1,rfl,k1,k2,lw,hw,hv⟩ := q_)
   obtain ⟨rfl,hi⟩:=Sz ha
   array_get_dec
   refine ⟨h,rfl,h1,h60,by omega,λw n2 l1 l2 rw_=>?_⟩
   array_get_dec
   refine ⟨by rw[Ae]; omega,rfl,by omega,λr2=>?_⟩
   array_get_dec
   have hall:∀x∈ws++[w],Ck h x:=λx hx=>by
    rcases Bg.mp hx with z | z
    ·exact hw x z
    ·rw[Am.mp z]; exact rw_
   refine Ve (λhb=>?_) (λhb=>?_)
   ·array_get_dec
    refine ⟨rfl,by omega,λr3=>?_⟩
    have ew:ws.map Bv++[Bv w]=(ws++[w]).map Bv:=by rw[Cm]; rfl
    have lw1:(ws++[w]).length=a+1:=by rw[Bj,Er]; omega
    rw[ew]
    array_get_dec
    have bl:=Jw r3 (b:=((((ws++[w]).map Bv).length:Nat):Int)) (by rw[Ae]; omega)
    obtain ⟨x,hx,e1⟩:=aN (ws:=ws++[w]) (i:=r3 % ((((ws++[w]).map Bv).length:Nat):Int)) bl.1 (by have:=bl.2; rw[Ae] at this ⊢; omega)
    refine ⟨by rw[Ae]; omega,_,e1,?_⟩
    array_get_dec
    refine ⟨a,by unfold pE; rw[if_pos (by omega),if_pos (by rw[Ae]; omega),Oj],(ws++[w]).set a x,_,_,gJ (by rw[Em]) rfl,by omega,by omega,by rw[Hi]; exact lw1,λy hy=>?_,Jo⟩
    rcases List.mem_or_eq_of_mem_set hy with z | z
    ·exact hall y z
    ·rw[z]; exact hall x hx
   ·array_get_dec
    exact ⟨ws++[w],_,_,gJ (by rw[Cm]; rfl) rfl,by omega,by omega,by rw[Bj,Er]; omega,hall,Jo⟩
  ·(intro _ q_; obtain ⟨ws,v,n1,rfl,k1,k2,lw,hw,hv⟩ := q_)
   rw[De] at lw k2
   array_get_dec
   exact ⟨k1,hR ws _ (by omega) hw k1 (by omega)⟩
theorem bI:FnScope ["_law_draws_here", "_law_holes", "_law_many", "_law_told", "_law_k", "_law_word_here", "_law_pick", "_law_other"] ["_law_draws_here", "_law_holes", "_law_many"] (Bo Ph):=⟨rfl,rfl,rfl,by decide +kernel,rfl,by decide +kernel,by decide +kernel⟩
theorem cT{f f_L_next f_L_word  : Addr}{fd d_L_next d_L_word:Cb}(F:Fun K "_law_code" "_law_code" Ph f fd)(G_L_next:FnOk P w K mg base Fd 1 f_L_next d_L_next ["_law_draws_here"] (Zn K Rp))(b_L_next:Binds K d_L_next ["_law_draws_here"] [])(k_L_next:PySem.W.keepIn K (.ref f_L_next)=true)(m_L_next:mg "_law_next" = some (.ref f_L_next))(G_L_word:FnOk P w K mg base Fd 2 f_L_word d_L_word ["_law_draws_here", "_law_holes"] (Zn K (Ww)))(b_L_word:Binds K d_L_word ["_law_draws_here", "_law_holes"] [])(k_L_word:PySem.W.keepIn K (.ref f_L_word)=true)(m_L_word:mg "_law_word" = some (.ref f_L_word))(mz_range:mg "range" = none)(mz_len:mg "len" = none)(mz_sorted:mg "sorted" = none)(mz_set:mg "set" = none)(mz_tuple:mg "tuple" = none):FnOk P w K mg base Fd 3 f fd ["_law_draws_here", "_law_holes", "_law_many"] (Zn K (rK)):=by
 refine' Wb (k:=2) F bI (λcdv A outer s H E hr=>?hb) ?h
 case hb =>
  have hr1:Room 1 _:=hr.mono (by decide)
  have hr2:Room 2 _:=hr.mono (by decide)
  have hu64:=hr.units
  exact Bz (Qh (i:=3) bI.nd rfl (Cz rfl) (Gq Av))
   (Bz (Oe Ej rfl (Nn rfl mz_range (Ak (Fz (Eh G_L_next hr1 rfl m_L_next k_L_next b_L_next Di (pv 0) Av) (Uq (Ar (pv 2)) Ci)) Av)) (Ih (i:=4) bI.nd rfl (Cz rfl))
   (Bz (Fl (i:=5) bI.nd rfl (Cz rfl) (Eh G_L_word hr2 rfl m_L_word k_L_word b_L_word Di (pv 0) (Ak (Ar (pv 1)) Av)))
    (Bz (Fl (i:=6) bI.nd rfl (Cz rfl) (Eh G_L_next hr1 rfl m_L_next k_L_next b_L_next Di (pv 0) Av))
    (Bz (Gv (jC (pN (Sk hu64 (Ar (pv 3)) (Gq Av)) (mF (Nj hu64 (Fz (Ar (pv 6)) Ci) Ci))))
    (Bz (Fl (i:=7) bI.nd rfl (Cz rfl) (Xy (Ny (Ar (pv 3)) (Fz (Od (Ar (pv 6)) Ci) (Gg Pg Xu rfl mz_len (by decide +kernel) (Ak (Ar (pv 3)) Av))))))
     (Cj (Fl (i:=5) bI.nd rfl (Cz rfl) (Iw Wy (Yt (i:=true)) rfl mz_tuple (by decide +kernel) (Ak (zL rfl rfl mz_sorted rfl mz_set (Ak (wH (Ar (pv 7)) (Yh (i:=true) (Ar (pv 5)) Sw (So Ci))) Av)) Av))))) Fc)
    (Bz (Gv (Nj hu64 (Fz (Ar (pv 6)) Ci) Ci)
    (Cj (Fl (i:=5) bI.nd rfl (Cz rfl) (Yh (i:=true) (Ar (pv 5)) Sw (So Ci)))) Fc)
    (Cj (Gv (fX hu64 (Ar (pv 5)) (Ar (pv 3)))
    (Cj (Qe (pv 3) (Ar (pv 5)))) Fc)))))))
   (Cj (Dv (Wc (pv 3)))))
 case h =>
  (intro ds n R q_; obtain ⟨h,m,rfl,h1,h60,m0,m60,hn,hR⟩ := q_)
  refine ⟨rfl,?_⟩
  array_get_dec
  refine ⟨rfl,by omega,λr1=>?_⟩
  array_get_dec
  have bm:=Jw r1 (b:=m+1) (by omega)
  refine ⟨by omega,by omega,by omega,?_⟩
  refine cH (l:=Br (r1 % (m+1)).toNat) (g:=λi:Nat=>.int i) rfl (λi δ=>∃(ws:List (List Int)) (v4 v5 v6 v7:DV) (n':Nat),δ=⟨[.drw,.dat .sh (.int h),.dat .sh (.int m),.dat .ow (.list (ws.map Bv)),v4,v5,v6,v7],n'⟩/\n<=n'/\n'<=n+1+15 * i/\ws.length<=i/\(∀w∈ws,Ck h w)/\ws.Nodup/\NP v4/\NP v5/\NP v6/\NP v7) ?_ ?_ ?_
  ·exact ⟨[],_,_,_,_,_,rfl,by omega,by omega,Ah _,(λ_ z=>nomatch z),Do,Mj,Mj,Mj,Mj⟩
  ·(intro i a _ ha q_; obtain ⟨ws,v4,v5,v6,v7,n1,rfl,k1,k2,lw,hw,nd,hv4,hv5,hv6,hv7⟩ := q_)
   obtain ⟨rfl,hi⟩:=Sz ha
   array_get_dec
   refine ⟨h,rfl,h1,h60,by omega,λw n2 l1 l2 rw_=>?_⟩
   array_get_dec
   refine ⟨rfl,by omega,λr2=>?_⟩
   array_get_dec
   refine G8 (λP=>zY _ _ _ P) (λδ=>∃(w':List Int) (v7:DV),δ=⟨[.drw,.dat .sh (.int h),.dat .sh (.int m),.dat .ow (.list (ws.map Bv)),.dat .sh (.int a),.dat .sh (Bv w'),.dat .sh (.int r2),v7],n2+1⟩/\Ck h w'/\NP v7) (λN hN=>?_) ?_
   ·refine uC (λhb=>?_) (λhb=>?_)
    ·have hne:ws≠[]:=λz=>by rw[z] at hb; cases hb
     have hl:0<ws.length:=List.length_pos_iff.mpr hne
     array_get_dec
     refine Ve (λhb2=>?_) (λhb2=>?_)
     ·array_get_dec
      have bl:=Jw (r2 / 4) (b:=((ws.map Bv).length:Int)) (by rw[Ae]; omega)
      obtain ⟨x,hx,e1⟩:=aN (ws:=ws) (i:=r2 / 4 % ((ws.map Bv).length:Int)) bl.1 (by have:=bl.2; rw[Ae] at this ⊢; omega)
      have lx:=Ls ((hw x hx).up h60)
      have l1':=Ls (rw_.up h60)
      have lc:=(Lr w none (some 1)).length_le
      refine ⟨by rw[Ae]; omega,_,e1,?_⟩
      array_get_dec
      rw[Tz]
      have hb2':∀z∈x++Km w none (some 1),0<=z/\z<h:=λz hz=>by
       rcases Bg.mp hz with q | q
       ·exact (hw x hx).2 z q
       ·exact rw_.2 z ((Lr _ _ _).subset q)
      exact ⟨by rw[Ae,Ae]; omega,x++Km w none (some 1),by rw[Cm],λz hz=>by have:=hb2' z hz; omega,hN _ ⟨_,_,rfl,⟨Qd _,λz hz=>hb2' z (qE.mp hz)⟩,Jo⟩⟩
     ·array_get_dec
      exact hN _ ⟨w,_,rfl,rw_,hv7⟩
    ·array_get_dec
     exact hN _ ⟨w,_,rfl,rw_,hv7⟩
   ·clear hv7
    (intro _ q_; obtain ⟨w1,v7,rfl,rw1,hv7⟩ := q_)
    array_get_dec
    refine pV (λδ=>∃(w':List Int),δ=⟨[.drw,.dat .sh (.int h),.dat .sh (.int m),.dat .ow (.list (ws.map Bv)),.dat .sh (.int a),.dat .sh (Bv w'),.dat .sh (.int r2),v7],n2+1⟩/\Ck h w') (λN hN=>?_) ?_
    ·refine Ve (λhb=>?_) (λhb=>?_)
     ·array_get_dec
      rw[Tz]
      exact hN _ ⟨Km w1 none (some 2),rfl,rw1.sub (Lr _ _ _)⟩
     ·array_get_dec
      exact hN _ ⟨w1,rfl,rw1⟩
    ·(intro _ q_; obtain ⟨w',rfl,rw'⟩ := q_)
     array_get_dec
     refine Ve (λhb=>?_) (λhb=>?_)
     ·array_get_dec
      refine ⟨by simp [npk,hv7 _],by rw[Ae]; omega,ws++[w'],_,_,_,_,_,gJ (by rw[Cm]; rfl) rfl,by omega,by omega,by rw[Bj,Er]; omega,λx hx=>?_,?_,Jo,Jo,Jo,hv7⟩
      ·rcases Bg.mp hx with z | z
       ·exact hw x z
       ·rw[Am.mp z]; exact rw'
      ·have nm:w'∉ws:=λz=>by
        rw[decide_eq_true z] at hb
        cases hb
       exact Fg.mpr ⟨nd,Bt.mpr ⟨(λz=>nomatch z),Do⟩,λx hx y hy e=>nm (by rw[<- Am.mp hy,<- e]; exact hx)⟩
     ·array_get_dec
      exact ⟨ws,_,_,_,_,_,rfl,by omega,by omega,by omega,hw,nd,Jo,Jo,Jo,hv7⟩
  ·(intro _ q_; obtain ⟨ws,v4,v5,v6,v7,n1,rfl,k1,k2,lw,hw,nd,hv4,hv5,hv6,hv7⟩ := q_)
   rw[De] at lw k2
   array_get_dec
   exact ⟨k1,hR ws _ (by omega) hw nd k1 (by omega)⟩
end
open DRow
def qA:PF:=λds R=>∃xs:List Ad,ds=[.list xs,.list xs]/\Ir xs xs=true/\(Ed xs).depth<=60/\(∀x∈xs,∃ys,x=.tuple ys)/\R (.bool true)
theorem oA(b:Bool):∃c,(Oz b).cps.toList[0]? = some c/\(":" : Str)++(⟨#[c]⟩ : Str)=Zq b:=by
 cases b
 ·exact ⟨102,by decide +kernel,by decide +kernel⟩
 ·exact ⟨98,by decide +kernel,by decide +kernel⟩
theorem oR(a b c:Str):a++b++c=a++(b++c):=Qu (by rw[Pl,Pl,Pl,Pl,Ea])
section
variable{P:Bu}{w:World}{K:PySem.W.Frag}{mg:Str->Option Value}{base:Heap}
theorem Tb:FnScope ["_law_word_here"] ["_law_word_here"] (Bo Fk):=⟨rfl,rfl,rfl,by decide +kernel,rfl,by decide +kernel,by decide +kernel⟩
theorem Sq{f   : Addr}{fd  : Cb}(F:Fun K "_law_word_text" "_law_word_text" Fk f fd)(mz_str:mg "str" = none):FnOk P w K mg base Fd 1 f fd ["_law_word_here"] (Kt K (Ml)):=by
 refine' Fp (k:=0) F Tb (λcdv A outer s H E hr=>?hb) ?h
 case hb =>
  have hu64:=hr.units
  have hrx:Room 0 (Ku Fd P w K mg base ["_law_word_here"] "_law_word_text" (Bo Fk) f cdv A outer s H E).nox.A:=hr
  have hu100:(Ku Fd P w K mg base ["_law_word_here"] "_law_word_text" (Bo Fk) f cdv A outer s H E).nox.A.units+100<cLine:=by have:=hrx.un; omega
  have CS1:∀{scope:Scope} (h:scope={ kind:=.function,names:=[(".0",.local),("_law_place",.local),("str",.globalImplicit)],isGenerator:=false,isCoroutine:=false }),
    CompScope (Ku Fd P w K mg base ["_law_word_here"] "_law_word_text" (Bo Fk) f cdv A outer s H E).nox scope [] "_law_place" [] []:=by
   rintro scope rfl
   exact Nd.compScope0 (by rfl) (by decide +kernel) (by rfl) (by decide +kernel) (by rfl) (by rfl)
  exact Bz (Gv (Nj hu64 (Ar (pv 0)) (Rw Av))
   (Cj (Dv Ec)) Fc)
   (Cj (Dv (Qc Ec (Mo (CS1 rfl) rfl (R4 (Ar (pv 0))) (λ_ _ _=>Ib) (λ_ _ _=>Iw (Qq hr.gd hu100) cD rfl mz_str (by decide +kernel) (Ak (Ar (pv 0)) Av))))))
 case h =>
  (intro ds R q_; obtain ⟨w,rfl,r,hR⟩ := q_)
  refine ⟨rfl,?_⟩
  array_get_dec
  rw[show PyData.tuple []=Bv [] from rfl,eqD_word]
  by_cases e:w=[]
  ·subst e
   rw[decide_eq_true rfl]
   array_get_dec
   exact hR
  ·rw[decide_eq_false e]
   array_get_dec
   refine Uz (l:=w) (g:=By) rfl (λi=>.str (Hs i)) (λj hj yes no hy=>?_) ?_
   ·array_get_dec
    exact ⟨fQ (r.2 j hj).1 (r.2 j hj).2,by simp [Cg],hy⟩
   array_get_dec
   refine ⟨w.map Hs,by rw[Ds]; rfl,kI r,?_⟩
   rw[<- cA e]
   exact hR
theorem Sv:FnScope ["_law_deck_here"] ["_law_deck_here"] (Bo Ht):=⟨rfl,rfl,rfl,by decide +kernel,rfl,by decide +kernel,by decide +kernel⟩
theorem Sh{f f_L_word_text  : Addr}{fd d_L_word_text:Cb}(F:Fun K "_law_deck_text" "_law_deck_text" Ht f fd)(G_L_word_text:FnOk P w K mg base Fd 1 f_L_word_text d_L_word_text ["_law_word_here"] (Kt K (Ml)))(b_L_word_text:Binds K d_L_word_text ["_law_word_here"] [])(k_L_word_text:PySem.W.keepIn K (.ref f_L_word_text)=true)(m_L_word_text:mg "_law_word_text" = some (.ref f_L_word_text)):FnOk P w K mg base Fd 2 f fd ["_law_deck_here"] (Kt K (Vx)):=by
 refine' Fp (k:=1) F Sv (λcdv A outer s H E hr=>?hb) ?h
 case hb =>
  have hr1:Room 1 _:=hr.mono (by decide)
  have hu64:=hr.units
  have CS1:∀{scope:Scope} (h:scope={ kind:=.function,names:=[(".0",.local),("_law_word_here",.local),("_law_word_text",.globalImplicit)],isGenerator:=false,isCoroutine:=false }),
    CompScope (Ku Fd P w K mg base ["_law_deck_here"] "_law_deck_text" (Bo Ht) f cdv A outer s H E).nox scope [] "_law_word_here" [] []:=by
   rintro scope rfl
   exact Nd.compScope0 (by rfl) (by decide +kernel) (by rfl) (by decide +kernel) (by rfl) (by rfl)
  exact Bz (Gv (Nj hu64 (Ar (pv 0)) (Gq Av))
   (Cj (Dv Ec)) Fc)
   (Cj (Dv (Qc Ec (Mo (CS1 rfl) rfl (uH (Ar (pv 0))) (λ_ _ _=>Ib) (λ_ _ _=>Dg G_L_word_text hr1 rfl m_L_word_text k_L_word_text b_L_word_text Di (Ak (Ar (pv 0)) Av))))))
 case h =>
  (intro ds R q_; obtain ⟨D,rfl,r,l60,hR⟩ := q_)
  refine ⟨rfl,?_⟩
  array_get_dec
  cases D with
  | nil =>
   array_get_dec
   exact hR
  | cons u D =>
  array_get_dec
  refine Uz (l:=u::D) (g:=Bv) rfl (λw=>.str (wt w)) (λw hw yes no hy=>?_) ?_
  ·array_get_dec
   refine ⟨w,rfl,r w hw,?_⟩
   array_get_dec
   exact hy
  array_get_dec
  refine ⟨(u::D).map wt,by rw[Ds]; rfl,?_,hR⟩
  have:=Jv (sep := " ") (k:=181) (ps:=(u::D).map wt) λp hp=>by
   obtain ⟨w,hw,rfl⟩:=Bh.mp hp
   have:=(Po (r w hw)).len
   rw[Ll]
   omega
  rw[Ae] at this
  omega
theorem Ub:FnScope ["_law_row_here"] ["_law_row_here"] (Bo Ik):=⟨rfl,rfl,rfl,by decide +kernel,rfl,by decide +kernel,by decide +kernel⟩
theorem Uo{f f_L_word_text  : Addr}{fd d_L_word_text:Cb}(F:Fun K "_law_row_text" "_law_row_text" Ik f fd)(G_L_word_text:FnOk P w K mg base Fd 1 f_L_word_text d_L_word_text ["_law_word_here"] (Kt K (Ml)))(b_L_word_text:Binds K d_L_word_text ["_law_word_here"] [])(k_L_word_text:PySem.W.keepIn K (.ref f_L_word_text)=true)(m_L_word_text:mg "_law_word_text" = some (.ref f_L_word_text)):FnOk P w K mg base Fd 2 f fd ["_law_row_here"] (Kt K (Vw)):=by
 refine' Fp (k:=1) F Ub (λcdv A outer s H E hr=>?hb) ?h
 case hb =>
  have hr1:Room 1 _:=hr.mono (by decide)
  have hu64:=hr.units
  have CS1:∀{scope:Scope} (h:scope={ kind:=.function,names:=[(".0",.local),("_law_needles",.local),("_law_side",.local),("_law_word_text",.globalImplicit)],isGenerator:=false,isCoroutine:=false }),
    CompScope (Ku Fd P w K mg base ["_law_row_here"] "_law_row_text" (Bo Ik) f cdv A outer s H E).nox scope [] "_law_needles" [] []:=by
   rintro scope rfl
   exact Nd.compScope0 (by rfl) (by decide +kernel) (by rfl) (by decide +kernel) (by rfl) (by rfl)
  exact Bz (Gv (Nj hu64 (Ar (pv 0)) (Gq Av))
   (Cj (Dv Ec)) Fc)
   (Cj (Dv (Qc Ec (iA (CS1 rfl) (.inl rfl) (by decide +kernel) rfl (uH (Ar (pv 0))) (λ_ _ _=>Ib) (λ_ _ _=>bM (bM (Dg G_L_word_text hr1 rfl m_L_word_text k_L_word_text b_L_word_text Di (Ak (Ar (pv 0)) Av)) Ec) (Ny (Ar (pv 1)) Ci))))))
 case h =>
  (intro ds R q_; obtain ⟨ps,rfl,r,l60,hR⟩ := q_)
  refine ⟨rfl,?_⟩
  array_get_dec
  cases ps with
  | nil =>
   array_get_dec
   exact hR
  | cons u ps =>
  array_get_dec
  refine rU (l:=u::ps) (g1:=λp=>Bv p.1) (g2:=λp=>.str (Oz p.2)) rfl (λ_=>true) (λp=>.str (pt p)) (λp hp yes no hy _=>?_) ?_
  ·obtain ⟨c,hc,ec⟩:=oA p.2
   have lw:=(Po (r p hp)).len
   have l1:Ex (⟨#[c]⟩ : Str)=1:=rfl
   have l2:(Oz p.2).length<=5:=by cases p.2 <;> decide +kernel
   array_get_dec
   refine ⟨p.1,rfl,r p hp,?_⟩
   array_get_dec
   refine ⟨by rw[Qo]; omega,sz (by omega),c,dQ (j:=0) hc,?_⟩
   array_get_dec
   refine ⟨by rw[dA,Qo,l1]; omega,?_⟩
   rw[oR,ec]
   exact hy rfl
  rw[Tn.mpr λ_ _=>rfl]
  array_get_dec
  refine ⟨(u::ps).map pt,by rw[Ds]; rfl,?_,hR⟩
  have:=Jv (sep := " ") (k:=183) (ps:=(u::ps).map pt) λp hp=>by
   obtain ⟨q,hq,rfl⟩:=Bh.mp hp
   have:=jN (r q hq)
   rw[Ll]
   omega
  rw[Ae] at this
  omega
theorem Ry:FnScope ["_law_told", "_law_due", "_law_one"] ["_law_told", "_law_due"] (Bo Jf):=⟨rfl,rfl,rfl,by decide +kernel,rfl,by decide +kernel,by decide +kernel⟩
theorem Rv{f   : Addr}{fd  : Cb}(F:Fun K "_law_read_right" "_law_read_right" Jf f fd)(mz_list:mg "list" = none)(mz_isinstance:mg "isinstance" = none)(mz_tuple:mg "tuple" = none):FnOk P w K mg base Fd 1 f fd ["_law_told", "_law_due"] (Kt K (qA)):=by
 refine' Fp (k:=0) F Ry (λcdv A outer s H E hr=>?hb) ?h
 case hb =>
  have hu64:=hr.units
  exact Bz (Gv (jC (Wq (Pn (Pk (Gg Ru Rn rfl mz_isinstance (by decide +kernel) (Ak (Ar (pv 0)) (Ak (Xf (n := "list") rfl mz_list (by decide +kernel)) Av))))) (Wo (Sk hu64 (Ar (pv 0)) (Ar (pv 1))))))
   (Cj (Dv Ox)) Fc)
   (Bz (Oe Ej rfl (uH (Ar (pv 0))) (Ih (i:=2) Ry.nd rfl (Cz rfl))
   (Cj (Gv (Pn (Pk (Gg Ru Rn rfl mz_isinstance (by decide +kernel) (Ak (Ar (pv 2)) (Ak (Xf (n := "tuple") rfl mz_tuple (by decide +kernel)) Av)))))
    (Cj (Dv Ox)) Fc)))
   (Cj (Dv Ox)))
 case h =>
  (intro ds R q_; obtain ⟨xs,rfl,e,dd,ht,hR⟩ := q_)
  refine ⟨rfl,?_⟩
  array_get_dec
  refine ⟨dd,dd,?_⟩
  rw[pM,e]
  array_get_dec
  refine cH (l:=xs) (g:=λx=>x) (List.map_id' _).symm (λi δ=>∃v:DV,δ=⟨[.dat .sh (.list xs),.dat .sh (.list xs),v],0⟩/\NP v) ?_ ?_ ?_
  ·exact ⟨_,rfl,Mj⟩
  ·(intro i x _ hx q_; obtain ⟨v,rfl,hv⟩ := q_)
   obtain ⟨ys,rfl⟩:=ht x (Be hx)
   array_get_dec
   exact ⟨_,rfl,Jo⟩
  ·(intro _ q_; obtain ⟨v,rfl,hv⟩ := q_)
   array_get_dec
   exact hR
end
end K81
namespace DL
open PySem PySem.Spec PyProof.Rows L2 Nd
theorem At.forgetV{K:PySem.W.Frag}{H0 H:Hp}{X:Addr->Prop}{n i:Nat}{S T:List Ent}{u w:Option V}{x:DV}{F:List Addr}(h:At K H0 X n (S++T) H)(e:S[i]? = some ⟨u,x,F⟩):At K H0 X n (S.set i ⟨w,.un,[]⟩++T) H:=by
 have hp:=h.perm ((Fx e).append_right T)
 have hc:At K H0 X n (⟨w,.un,[]⟩::(S.eraseIdx i++T)) H:=by
  obtain ⟨s1,s2⟩:=Ax.mp hp.sep
  refine ⟨λf hf=>?_,Ax.mpr ⟨λf hf=>⟨(λ_ a ha=>nomatch ha),(λ_ a _ ha=>nomatch ha)⟩,s2⟩,λf hf a ha=>?_,hp.same,hp.dom,hp.xd⟩
  ·rcases Ai.mp hf with rfl | hf
   ·rfl
   ·exact hp.ok f (Ab _ hf)
  ·rcases Ai.mp hf with rfl | hf
   ·exact nomatch ha
   ·exact hp.new f (Ab _ hf) a ha
 exact hc.perm ((Qf e).append_right T).symm
theorem At.spoilV{K:PySem.W.Frag}{H0 H H':Hp}{X:Addr->Prop}{n i:Nat}{S T:List Ent}{v w:Option V}{d:Ad}{F:List Addr}(h:At K H0 X n (S++T) H)(e:S[i]? = some ⟨v,.dat .ow d,F⟩)(np:∀f∈S.eraseIdx i++T,Lx f.x=false)(hs:∀b o,H b=some o->(b∉F\/L5 o)->H' b=some o):At K H0 X n (S.set i ⟨w,.un,[]⟩++T) H':=by
 have hp:=h.perm ((Fx e).append_right T)
 have h1:=hp.spoil np hs
 have hc:At K H0 X n (⟨w,.un,[]⟩::(S.eraseIdx i++T)) H':=by
  refine ⟨λf hf=>?_,Ax.mpr ⟨λf hf=>⟨(λ_ a ha=>nomatch ha),(λ_ a _ ha=>nomatch ha)⟩,h1.sep⟩,λf hf a ha=>?_,h1.same,h1.dom,h1.xd⟩
  ·rcases Ai.mp hf with rfl | hf
   ·rfl
   ·exact h1.ok f hf
  ·rcases Ai.mp hf with rfl | hf
   ·exact nomatch ha
   ·exact h1.new f hf a ha
 exact hc.perm ((Qf e).append_right T).symm
theorem gL{α:Type}(l:List α)(k:Nat)(d:α):∃u,l=l.set k u:=by
 cases h:l[k]? with
 | none=>exact ⟨d,(iF (List.getElem?_eq_none_iff.mp h)).symm⟩
 | some u =>
  refine ⟨u,Kc λj=>?_⟩
  rw[Hr]
  by_cases e:k=j
  ·subst e
   rw[if_pos rfl,if_pos (Aq.mp h).1,h]
  ·rw[if_neg e]
theorem tK{α:Type}{l:List α}{k:Nat}{u:α}(h:l[k]? = some u):l.set k u=l:=by
 refine Kc λj=>?_
 rw[Hr]
 by_cases e:k=j
 ·subst e
  rw[if_pos rfl,if_pos (Aq.mp h).1,h]
 ·rw[if_neg e]
theorem vL{α:Type}{l:List α}{a b:Nat}{w1 w2 u v:α}(hab:a≠b):(((l.set a w1).set b w2).set a u).set b v=(l.set a u).set b v:=by
 rw[List.set_comm (i:=b) (j:=a) w2 u (Lo hab),List.set_set,List.set_set]
theorem cV{S:List Ent}{i:Nat}{e:Ent}:vs (S.set i e)=(vs S).set i e.v:=by
 unfold vs
 rw[Em]
def yX(k a b:Nat)(pf:PF)(de:DE):DB:=λD δ=>∃C:List (List Ad),δ.sl[k]? = some (.dat .ow (.list (C.map Ed)))/\npk δ.sl=true/\k≠a/\k≠b/\a<δ.sl.length/\b<δ.sl.length/\(∀c∈C,Dk c=true/\c.length<1000000) /\
 de δ λy δ1=>δ1=δ/\∃es m,y=.dat m (.list es)/\m≠.pk/\(∀(i:Nat) c e,C[i]? = some c->es[i]? = some e->∀R:Ad->Prop,R (.bool true)->pf [.list c,e] R)/\D.nx ⟨((δ.sl.set k .un).set a .un).set b .un,δ.n⟩
section
variable{X:Cx}{e2 e3 fe xa xc:Expr}{de:DE}{t:TS}{r:List Stmt}{pos zp cp ip up tp p1 p2 cp2 fp ap cp3 ep:Pos}{k a b kt:Nat}{x1 x2 fn:Str}{pf:PF}{ps:List Str}{f:Addr}{fd:Cb}{room:Nat}{args:List Expr}{told:Expr}
theorem wN(F:FnOk X.prog X.w X.K X.mg X.base Fd room f fd ps (Kt X.K pf))(hr:Room room X.A)(hg:Gl X fn)(hm:X.mg fn=some (.ref f))(hk:PySem.W.keepIn X.K (.ref f)=true)(hb:Binds X.K fd ps [])
  (hp:PassesOwn (model X.prog X.w) X.A X.env X.xe) (hc:X.calm=true) (zg:Gl X "zip") (zm:X.mg "zip" = none) (ht:PE X told (Ud k)) (he:Ei X e2 de) (hN:X.N.Nodup) (ha:X.N[a]? = some x1) (hbn:X.N[b]? = some x2) (hab:a≠b) (hxa:Loc X.env.scope x1) (hxb:Loc X.env.scope x2)
  (va:PE X xa (Ud a)) (vb:PE X e3 (Ud b)) (vc:PE X xc (Ud a)) (hr2:jI X r t) (hne:PE X fe (tC .non))
  (hfa:X.fn x1=true\/X.env.scope.names.lookup x1=some .local:=by first | exact .inl rfl | exact .inr rfl | assumption)
  (hfb:X.fn x2=true\/X.env.scope.names.lookup x2=some .local:=by first | exact .inl rfl | exact .inr rfl | assumption)
  (hbase:Jp xc "append" X.env (eval xc X.env)=eval xc X.env:=by rfl)
  (hfew:((Gc cp3 (Bd [fe] X.env)).all (λx=>!x.1) && (Vk cp3 (Ms [] X.env)).all (λx=>x.1.isSome)
   && decide (([fe]:List Expr).length+([]:List Ke).length+(if ([]:List Ke).isEmpty then 0 else 1)<30))=true:=by rfl)
  (hline:(ap.endLine == cp3.line)=true:=by rfl) (hs1:Bd [fe] X.env=(false,eval fe X.env)::Bd [] X.env:=by rfl) (hpl1:(Gc cp3 (Bd [] X.env)).any (·.1)=false:=by rfl)
  (hsw:Oh (.Call (.Attribute xc "append" ap) [fe] [] cp3) none ep.line X.env=pure false:=by rfl)
  (hdb:(fn == ("__debug__" : Str))=false:=by decide) (hsa:Bd [xa,e3] X.env=(false,eval xa X.env)::Bd [e3] X.env:=by rfl) (hsb:Bd [e3] X.env=(false,eval e3 X.env)::Bd [] X.env:=by rfl) (hpl:(Gc cp2 (Bd [e3] X.env)).any (·.1)=false:=by rfl)
  (hsz:Bd [told,e2] X.env=(false,eval told X.env)::Bd [e2] X.env:=by rfl) (hsz2:Bd [e2] X.env=(false,eval e2 X.env)::Bd [] X.env:=by rfl) (hplz:(Gc cp (Bd [e2] X.env)).any (·.1)=false:=by rfl)
  (hn2:(Fq [.Name x1 p1,.Name x2 p2] X.env).length=2:=by rfl) (hst:(Fq [.Name x1 p1,.Name x2 p2] X.env).findIdx? (·.1)=none:=by rfl)
  (hs:∀x,Gn (.Call (.Name "zip" zp) [told,e2] [] cp) X.env x=pure x:=by intro _; rfl) :
  lJ X (.For (.Tuple [.Name x1 p1,.Name x2 p2] kt tp) (.Call (.Name "zip" zp) [told,e2] [] cp) [.If (.UnaryOp .Not (.Call (.Name fn fp) [xa,e3] [] cp2) up) r [] ip,.Expr (.Call (.Attribute xc "append" ap) [fe] [] cp3) ep] [] pos) (yX k a b pf de):=by
 refine PS.impD (qR hp hc (x6 (a:=told) (b:=e2) zg zm (Fh ht (Fh he Jd hsz2) hsz) hsz hplz) (iS hc (Ow (Qi hN ha hxa hfa) (Ow (Qi hN hbn hxb hfb) cK)) hn2 hst)
  (Je (qZ (pH (jA (Wd F hr hg hm hk hb .nil Di (Fh va (Fh vb Jd hsb) hsa) hdb hsa hpl))) hr2 bK)
   (Qb (Vu (Zr PySem.F.plainAttrs_list PySem.F.slot_list_append PySem.F.type_list_append Nh vc (Fh hne Jd hs1) hbase hfew hline hs1 hpl1) hsw))) hs) λD σ H h=>?_
 obtain ⟨H0,Y,S,T,δ,P,rfl,hS,hT,hA,⟨C,h1,np,ka,kb,la,lb,hC,hd⟩,k1,k2,k3,k4⟩:=h
 obtain ⟨ent0,e0,e0x⟩:=Io hS h1
 obtain ⟨u0,y0,F0⟩:=ent0
 have e0x':y0=.dat .ow (.list (C.map Ed)):=e0x
 subst e0x'
 obtain ⟨vt,hvt,rdt,_,_⟩:=hA.ok _ (An _ (Be e0))
 have hvt':u0=some vt:=hvt
 subst hvt'
 refine ⟨vt,Kk e0,H0,Y,S,T,δ,_,rfl,hS,hA,hd,λy δ1 v Fy S1 H1 q1 q2 hA1 p1=>?_⟩
 obtain ⟨rfl,es,m,rfl,hmp,hpf,hnx⟩:=p1
 obtain ⟨ent1,f0,f0x⟩:=Io q2 h1
 obtain ⟨u1,y1,F1⟩:=ent1
 have f0x':y1=.dat .ow (.list (C.map Ed)):=f0x
 subst f0x'
 have eu:u1=some vt:=by
  have a1:=Kk f0
  have a2:=Kk e0
  rw[q1,a2] at a1
  exact (Ca a1).symm
 subst eu
 obtain ⟨v',hv',rd,nd,_⟩:=hA1.ok _ (An _ (Be f0))
 obtain rfl:vt=v':=Ca hv'
 have nd':F1.Nodup:=nd rfl
 obtain ⟨t1,xs,G,rfl,ht1,ra,eF,hz⟩:=rd.list_inv
 have eF':F1=t1::G:=eF
 subst eF'
 obtain ⟨g1,g2,_⟩:=fI ra hC
 subst g1
 obtain ⟨w,hw,rdy,_,_⟩:=hA1.ok ⟨some v,.dat m (.list es),Fy⟩ (Ap _ Aa)
 obtain rfl:v=w:=Ca hw
 obtain ⟨b',ys,Gy,rfl,hb1,rb,eFy,hz2⟩:=rdy.list_inv
 have eFy':Fy=b'::Gy:=eFy
 subst eFy'
 have hAp:=hA1.perm ((Fx f0).append_right _)
 have sepE:=(Ax.mp hAp.sep).1 ⟨some (.ref b'),.dat m (.list es),b'::Gy⟩ (Ap _ Aa)
 have dis:∀c∈t1::G,c∉b'::Gy:=λc hc=>sepE.1 (.inl (yL hmp)) c hc
 have nrG:t1∉G:=(Bt.mp nd').1
 have ndG:G.Nodup:=(Bt.mp nd').2
 have ls:(vs S1).length=δ1.sl.length:=by
  have e:S1.map Ent.x=δ1.sl:=q2
  rw[<- e]
  unfold vs
  rw[Ae,Ae]
 refine ⟨t1,b',rfl,⟨_,Oy.of ht1⟩,⟨_,Oy.of hb1⟩,wF (xs:=G.map V.ref) (ys:=ys) (λi σ H=>∃w1 w2:Option V,σ=((vs S1).set a w1).set b w2/\(∀c o,H1 c=some o->c∉G->H c=some o)/\∀(j:Nat) (r:Addr),G[j]? = some r->i<=j->∀o,H1 r=some o->H r=some o) ?_ ?_ ?_ ?_⟩
 ·obtain ⟨w1,e1⟩:=gL (vs S1) a none
  obtain ⟨w2,e2'⟩:=gL (vs S1) b none
  exact ⟨w1,w2,by rw[<- e1,<- e2',q1],λc o h _=>h,λ_ _ _ _ o h=>h⟩
 ·(intro i σ H q_; obtain ⟨w1,w2,_,p2,_⟩ := q_)
  exact ⟨Oy.of (p2 t1 _ ht1 nrG),Oy.of (p2 b' _ hb1 λz=>dis b' (Ab _ z) Aa)⟩
 ·(intro i x y σ H p hxi hyi hp q_; obtain ⟨w1,w2,rfl,p2,p3⟩ := q_)
  obtain ⟨r',hr',rfl⟩ : ∃r',G[i]? = some r'/\x=.ref r':=by
   rw[Cf] at hxi
   cases q:G[i]? with
   | none=>rw[q] at hxi; cases hxi
   | some r'=>rw[q] at hxi; exact ⟨r',rfl,(Ca hxi).symm⟩
  have mr:r'∈G:=Be hr'
  obtain ⟨hl1,hl2⟩:=g2 r' mr
  have hHr:H r'=some (.lst (uI H1 r')):=p3 i r' hr' (Ah _) _ hl1
  have npr:r'≠p:=λz=>by rw[z,hp] at hHr; cases hHr
  have lC:(G.map V.ref).length=(C.map Ed).length:=ra.len
  rw[Ae,Ae] at lC
  have iG:=(Aq.mp hr').1
  have lY:=rb.len
  have iY:=(Aq.mp hyi).1
  obtain ⟨c,hc⟩ : ∃c,C[i]? = some c:=⟨_,Cd (by omega)⟩
  obtain ⟨e,hE⟩ : ∃e,es[i]? = some e:=⟨_,Cd (by omega)⟩
  have notG:∀b o,H1 b=some o->L5 o->b∉G:=λb o h s z=>by
   rw[(g2 b z).1] at h
   cases h
   rcases s with ⟨_,s⟩ | ⟨_,_,s⟩ <;> cases s
  have toH:∀b o,H1 b=some o->b∉G->upd H p (.tup [V.ref r',y]) b=some o:=λb o h n=>by
   have h2:=p2 b o h n
   rw[Dr λz=>by rw[z,hp] at h2; cases h2]
   exact h2
  have kp0:Kp [] H1 (upd H p (.tup [V.ref r',y])):=λb o h z=>toH b o h (notG b o h (z.resolve_left λz=>nomatch z))
  obtain ⟨x',F',j1,j2,j3⟩:=ra.get (i:=i) (e:=.list c) (by rw[Cf,hc]; rfl)
  rw[hxi] at j1
  cases j1
  obtain ⟨r2,zs,Gz,er,hz1,rz,_,hzl⟩:=j2.list_inv
  cases er
  obtain rfl:=rz.imm (hC c (Be hc)).1
  have ezs:uI H1 r'=zs:=by unfold uI; rw[hz1]
  have rdx:RdF X.K (upd H p (.tup [V.ref r',y])) (.ref r') (.list c) [r']:=.lst (by rw[Dr npr,hHr,ezs]) hzl (rz.kp kp0)
  obtain ⟨y',F2,j4,j5,j6⟩:=rb.get hE
  rw[hyi] at j4
  cases j4
  have rdy2:RdF X.K (upd H p (.tup [V.ref r',y])) y e F2:=j5.kp λb o h z=>by
   rcases z with z | z
   ·exact toH b o h λq=>dis b (Ab _ q) (Ab _ (j6.subset z))
   ·exact toH b o h (notG b o h z)
  have eσ:=vL (l:=vs S1) (w1:=w1) (w2:=w2) (u:=some (V.ref r')) (v:=some y) hab
  have sa:((((vs S1).set a w1).set b w2).set a (some (V.ref r'))).set b (some y)=((vs S1).set a (some (V.ref r'))).set b (some y):=eσ
  have ga:(((vs S1).set a (some (V.ref r'))).set b (some y))[a]? = some (some (V.ref r')):=by
   rw[Rz (Lo hab),Ka (by rw[ls]; exact la)]
  have gb:(((vs S1).set a (some (V.ref r'))).set b (some y))[b]? = some (some y):=by
   rw[Ka (by rw[Hi,ls]; exact lb)]
  refine ⟨p,[.ref r',y],rfl,To.of Dt,rfl,.ref r',[y],rfl,y,[],rfl,rfl,?_⟩
  rw[sa]
  refine ⟨.ref r',ga,y,gb,?_⟩
  refine ⟨[⟨some (.ref r'),.dat .sh (.list c),[r']⟩,⟨some y,.dat .sh e,F2⟩],0,[.list c,e],λd=>d=.bool true,rfl,λf hf=>?_,rfl,hpf i c e hc hE _ rfl,λv d F3 H3 hd3 rv nf nw sm=>?_⟩
  ·simp only[Ai,Bw,or_false] at hf
   rcases hf with rfl | rfl
   ·exact ⟨_,rfl,rdx,(λz=>nomatch z),(λz=>nomatch z)⟩
   ·exact ⟨_,rfl,rdy2,(λz=>nomatch z),(λz=>nomatch z)⟩
  ·subst hd3
   obtain ⟨rfl,_⟩:=rv.bl_inv
   refine ⟨true,rfl,jS ?_⟩
   have h3:H3 r'=some (.lst (uI H1 r')):=sm _ _ (by rw[Dr npr]; exact hHr)
   refine ⟨.ref r',ga,.inl ⟨rfl,_,Oy.of h3⟩,r',uI H1 r',.non,rfl,rfl,h3,hl2,?_⟩
   refine ⟨some (.ref r'),some y,rfl,λc2 o h n=>?_,λj r3 hj hle o h=>?_⟩
   ·rw[Dr λz=>n (by rw[z]; exact mr)]
    exact sm _ _ (toH c2 o h n)
   ·have ne:r3≠r':=λz=>by
     subst z
     obtain i1:=Aq.mp hr'
     obtain i2:=Aq.mp hj
     obtain ⟨i3,i4⟩:=i1
     obtain ⟨j3,j4⟩:=i2
     exact Ga.mp ndG i j i3 j3 (by omega) (i4.trans j4.symm)
    rw[Dr ne]
    have h2:=p3 j r3 hj (by omega) o h
    refine sm _ _ ?_
    rw[Dr λz=>by rw[z,hp] at h2; cases h2]
    exact h2
 ·(intro σ H q_; obtain ⟨w1,w2,rfl,p2,p3⟩ := q_)
  have npS:=dN q2 np
  have hA2:=hA1.spoilV (w:=some (V.ref t1)) f0 (λf hf=>by
   rcases Bg.mp hf with hf | hf
   ·exact npS f ((Rc S1 k).subset hf)
   ·rcases Ai.mp hf with rfl | hf
    ·exact yL hmp
    ·exact hT f hf) (H':=H) λc o h z=>p2 c o h λq=>by
     rcases z with z | z
     ·exact z (Ab _ q)
     ·rw[(g2 c q).1] at h
      cases h
      rcases z with ⟨_,z⟩ | ⟨_,_,z⟩ <;> cases z
  have hA3:=hA2.drop
  have l1:S1.length=δ1.sl.length:=by
   have e:S1.map Ent.x=δ1.sl:=q2
   rw[<- e,Ae]
  obtain ⟨⟨ua,xa',Fa⟩,ea⟩ : ∃en,(S1.set k ⟨some (.ref t1),.un,[]⟩)[a]? = some en:=⟨_,Cd (by rw[Hi]; omega)⟩
  have hA4:=hA3.forgetV (w:=w1) ea
  obtain ⟨⟨ub,xb',Fb⟩,eb⟩ : ∃en,((S1.set k ⟨some (.ref t1),.un,[]⟩).set a ⟨w1,.un,[]⟩)[b]? = some en:=⟨_,Cd (by rw[Hi,Hi]; omega)⟩
  have hA5:=hA4.forgetV (w:=w2) eb
  have fin:=k1 ⟨((δ1.sl.set k .un).set a .un).set b .un,δ1.n⟩ _ H ?_ hA5 hnx
  ·rw[cV,cV,cV] at fin
   rw[tK (l:=vs S1) (Kk f0)] at fin
   exact fin
  ·unfold Sl
   rw[Em,Em,Em,show S1.map Ent.x=δ1.sl from q2]
end
end DL
namespace K81
open PySem L2 Nd DL
local macro_rules | `(tactic| array_get_dec) => do
  let ids:=(("e_lenS e_ixS e_tx e_txB e_inS e_intS e_join e_joinB e_joinC e_split e_splitB e_splitC e_prt e_prtB e_prtC e_lenSet e_lsB e_seq e_skip e_ret e_expr e_if e_asg e_name e_name2 e_name4 e_own e_gtup e_gsn e_gsc e_op e_var e_c e_imm e_immB e_take e_I e_I0 e_eqF e_eqT e_inTl e_inTt e_ixl e_cat e_catT_w1 e_catS e_ntT e_pkOfsh e_pkOfow e_mdInow e_mdItsh e_mdItow e_nil e_cons e_tup e_lst e_noPart e_part e_partB e_sl e_slBt_w1 e_cb e_lenl e_tuplel e_all e_isi e_str e_v e_b e_bB e_tru e_truB e_notT e_andT e_orT e_orTf e_not e_notB e_and e_andt e_ifE e_ifEt e_ifEf e_dL e_dTp e_lB e_tpB_w1 e_range1 e_rng1B e_for e_comp e_comp2 e_noTest e_step e_stepT e_yesB e_call e_callW e_draws e_drawsB e_append e_setI e_appendO e_scrSl e_ssT e_ssTt e_tr e_trB ow_npk callB callBW tupB lstB datas pkMd allOw noPk appB appOB mmd setB own1 npk retE retW retL args0 frD frD1 alD List.map_cons List.map_nil List.replicate List.getElem?_cons_zero List.getElem?_cons_succ List.set_cons_zero List.set_cons_succ List.cons_append List.nil_append Option.map_some List.length_cons List.length_nil List.append_nil rdAdd rdSub rdDiv rdMod rdLt rdGt rdGe if_true if_false Bool.false_eq_true Nat.reduceAdd Nat.reduceSub Nat.reduceLeDiff true_and im_e ima_e dp_e dpa_e any_word eqD_intd eqD_word eqD_str eqD_l0 ow_e tt_e cdiv_e Int.reduceLT Int.reduceLE Nat.reduceLT Int.reduceNeg and_self Int.reduceToNat fold_w isi_li isi_tt isi_ib isi_ii isi_wt Bool.not_true Bool.not_false String.reduceEq or_true true_or List.isEmpty_nil ifB_lt ifB_lf isi_ss str_self dec_self isE_cons okT_l okT_w" : String).splitOn " ").toArray.map λ(x:String)=>Lean.mkIdent x.toName
  `(tactic| try simp only [$[↓$ids:ident],*])
open DRow
theorem aK{w:List Int}(r:Ck 60 w):Jh 12 (Bv w):=by
 unfold Bv
 rw[Jh,Mm]
 intro x hx
 obtain ⟨i,hi,rfl⟩:=Bh.mp hx
 have:=r.2 i hi
 rw[Jh]
 omega
theorem Xb{w:List Int}(r:Ck 60 w):Gk (Bv w)<=61:=by
 unfold Bv
 rw[Gk,iK]
 have:=Ls r
 omega
theorem kZ{a:List (List Int)}(h:∀w∈a,Ck 60 w):Jh 12 (.list (a.map Bv))/\Gk (.list (a.map Bv))<=61 * a.length+1:=by
 refine ⟨?_,?_⟩
 ·rw[Jh,Mm]
  intro x hx
  obtain ⟨w,hw,rfl⟩:=Bh.mp hx
  exact aK (h w hw)
 ·rw[Gk]
  have:=Pf (m:=61) (xs:=a.map Bv) λx hx=>by
   obtain ⟨w,hw,rfl⟩:=Bh.mp hx
   exact Xb (h w hw)
  rw[Ae] at this
  omega
theorem vY{a:List DRow.Ps}(h:∀p∈a,Ck 60 p.1):Jh 12 (.list (a.map Fn))/\Gk (.list (a.map Fn))<=63 * a.length+1:=by
 refine ⟨?_,?_⟩
 ·rw[Jh,Mm]
  intro x hx
  obtain ⟨p,hp,rfl⟩:=Bh.mp hx
  unfold Fn
  simp only[Jh,Ii]
  exact ⟨aK (h p hp),by cases p.2 <;> decide +kernel,trivial⟩
 ·rw[Gk]
  have:=Pf (m:=63) (xs:=a.map Fn) λx hx=>by
   obtain ⟨p,hp,rfl⟩:=Bh.mp hx
   have:=Xb (h p hp)
   unfold Fn
   simp only[Gk,Gh]
   omega
  rw[Ae] at this
  omega
theorem kF{k:Nat}:∀{xs:List Ad},(∀x∈xs,x.depth<=k)->Bb xs<=k
 | [],_=>by rw[Bb]; omega
 | x::xs,h=>by
  have a:=h x Aa
  have b:=kF (xs:=xs) λy hy=>h y (Ab _ hy)
  rw[Bb]
  omega
theorem fW(D:List (List Int)):Ir (D.map Bv) (D.map Bv)=true:=by
 rw[Xv eqD_word]
 exact decide_eq_true rfl
theorem oO(D:List DRow.Ps):Ir (D.map Fn) (D.map Fn)=true:=by
 induction D with
 | nil=>simp [Ir]
 | cons p D ih =>
  rw[Au,Ua,ih]
  unfold Fn
  rw[mD,Ua,Ua,eqD_word,eqD_str,decide_eq_true rfl]
  simp [Ir]
theorem zK{l:List DV}(h:l.length=13):∃v1 v2 v3 v4 v5 v6 v7 v8 v9 v10 v11 v12 v13,l=[v1,v2,v3,v4,v5,v6,v7,v8,v9,v10,v11,v12,v13]:=by
 match l,h with
 | [v1,v2,v3,v4,v5,v6,v7,v8,v9,v10,v11,v12,v13],_=>exact ⟨v1,v2,v3,v4,v5,v6,v7,v8,v9,v10,v11,v12,v13,rfl⟩
theorem qV{a b c d r:Int}(h:0<=r/\r<4):∃v,Sm [By a,.int b,.int c,.int d] r=some (.int v)/\(v=a\/v=b\/v=c\/v=d):=by
 rcases (by omega:r=0\/r=1\/r=2\/r=3) with e | e | e | e <;> rw[e]
 ·exact ⟨a,tU _ _,.inl rfl⟩
 ·exact ⟨b,sO _ _ _,.inr (.inl rfl)⟩
 ·exact ⟨c,xX _ _ _ _,.inr (.inr (.inl rfl))⟩
 ·exact ⟨d,yR _ _ _ _ _,.inr (.inr (.inr rfl))⟩
section
variable{P:Bu}{w:World}{K:PySem.W.Frag}{mg:Str->Option Value}{base:Heap}
theorem u4:FnScope ["_law_script", "_law_cell", "_law_draws_here", "_law_pick", "_law_holes", "_law_word_here", "_law_deck_here", "_law_code_here", "_law_row_here", "_law_kept", "_law_one", "_law_turn", "_law_told", "_law_due"] ["_law_script"] (Bo Xl):=⟨rfl,rfl,rfl,by decide +kernel,rfl,by decide +kernel,by decide +kernel⟩
theorem q9{f f_show_word f_show_deck f_show_row f_read_word f_read_deck f_read_row f_read_code f_L_draws f_L_next f_L_word f_L_row f_L_deck f_L_code f_L_word_text f_L_deck_text f_L_row_text f_L_read_right  : Addr}{fd d_show_word d_show_deck d_show_row d_read_word d_read_deck d_read_row d_read_code d_L_draws d_L_next d_L_word d_L_row d_L_deck d_L_code d_L_word_text d_L_deck_text d_L_row_text d_L_read_right:Cb}(F:Fun K "law" "law" Xl f fd)(G_show_word:FnOk P w K mg base Fd 1 f_show_word d_show_word ["word"] (Kt K (Ml)))(b_show_word:Binds K d_show_word ["word"] [])(k_show_word:PySem.W.keepIn K (.ref f_show_word)=true)(m_show_word:mg "show_word" = some (.ref f_show_word))(G_show_deck:FnOk P w K mg base Fd 2 f_show_deck d_show_deck ["deck"] (Kt K (Vx)))(b_show_deck:Binds K d_show_deck ["deck"] [])(k_show_deck:PySem.W.keepIn K (.ref f_show_deck)=true)(m_show_deck:mg "show_deck" = some (.ref f_show_deck))(G_show_row:FnOk P w K mg base Fd 3 f_show_row d_show_row ["row"] (Kt K (Vw)))(b_show_row:Binds K d_show_row ["row"] [])(k_show_row:PySem.W.keepIn K (.ref f_show_row)=true)(m_show_row:mg "show_row" = some (.ref f_show_row))(G_read_word:FnOk P w K mg base Fd 3 f_read_word d_read_word ["holes", "text"] (Kt K (Vt)))(b_read_word:Binds K d_read_word ["holes", "text"] [])(k_read_word:PySem.W.keepIn K (.ref f_read_word)=true)(m_read_word:mg "read_word" = some (.ref f_read_word))(G_read_deck:FnOk P w K mg base Fd 4 f_read_deck d_read_deck ["holes", "text"] (Kt K (bL)))(b_read_deck:Binds K d_read_deck ["holes", "text"] [])(k_read_deck:PySem.W.keepIn K (.ref f_read_deck)=true)(m_read_deck:mg "read_deck" = some (.ref f_read_deck))(G_read_row:FnOk P w K mg base Fd 5 f_read_row d_read_row ["holes", "text"] (Kt K (lG)))(b_read_row:Binds K d_read_row ["holes", "text"] [])(k_read_row:PySem.W.keepIn K (.ref f_read_row)=true)(m_read_row:mg "read_row" = some (.ref f_read_row))(G_read_code:FnOk P w K mg base Fd 5 f_read_code d_read_code ["holes", "text"] (Kt K (kM)))(b_read_code:Binds K d_read_code ["holes", "text"] [])(k_read_code:PySem.W.keepIn K (.ref f_read_code)=true)(m_read_code:mg "read_code" = some (.ref f_read_code))(G_L_draws:FnOk P w K mg base Fd 1 f_L_draws d_L_draws ["_law_cell"] (Ta))(b_L_draws:Binds K d_L_draws ["_law_cell"] [])(k_L_draws:PySem.W.keepIn K (.ref f_L_draws)=true)(m_L_draws:mg "_law_draws" = some (.ref f_L_draws))(G_L_next:FnOk P w K mg base Fd 1 f_L_next d_L_next ["_law_draws_here"] (Zn K Rp))(b_L_next:Binds K d_L_next ["_law_draws_here"] [])(k_L_next:PySem.W.keepIn K (.ref f_L_next)=true)(m_L_next:mg "_law_next" = some (.ref f_L_next))(G_L_word:FnOk P w K mg base Fd 2 f_L_word d_L_word ["_law_draws_here", "_law_holes"] (Zn K (Ww)))(b_L_word:Binds K d_L_word ["_law_draws_here", "_law_holes"] [])(k_L_word:PySem.W.keepIn K (.ref f_L_word)=true)(m_L_word:mg "_law_word" = some (.ref f_L_word))(G_L_row:FnOk P w K mg base Fd 3 f_L_row d_L_row ["_law_draws_here", "_law_holes", "_law_many"] (Zn K (xM)))(b_L_row:Binds K d_L_row ["_law_draws_here", "_law_holes", "_law_many"] [])(k_L_row:PySem.W.keepIn K (.ref f_L_row)=true)(m_L_row:mg "_law_row" = some (.ref f_L_row))(G_L_deck:FnOk P w K mg base Fd 3 f_L_deck d_L_deck ["_law_draws_here", "_law_holes", "_law_many"] (Zn K (tX)))(b_L_deck:Binds K d_L_deck ["_law_draws_here", "_law_holes", "_law_many"] [])(k_L_deck:PySem.W.keepIn K (.ref f_L_deck)=true)(m_L_deck:mg "_law_deck" = some (.ref f_L_deck))(G_L_code:FnOk P w K mg base Fd 3 f_L_code d_L_code ["_law_draws_here", "_law_holes", "_law_many"] (Zn K (rK)))(b_L_code:Binds K d_L_code ["_law_draws_here", "_law_holes", "_law_many"] [])(k_L_code:PySem.W.keepIn K (.ref f_L_code)=true)(m_L_code:mg "_law_code" = some (.ref f_L_code))(G_L_word_text:FnOk P w K mg base Fd 1 f_L_word_text d_L_word_text ["_law_word_here"] (Kt K (Ml)))(b_L_word_text:Binds K d_L_word_text ["_law_word_here"] [])(k_L_word_text:PySem.W.keepIn K (.ref f_L_word_text)=true)(m_L_word_text:mg "_law_word_text" = some (.ref f_L_word_text))(G_L_deck_text:FnOk P w K mg base Fd 2 f_L_deck_text d_L_deck_text ["_law_deck_here"] (Kt K (Vx)))(b_L_deck_text:Binds K d_L_deck_text ["_law_deck_here"] [])(k_L_deck_text:PySem.W.keepIn K (.ref f_L_deck_text)=true)(m_L_deck_text:mg "_law_deck_text" = some (.ref f_L_deck_text))(G_L_row_text:FnOk P w K mg base Fd 2 f_L_row_text d_L_row_text ["_law_row_here"] (Kt K (Vw)))(b_L_row_text:Binds K d_L_row_text ["_law_row_here"] [])(k_L_row_text:PySem.W.keepIn K (.ref f_L_row_text)=true)(m_L_row_text:mg "_law_row_text" = some (.ref f_L_row_text))(G_L_read_right:FnOk P w K mg base Fd 1 f_L_read_right d_L_read_right ["_law_told", "_law_due"] (Kt K (qA)))(b_L_read_right:Binds K d_L_read_right ["_law_told", "_law_due"] [])(k_L_read_right:PySem.W.keepIn K (.ref f_L_read_right)=true)(m_L_read_right:mg "_law_read_right" = some (.ref f_L_read_right))(mz_str:mg "str" = none)(mz_tuple:mg "tuple" = none)(mz_range:mg "range" = none)(mz_isinstance:mg "isinstance" = none)(mz_zip:mg "zip" = none):FnOk P w K mg base Fd 6 f fd ["_law_script"] (spLawD K):=by
 refine' A9 (k:=5) F u4 (λcdv A outer s H E hr=>?hb) ?h
 case hb =>
  have hr1:Room 1 _:=hr.mono (by decide)
  have hr2:Room 2 _:=hr.mono (by decide)
  have hr3:Room 3 _:=hr.mono (by decide)
  have hr4:Room 4 _:=hr.mono (by decide)
  have hr5:Room 5 _:=hr.mono (by decide)
  have hu64:=hr.units
  have hrx:Room 5 (Ku Fd P w K mg base ["_law_script", "_law_cell", "_law_draws_here", "_law_pick", "_law_holes", "_law_word_here", "_law_deck_here", "_law_code_here", "_law_row_here", "_law_kept", "_law_one", "_law_turn", "_law_told", "_law_due"] "law" (Bo Xl) f cdv A outer s H E).nox.A:=hr
  have hu100:(Ku Fd P w K mg base ["_law_script", "_law_cell", "_law_draws_here", "_law_pick", "_law_holes", "_law_word_here", "_law_deck_here", "_law_code_here", "_law_row_here", "_law_kept", "_law_one", "_law_turn", "_law_told", "_law_due"] "law" (Bo Xl) f cdv A outer s H E).nox.A.units+100<cLine:=by have:=hrx.un; omega
  exact Bz (Oe Ej rfl (uH (g0 (sR (pv 0) Sw (So Ci)) (Gq (Ak Ci Av)))) (Ih (i:=1) u4.nd rfl (Cz rfl))
   (Bz (Fl (i:=2) u4.nd rfl (Cz rfl) (qS G_L_draws hr1 rfl m_L_draws k_L_draws b_L_draws Di (Ak (Ar (pv 1)) Av)))
    (Bz (Fl (i:=3) u4.nd rfl (Cz rfl) (Eh G_L_next hr1 rfl m_L_next k_L_next b_L_next Di (pv 2) Av))
    (Bz (Fl (i:=4) u4.nd rfl (Cz rfl) (Uq Ci (Ny (Gq (Ak (Fz (Od (Ar (pv 3)) Ci) Ci) (Ak (Fz (Od (Ar (pv 3)) Ci) Ci) (Ak (Fz (Od (Ar (pv 3)) Ci) Ci) (Ak (Fz (Od (Ar (pv 3)) Ci) Ci) Av))))) (Fz (Ar (pv 3)) Ci))))
    (Bz (Fl (i:=5) u4.nd rfl (Cz rfl) (Eh G_L_word hr2 rfl m_L_word k_L_word b_L_word Di (pv 2) (Ak (Ar (pv 4)) Av)))
    (Bz (Fl (i:=6) u4.nd rfl (Cz rfl) (Eh G_L_deck hr3 rfl m_L_deck k_L_deck b_L_deck Di (pv 2) (Ak (Ar (pv 4)) (Ak (Ny (Gq (Ak Ci (Ak Ci (Ak Ci (Ak Ci Av))))) (Fz (Od (Ar (pv 3)) Ci) Ci)) Av))))
    (Bz (Fl (i:=7) u4.nd rfl (Cz rfl) (Eh G_L_code hr3 rfl m_L_code k_L_code b_L_code Di (pv 2) (Ak (Ar (pv 4)) (Ak (Ny (Gq (Ak Ci (Ak Ci (Ak Ci (Ak Ci Av))))) (Fz (Od (Ar (pv 3)) Ci) Ci)) Av))))
    (Bz (Fl (i:=8) u4.nd rfl (Cz rfl) (Eh G_L_row hr3 rfl m_L_row k_L_row b_L_row Di (pv 2) (Ak (Ar (pv 4)) (Ak Ci Av))))
    (Bz (Fl (i:=9) u4.nd rfl (Cz rfl) (Iw (Qq hr.gd hu100) cD rfl mz_str (by decide +kernel) (Ak (Gq (Ak (Ar (pv 6)) (Ak (Ar (pv 7)) (Ak (Ar (pv 8)) Av)))) Av)))
    (Bz (Oe Ej rfl (uH (Gq (Ak (Xy (Ar (pv 5))) (Ak (Rw Av) (Ak (Rw (Ak (o6 (Ar (pv 4)) Ci) Av)) (Ak (nL rfl rfl mz_tuple rfl mz_range (Ar (pv 4))) Av)))))) (Ih (i:=10) u4.nd rfl (Cz rfl))
    (Bz (Gv (jC (Wq (Sk hu64 (Dg G_show_word hr1 rfl m_show_word k_show_word b_show_word Di (Ak (Ar (pv 10)) Av)) (Dg G_L_word_text hr1 rfl m_L_word_text k_L_word_text b_L_word_text Di (Ak (Ar (pv 10)) Av))) (Wo (Sk hu64 (Dg G_read_word hr3 rfl m_read_word k_read_word b_read_word Di (Ak (Ar (pv 4)) (Ak (Dg G_L_word_text hr1 rfl m_L_word_text k_L_word_text b_L_word_text Di (Ak (Ar (pv 10)) Av)) Av))) (Ar (pv 10))))))
     (Cj (Dv Ox)) Fc)
     (Cj (Gv (Pn (Pk (Gg Ru Rn rfl mz_isinstance (by decide +kernel) (Ak (Dg G_read_word hr3 rfl m_read_word k_read_word b_read_word Di (Ak (Ar (pv 4)) (Ak (Dg G_L_word_text hr1 rfl m_L_word_text k_L_word_text b_L_word_text Di (Ak (Ar (pv 10)) Av)) Av))) (Ak (Xf (n := "tuple") rfl mz_tuple (by decide +kernel)) Av)))))
     (Cj (Dv Ox)) Fc))))
    (Cj (Oe Ej rfl (Nn rfl mz_range (Ak Ci Av)) (Ih (i:=11) u4.nd rfl (Cz rfl))
    (Bz (Gv (jC (Wq (Sk hu64 (Dg G_show_deck hr2 rfl m_show_deck k_show_deck b_show_deck Di (Ak (Ar (pv 6)) Av)) (Dg G_L_deck_text hr2 rfl m_L_deck_text k_L_deck_text b_L_deck_text Di (Ak (Ar (pv 6)) Av))) (Wo (Sk hu64 (Dg G_show_row hr3 rfl m_show_row k_show_row b_show_row Di (Ak (Ar (pv 8)) Av)) (Dg G_L_row_text hr2 rfl m_L_row_text k_L_row_text b_L_row_text Di (Ak (Ar (pv 8)) Av))))))
     (Cj (Dv Ox)) Fc)
     (Bz (Qh (i:=12) u4.nd rfl (Cz rfl) (Gq (Ak (Dg G_read_deck hr4 rfl m_read_deck k_read_deck b_read_deck Di (Ak (Ar (pv 4)) (Ak (Dg G_L_deck_text hr2 rfl m_L_deck_text k_L_deck_text b_L_deck_text Di (Ak (Ar (pv 6)) Av)) Av))) (Ak (Dg G_read_code hr5 rfl m_read_code k_read_code b_read_code Di (Ak (Ar (pv 4)) (Ak (Dg G_L_deck_text hr2 rfl m_L_deck_text k_L_deck_text b_L_deck_text Di (Ak (Ar (pv 7)) Av)) Av))) Av))))
     (Bz (jY (pv 12) (Dg G_read_row hr5 rfl m_read_row k_read_row b_read_row Di (Ak (Ar (pv 4)) (Ak (Dg G_L_row_text hr2 rfl m_L_row_text k_L_row_text b_L_row_text Di (Ak (Ar (pv 8)) Av)) Av))))
     (Bz (wN G_L_read_right hr1 rfl m_L_read_right k_L_read_right b_L_read_right Ej rfl rfl mz_zip (pv 12) (Gq (Ak (Ar (pv 6)) (Ak (Ar (pv 7)) (Ak (Ar (pv 8)) Av)))) u4.nd rfl rfl (by decide) (Cz rfl) (Cz rfl) (pv 10) (pv 13) (pv 10) (Qb (Ym yN)) zR)
     (Cj (Gv (Sk hu64 (Iw (Qq hr.gd hu100) cD rfl mz_str (by decide +kernel) (Ak (Gq (Ak (Ar (pv 6)) (Ak (Ar (pv 7)) (Ak (Ar (pv 8)) Av)))) Av)) (Ar (pv 9)))
     (Cj (Dv Ox)) Fc))))))))))))))))))
   (Cj (Dv Ox))
 case h =>
  intro ns h63
  array_get_dec
  have lc:(Km ns none (some 8)).length<=8:=E8 8
  refine ⟨by rw[Ae]; omega,?_⟩
  refine cH (l:=Km ns none (some 8)++[0]) (g:=By) (by rw[Cm]; rfl) (λi δ=>∃(l:List DV) (n':Nat),δ=⟨.scr ns::l,n'⟩/\l.length=13/\(∀v∈l,NP v)/\n'<=4000 * i) ?_ ?_ ?_
  ·exact ⟨_,_,rfl,rfl,by simp [Mj],by omega⟩
  ·(intro i c _ hc q_; obtain ⟨l,n0,rfl,hl,hv,hn⟩ := q_)
   have hi:i<9:=by
    have:=(Aq.mp hc).1
    rw[Bj,Er] at this
    omega
   obtain ⟨v1,v2,v3,v4,v5,v6,v7,v8,v9,v10,v11,v12,v13,rfl⟩:=zK hl
   simp only[List.forall_mem_cons] at hv
   obtain ⟨hv1,hv2,hv3,hv4,hv5,hv6,hv7,hv8,hv9,hv10,hv11,hv12,hv13,-⟩:=hv
   array_get_dec
   refine ⟨rfl,by omega,λr1=>?_⟩
   array_get_dec
   obtain ⟨q,e1,e2⟩:=qV (a:=r1 / 4 % 8) (b:=r1 / 4 % 12) (c:=r1 / 4 % 60) (d:=r1 / 4 % 60) (Jw r1 (b:=4) (by decide))
   have bq:0<=q/\q<60:=by
    have a1:=Jw (r1 / 4) (b:=8) (by decide)
    have a2:=Jw (r1 / 4) (b:=12) (by decide)
    have a3:=Jw (r1 / 4) (b:=60) (by decide)
    omega
   refine ⟨_,e1,?_⟩
   array_get_dec
   obtain ⟨h,eh,h1,h60⟩ : ∃h:Int,1+q=h/\1<=h/\h<=60:=⟨_,rfl,by omega,by omega⟩
   rw[eh]
   refine ⟨h,rfl,by omega,h60,by omega,λw n1 m1 m2 rw_=>?_⟩
   array_get_dec
   obtain ⟨q2,f1,f2⟩:=qV (a:=12) (b:=12) (c:=12) (d:=60) (Jw (r1 / 256) (b:=4) (by decide))
   refine ⟨_,f1,?_⟩
   refine ⟨h,q2,rfl,h1,h60,by omega,by omega,by omega,λD n2 lD hD m3 m4=>?_⟩
   array_get_dec
   obtain ⟨q3,g1,g2⟩:=qV (a:=12) (b:=12) (c:=12) (d:=40) (Jw (r1 / 1024) (b:=4) (by decide))
   refine ⟨_,g1,?_⟩
   refine ⟨h,q3,rfl,h1,h60,by omega,by omega,by omega,λE n3 lE hE nE m5 m6=>?_⟩
   array_get_dec
   refine ⟨h,12,rfl,h1,h60,by omega,by omega,by omega,λps n4 lp hp m7 m8=>?_⟩
   array_get_dec
   have D60:∀w∈D,Ck 60 w:=λw hw=>(hD w hw).up h60
   have E60:∀w∈E,Ck 60 w:=λw hw=>(hE w hw).up h60
   have p60:∀p∈ps,Ck 60 p.1:=λp hq=>(hp p hq).up h60
   obtain ⟨d1,d2⟩:=kZ D60
   obtain ⟨d3,d4⟩:=kZ E60
   obtain ⟨d5,d6⟩:=vY p60
   have fT:Jh 12 (.list [.list (D.map Bv),.list (E.map Bv),.list (ps.map Fn)]):=by
    simp only[Jh,Ii] at d1 d3 d5 ⊢
    exact ⟨d1,d3,d5,trivial⟩
   have nT:(12+12) * Gk (.list [.list (D.map Bv),.list (E.map Bv),.list (ps.map Fn)])<=Aw:=by
    refine Yw ?_
    simp only[Gk,Gh] at d2 d4 d6 ⊢
    omega
   have dD:(Ed (D.map Bv)).depth<=60:=dp
   have dE:(Ed (E.map Bv)).depth<=60:=dp
   have dPs:(Ed (ps.map Fn)).depth<=60:=by
    have:=kF (k:=3) (xs:=ps.map Fn) λx hx=>by
     obtain ⟨p,_,rfl⟩:=Bh.mp hx
     have:=Yp p.1
     unfold Fn
     simp only[Cg,Bb]
     omega
    simp only[Cg]
    omega
   have dT:(Ed [.list (D.map Bv),.list (E.map Bv),.list (ps.map Fn)]).depth<=90:=by
    simp only[Cg,Bb] at dD dE dPs ⊢
    omega
   obtain ⟨tx,etx⟩ : ∃tx,Yb (.list [.list (D.map Bv),.list (E.map Bv),.list (ps.map Fn)])=tx:=⟨_,rfl⟩
   refine ⟨⟨12,by decide,fT,nT⟩,dT,?_⟩
   rw[etx]
   refine ⟨by omega,by omega,?_⟩
   have r1':Ck h [h - 1]:=⟨Jk _ _,λx hx=>by rw[Am.mp hx]; omega⟩
   have ru':Ck h (oI h.toNat):=⟨List.pairwise_map.mpr (List.pairwise_lt_range.imp λz=>by omega),λx hx=>by
    obtain ⟨k,hk,rfl⟩:=Bh.mp hx
    have:=El.mp hk
    omega⟩
   have lD':D.length<=60:=by omega
   have lE':E.length<=60:=by omega
   have lp':ps.length<=60:=by omega
   refine cH (l:=[w,[],[h - 1],oI h.toNat]) (g:=Bv) rfl (λ_ δ=>∃v10:DV,δ=⟨[.scr ns,.dat .sh (.int c),.drw,.dat .sh (.int r1),.dat .sh (.int h),.dat .sh (Bv w),.dat .sh (.list (D.map Bv)),.dat .sh (.list (E.map Bv)),.dat .sh (.list (ps.map Fn)),.dat .sh (.str tx),v10,v11,v12,v13],n4⟩/\NP v10) ?_ ?_ ?_
   ·exact ⟨_,rfl,hv10⟩
   ·(intro j u _ hu q_; obtain ⟨v10,rfl,hv10⟩ := q_)
    have ru:Ck h u:=by
     have hu:=Be hu
     simp only[Ai,Bw,or_false] at hu
     rcases hu with rfl | rfl | rfl | rfl
     ·exact rw_
     ·exact Ck.nil _
     ·exact r1'
     ·exact ru'
    have r6:=ru.up h60
    array_get_dec
    refine ⟨u,rfl,r6,?_⟩
    array_get_dec
    refine ⟨u,rfl,r6,?_⟩
    array_get_dec
    refine ⟨u,rfl,r6,?_⟩
    array_get_dec
    refine ⟨h,u,rfl,h60,ru,?_⟩
    array_get_dec
    refine ⟨u,rfl,r6,?_⟩
    array_get_dec
    refine ⟨h,u,rfl,h60,ru,?_⟩
    array_get_dec
    exact ⟨_,rfl,Jo⟩
   clear hv10
   (intro _ q_; obtain ⟨v10,rfl,hv10⟩ := q_)
   refine cH (l:=Br 2) (g:=λi:Nat=>.int i) rfl (λ_ δ=>∃v10 v11 v12 v13:DV,δ=⟨[.scr ns,.dat .sh (.int c),.drw,.dat .sh (.int r1),.dat .sh (.int h),.dat .sh (Bv w),.dat .sh (.list (D.map Bv)),.dat .sh (.list (E.map Bv)),.dat .sh (.list (ps.map Fn)),.dat .sh (.str tx),v10,v11,v12,v13],n4⟩/\NP v10/\NP v11/\NP v12/\NP v13) ?_ ?_ ?_
   ·exact ⟨_,_,_,_,rfl,hv10,hv11,hv12,hv13⟩
   ·clear hv10 hv11 hv12 hv13
    (intro j a _ ha q_; obtain ⟨v10,v11,v12,v13,rfl,hv10,hv11,hv12,hv13⟩ := q_)
    array_get_dec
    refine ⟨D,rfl,D60,lD',?_⟩
    array_get_dec
    refine ⟨D,rfl,D60,lD',?_⟩
    array_get_dec
    refine ⟨ps,rfl,p60,lp',?_⟩
    array_get_dec
    refine ⟨ps,rfl,p60,lp',?_⟩
    array_get_dec
    refine ⟨D,rfl,D60,lD',?_⟩
    array_get_dec
    refine ⟨h,D,rfl,h60,hD,lD',?_⟩
    array_get_dec
    refine ⟨E,rfl,E60,lE',?_⟩
    array_get_dec
    refine ⟨h,E,rfl,h60,hE,lE',nE,?_⟩
    array_get_dec
    refine ⟨ps,rfl,p60,lp',?_⟩
    array_get_dec
    refine ⟨h,ps,rfl,h60,hp,lp',?_⟩
    array_get_dec
    refine ⟨by simp [npk,hv10 _,hv13 _],?_⟩
    unfold yX
    refine ⟨[D.map Bv,E.map Bv,ps.map Fn],rfl,by simp [npk,hv10 _,hv13 _],by decide,by decide,by simp,by simp,λc' hc'=>?_,?_⟩
    ·simp only[Ai,Bw,or_false] at hc'
     rcases hc' with rfl | rfl | rfl
     ·exact ⟨Rt _,by rw[Ae]; omega⟩
     ·exact ⟨Rt _,by rw[Ae]; omega⟩
     ·exact ⟨Ly (λp=>by unfold Fn; exact im) _,by rw[Ae]; omega⟩
    array_get_dec
    refine ⟨_,_,rfl,nofun,λi' c' e' hc' he' R hR=>?_,?_⟩
    ·match i',hc',he' with
     | 0,hc',he' =>
      cases hc'
      cases he'
      exact ⟨_,rfl,fW D,dD,λx hx=>by
       obtain ⟨w,_,rfl⟩:=Bh.mp hx
       exact ⟨_,rfl⟩,hR⟩
     | 1,hc',he' =>
      cases hc'
      cases he'
      exact ⟨_,rfl,fW E,dE,λx hx=>by
       obtain ⟨w,_,rfl⟩:=Bh.mp hx
       exact ⟨_,rfl⟩,hR⟩
     | 2,hc',he' =>
      cases hc'
      cases he'
      exact ⟨_,rfl,oO ps,dPs,λx hx=>by
       obtain ⟨w,_,rfl⟩:=Bh.mp hx
       exact ⟨_,rfl⟩,hR⟩
     | i'+3,hc',he'=>cases hc'
    array_get_dec
    refine ⟨⟨12,by decide,fT,nT⟩,dT,?_⟩
    rw[etx]
    array_get_dec
    exact ⟨_,_,_,_,rfl,Mj,Jo,Mj,Mj⟩
   ·(intro _ q_; obtain ⟨v10,v11,v12,v13,rfl,hv10,hv11,hv12,hv13⟩ := q_)
    exact ⟨_,_,rfl,rfl,by simp [Jo,u5,hv10,hv11,hv12,hv13],by omega⟩
  ·(intro _ q_; obtain ⟨l,n0,rfl,_⟩ := q_)
   array_get_dec
end
end K81
namespace K81
open PySem L2 Nd DL
structure Def(K:PySem.W.Frag)(x:Str)(st:Stmt)(f:Addr)(fd:Cb):Prop where
 nm:PySem.W.nsIn K Ce x=some (some (.ref f))
 fn:Fun K x x st f fd
theorem def_mk{K:PySem.W.Frag}{x:Str}{st:Stmt}{f:Addr}{od an:Option Addr}{sl:Array (Option Value)}{oc kV dc pm cd ct:Value}(a:PySem.W.nsIn K Ce x=some (some (.ref f)))(l:K.lookup f=some ⟨oc,od,.func (PySem.W.fnOf x x (Mn st) (Ij st) (Bo st) .none kV dc pm an cd ct),sl⟩)(c:PySem.W.codeIn K cd x=true)(k:PySem.W.keepIn K (.ref f)=true):Def K x st f (PySem.W.fnOf x x (Mn st) (Ij st) (Bo st) .none kV dc pm an cd ct):=⟨a,qJ l c k⟩
theorem V9{P:List Value->Prop}(h:P []):∀us:List Value,us.length=0->P us
 | [],_=>h
theorem S6{P:List Value->Prop}{n:Nat}(h:∀a (us:List Value),us.length=n->P (a::us)):∀us:List Value,us.length=n+1->P us
 | a::us,e=>h a us (Nat.succ.inj e)
theorem nQ{P:List Value->Prop}(h:∀a0,P [a0]):∀us:List Value,us.length=1->P us:=S6 λa us e=>V9 (P:=λus=>P (a::us)) (h a) us e
theorem uK{P:List Value->Prop}(h:∀a0 a1,P [a0,a1]):∀us:List Value,us.length=2->P us:=S6 λa us e=>nQ (P:=λus=>P (a::us)) (h a) us e
theorem R0{P:List Value->Prop}(h:∀a0 a1 a2,P [a0,a1,a2]):∀us:List Value,us.length=3->P us:=S6 λa us e=>uK (P:=λus=>P (a::us)) (h a) us e
theorem all_mk{l:PySem.W.OpenLaw}{q:Bu}{w:World}{K:PySem.W.Frag}{h:Heap}{mg:Str->Option Value}{fa f1 f2 f3 f4 f5 f6 f7 f8 f9 f10 f11 f12 f13 f14 f15 f16 f17 f18 f19 f20 f21 f22 f23 f24 f25:Addr}{d1 d2 d3 d4 d5 d6 d7 d8 d9 d10 d11 d12 d13 d14 d15 d16 d17 d18 d19 d20 d21 d22 d23 d24:Cb}(X:K.In h)(G:h.Ns Ce mg)(hfa:mg "law" = some (.ref fa)){od an:Option Addr}{sl:Array (Option Value)}{oc kV dc pm cd ct:Value}(D1:Def K "_law_draws" bJ f1 d1)(D2:Def K "_law_next" lP f2 d2)(D3:Def K "is_whole" Rx f3 d3)(D4:Def K "is_word" Us f4 d4)(D5:Def K "show_word" Iv f5 d5)(D6:Def K "show_deck" Mk f6 d6)(D7:Def K "show_pass" Pe f7 d7)(D8:Def K "show_row" Oa f8 d8)(D9:Def K "check_text" Nx f9 d9)(D10:Def K "read_number" Kf f10 d10)(D11:Def K "read_word" Mq f11 d11)(D12:Def K "parts_of" Rm f12 d12)(D13:Def K "read_deck" Mg f13 d13)(D14:Def K "read_pass" Pq f14 d14)(D15:Def K "read_row" Of f15 d15)(D16:Def K "read_code" Pa f16 d16)(D17:Def K "_law_word" Pm f17 d17)(D18:Def K "_law_row" Ro f18 d18)(D19:Def K "_law_deck" Pd f19 d19)(D20:Def K "_law_code" Ph f20 d20)(D21:Def K "_law_word_text" Fk f21 d21)(D22:Def K "_law_deck_text" Ht f22 d22)(D23:Def K "_law_row_text" Ik f23 d23)(D24:Def K "_law_read_right" Jf f24 d24)(aL:PySem.W.nsIn K Ce "law" = some (some (.ref f25)))(lL:K.lookup f25=some ⟨oc,od,.func (PySem.W.fnOf "law" "law" (Mn Xl) (Ij Xl) (Bo Xl) .none kV dc pm an cd ct),sl⟩)(cL:PySem.W.codeIn K cd "law" = true)(kL:PySem.W.keepIn K (.ref f25)=true)(z1:PySem.W.nsIn K Ce "bool" = some none)(z2:PySem.W.nsIn K Ce "isinstance" = some none)(z3:PySem.W.nsIn K Ce "int" = some none)(z4:PySem.W.nsIn K Ce "tuple" = some none)(z5:PySem.W.nsIn K Ce "str" = some none)(z6:PySem.W.nsIn K Ce "all" = some none)(z7:PySem.W.nsIn K Ce "len" = some none)(z8:PySem.W.nsIn K Ce "set" = some none)(z9:PySem.W.nsIn K Ce "range" = some none)(z10:PySem.W.nsIn K Ce "sorted" = some none)(z11:PySem.W.nsIn K Ce "list" = some none)(z12:PySem.W.nsIn K Ce "zip" = some none)(tz_often:PySem.W.nsIn K Ce "often" = some none)(tz_cut_by:PySem.W.nsIn K Ce "cut_by" = some none){tk_FIGURES:Tok}(qc_FIGURES:PySem.W.nsIn K Ce "FIGURES" = some (some (.str "0123456789" tk_FIGURES))){tk_MOST_FIGURES:Tok}(qc_MOST_FIGURES:PySem.W.nsIn K Ce "MOST_FIGURES" = some (some (.int 20 tk_MOST_FIGURES))):cU q K/\∃fd:Cb,(∀(s:Aj) (v:Value),BindsTo s fd ⟨[v],[]⟩ [("_law_script",v)])/\∀base:Heap,K.In base->base.Ns Ce mg->FnOk l.prog w K mg base Fd 6 fa fd ["_law_script"] (DL.spLawD K):=by
 have e:=hfa.symm.trans (PySem.W.mg_of X G aL)
 cases e
 have FL:=qJ (st:=Xl) lL cL kL
 have b1:=D1.fn.binds (ps:=["_law_cell"]) λ_ _ _ _ _ _=>nQ (λ_=>rfl)
 have b2:=D2.fn.binds (ps:=["_law_draws_here"]) λ_ _ _ _ _ _=>nQ (λ_=>rfl)
 have b3:=D3.fn.binds (ps:=["thing"]) λ_ _ _ _ _ _=>nQ (λ_=>rfl)
 have b4:=D4.fn.binds (ps:=["holes", "thing"]) λ_ _ _ _ _ _=>uK (λ_ _=>rfl)
 have b5:=D5.fn.binds (ps:=["word"]) λ_ _ _ _ _ _=>nQ (λ_=>rfl)
 have b6:=D6.fn.binds (ps:=["deck"]) λ_ _ _ _ _ _=>nQ (λ_=>rfl)
 have b7:=D7.fn.binds (ps:=["needles", "side"]) λ_ _ _ _ _ _=>uK (λ_ _=>rfl)
 have b8:=D8.fn.binds (ps:=["row"]) λ_ _ _ _ _ _=>nQ (λ_=>rfl)
 have b9:=D9.fn.binds (ps:=["thing"]) λ_ _ _ _ _ _=>nQ (λ_=>rfl)
 have b10:=D10.fn.binds (ps:=["text"]) λ_ _ _ _ _ _=>nQ (λ_=>rfl)
 have b11:=D11.fn.binds (ps:=["holes", "text"]) λ_ _ _ _ _ _=>uK (λ_ _=>rfl)
 have b12:=D12.fn.binds (ps:=["text"]) λ_ _ _ _ _ _=>nQ (λ_=>rfl)
 have b13:=D13.fn.binds (ps:=["holes", "text"]) λ_ _ _ _ _ _=>uK (λ_ _=>rfl)
 have b14:=D14.fn.binds (ps:=["holes", "text"]) λ_ _ _ _ _ _=>uK (λ_ _=>rfl)
 have b15:=D15.fn.binds (ps:=["holes", "text"]) λ_ _ _ _ _ _=>uK (λ_ _=>rfl)
 have b16:=D16.fn.binds (ps:=["holes", "text"]) λ_ _ _ _ _ _=>uK (λ_ _=>rfl)
 have b17:=D17.fn.binds (ps:=["_law_draws_here", "_law_holes"]) λ_ _ _ _ _ _=>uK (λ_ _=>rfl)
 have b18:=D18.fn.binds (ps:=["_law_draws_here", "_law_holes", "_law_many"]) λ_ _ _ _ _ _=>R0 (λ_ _ _=>rfl)
 have b19:=D19.fn.binds (ps:=["_law_draws_here", "_law_holes", "_law_many"]) λ_ _ _ _ _ _=>R0 (λ_ _ _=>rfl)
 have b20:=D20.fn.binds (ps:=["_law_draws_here", "_law_holes", "_law_many"]) λ_ _ _ _ _ _=>R0 (λ_ _ _=>rfl)
 have b21:=D21.fn.binds (ps:=["_law_word_here"]) λ_ _ _ _ _ _=>nQ (λ_=>rfl)
 have b22:=D22.fn.binds (ps:=["_law_deck_here"]) λ_ _ _ _ _ _=>nQ (λ_=>rfl)
 have b23:=D23.fn.binds (ps:=["_law_row_here"]) λ_ _ _ _ _ _=>nQ (λ_=>rfl)
 have b24:=D24.fn.binds (ps:=["_law_told", "_law_due"]) λ_ _ _ _ _ _=>uK (λ_ _=>rfl)
 have m1:=PySem.W.mg_of X G D1.nm
 have m2:=PySem.W.mg_of X G D2.nm
 have m3:=PySem.W.mg_of X G D3.nm
 have m4:=PySem.W.mg_of X G D4.nm
 have m5:=PySem.W.mg_of X G D5.nm
 have m6:=PySem.W.mg_of X G D6.nm
 have m7:=PySem.W.mg_of X G D7.nm
 have m8:=PySem.W.mg_of X G D8.nm
 have m9:=PySem.W.mg_of X G D9.nm
 have m10:=PySem.W.mg_of X G D10.nm
 have m11:=PySem.W.mg_of X G D11.nm
 have m12:=PySem.W.mg_of X G D12.nm
 have m13:=PySem.W.mg_of X G D13.nm
 have m14:=PySem.W.mg_of X G D14.nm
 have m15:=PySem.W.mg_of X G D15.nm
 have m16:=PySem.W.mg_of X G D16.nm
 have m17:=PySem.W.mg_of X G D17.nm
 have m18:=PySem.W.mg_of X G D18.nm
 have m19:=PySem.W.mg_of X G D19.nm
 have m20:=PySem.W.mg_of X G D20.nm
 have m21:=PySem.W.mg_of X G D21.nm
 have m22:=PySem.W.mg_of X G D22.nm
 have m23:=PySem.W.mg_of X G D23.nm
 have m24:=PySem.W.mg_of X G D24.nm
 have y1:=PySem.W.mg_none_of X G z1
 have y2:=PySem.W.mg_none_of X G z2
 have y3:=PySem.W.mg_none_of X G z3
 have y4:=PySem.W.mg_none_of X G z4
 have y5:=PySem.W.mg_none_of X G z5
 have y6:=PySem.W.mg_none_of X G z6
 have y7:=PySem.W.mg_none_of X G z7
 have y8:=PySem.W.mg_none_of X G z8
 have y9:=PySem.W.mg_none_of X G z9
 have y10:=PySem.W.mg_none_of X G z10
 have y11:=PySem.W.mg_none_of X G z11
 have y12:=PySem.W.mg_none_of X G z12
 have mc_FIGURES:=PySem.W.mg_of X G qc_FIGURES
 have mc_MOST_FIGURES:=PySem.W.mg_of X G qc_MOST_FIGURES
 have tn_often:=DL.tab_no tz_often
 have tn_cut_by:=DL.tab_no tz_cut_by
 refine ⟨oY tn_often tn_cut_by,PySem.W.fnOf "law" "law" (Mn Xl) (Ij Xl) (Bo Xl) .none kV dc pm an cd ct,λs v=>.of_eq rfl,λbase _ _=>?_⟩
 have g1:=oJ (P:=l.prog) (w:=w) (mg:=mg) (base:=base) D1.fn
 have g2:=qI (P:=l.prog) (w:=w) (mg:=mg) (base:=base) D2.fn
 have g3:=eB (P:=l.prog) (w:=w) (mg:=mg) (base:=base) D3.fn y1 y2 y3
 have g4:=jE (P:=l.prog) (w:=w) (mg:=mg) (base:=base) D4.fn g3 b3 D3.fn.kp m3 y4 y2
 have g5:=cF (P:=l.prog) (w:=w) (mg:=mg) (base:=base) D5.fn y5
 have g6:=cC (P:=l.prog) (w:=w) (mg:=mg) (base:=base) D6.fn g5 b5 D5.fn.kp m5
 have g7:=bC (P:=l.prog) (w:=w) (mg:=mg) (base:=base) D7.fn g5 b5 D5.fn.kp m5
 have g8:=eS (P:=l.prog) (w:=w) (mg:=mg) (base:=base) D8.fn g7 b7 D7.fn.kp m7
 have g9:=Zc (P:=l.prog) (w:=w) (mg:=mg) (base:=base) D9.fn y5 y2
 have g10:=Yj (P:=l.prog) (w:=w) (mg:=mg) (base:=base) D10.fn g9 b9 D9.fn.kp m9 y6 y7 y3 mc_FIGURES mc_MOST_FIGURES
 have g11:=dO (P:=l.prog) (w:=w) (mg:=mg) (base:=base) D11.fn g4 b4 D4.fn.kp m4 g9 b9 D9.fn.kp m9 g10 b10 D10.fn.kp m10 y4
 have g12:=eT (P:=l.prog) (w:=w) (mg:=mg) (base:=base) D12.fn g9 b9 D9.fn.kp m9
 have g13:=dG (P:=l.prog) (w:=w) (mg:=mg) (base:=base) D13.fn g11 b11 D11.fn.kp m11 g12 b12 D12.fn.kp m12
 have g14:=bQ (P:=l.prog) (w:=w) (mg:=mg) (base:=base) D14.fn g11 b11 D11.fn.kp m11
 have g15:=fJ (P:=l.prog) (w:=w) (mg:=mg) (base:=base) D15.fn g12 b12 D12.fn.kp m12 g14 b14 D14.fn.kp m14
 have g16:=bF (P:=l.prog) (w:=w) (mg:=mg) (base:=base) D16.fn g13 b13 D13.fn.kp m13 y7 y8
 have g17:=dJ (P:=l.prog) (w:=w) (mg:=mg) (base:=base) D17.fn g2 b2 D2.fn.kp m2 y9 y4
 have g18:=eN (P:=l.prog) (w:=w) (mg:=mg) (base:=base) D18.fn g2 b2 D2.fn.kp m2 g17 b17 D17.fn.kp m17 y9
 have g19:=cI (P:=l.prog) (w:=w) (mg:=mg) (base:=base) D19.fn g2 b2 D2.fn.kp m2 g17 b17 D17.fn.kp m17 y9 y7
 have g20:=cT (P:=l.prog) (w:=w) (mg:=mg) (base:=base) D20.fn g2 b2 D2.fn.kp m2 g17 b17 D17.fn.kp m17 y9 y7 y10 y8 y4
 have g21:=Sq (P:=l.prog) (w:=w) (mg:=mg) (base:=base) D21.fn y5
 have g22:=Sh (P:=l.prog) (w:=w) (mg:=mg) (base:=base) D22.fn g21 b21 D21.fn.kp m21
 have g23:=Uo (P:=l.prog) (w:=w) (mg:=mg) (base:=base) D23.fn g21 b21 D21.fn.kp m21
 have g24:=Rv (P:=l.prog) (w:=w) (mg:=mg) (base:=base) D24.fn y11 y2 y4
 exact q9 FL g5 b5 D5.fn.kp m5 g6 b6 D6.fn.kp m6 g8 b8 D8.fn.kp m8 g11 b11 D11.fn.kp m11 g13 b13 D13.fn.kp m13 g15 b15 D15.fn.kp m15 g16 b16 D16.fn.kp m16 g1 b1 D1.fn.kp m1 g2 b2 D2.fn.kp m2 g17 b17 D17.fn.kp m17 g18 b18 D18.fn.kp m18 g19 b19 D19.fn.kp m19 g20 b20 D20.fn.kp m20 g21 b21 D21.fn.kp m21 g22 b22 D22.fn.kp m22 g23 b23 D23.fn.kp m23 g24 b24 D24.fn.kp m24 y5 y4 y9 y2 y12
theorem walk{l:PySem.W.OpenLaw}{q:Bu}{loose:List Str}{XP:(Str->Option Value)->Heap->Prop}{YP:World->Heap->Prop}{d:DefRec}{K:Params->PySem.W.Frag}(hn:l.most=some 63)(hdf:d.params.defaults=[])(hY:∀(w:World) (h:Heap),YP w h->(K w.params).In h)(F:∀(w:World) (mg:Str->Option Value) (fa:Addr) (h:Heap),(K w.params).In h->h.Ns Ce mg->mg d.name=some (.ref fa)->cU q (K w.params)/\∃fd:Cb,(∀(s:Aj) (u:Value),BindsTo s fd ⟨[u],[]⟩ [("_law_script",u)])/\∀base:Heap,(K w.params).In base->base.Ns Ce mg->FnOk l.prog w (K w.params) mg base Fd 6 fa fd ["_law_script"] (DL.spLawD (K w.params))):PySem.W.WalkO q loose XP YP l.row.toRowW d [] (λf vs=>PySem.call f vs) :=
 L2.walk_ofD (n:=63) (k:=6) (x := "_law_script") (CX:=λ_=>Fd) (sp:=λw=>DL.spLawD (K w.params)) hn (by decide) hdf ⟨rfl,by decide,by decide,rfl⟩ hY F (λ_ _ a ns hl _ hS=>⟨a,ns,rfl,hS,hl,λ_=>rfl⟩) λ_ _ _ _ _ z=>z
end K81
theorem W5:PySem.Challenge.rw_needledeck_k81_shown_and_read.wellSaid=true:=by kernel_rfl
open PySem PySem.W PyProof.Rows
local macro_rules | `(tactic| refine $h:ident (q := $q) (loose := $l) (Xt := $a) (XP := $b) (Yf := $c) (Ya := $d) (YP := $e) (N := $n) ?hl $y*) => `(tactic| refine $h:ident (q := $q) (loose := $l) (Xt := $a) (XP := $b) (Yf := $c) (Ya := $d) (YP := $e) (N := $n) (fun _ => by kernel_rfl) $y*)
set_option maxRecDepth 100000 in
set_option maxHeartbeats 0 in
theorem PySem.Challenge.cw_needledeck_k81_shown_and_read_holds : PySem.Challenge.rw_needledeck_k81_shown_and_read.Holds := by
 w_on; refine holds_law W5 λsaid=>?_; k_head; (case hw=>w_witness2)
 k_fill
 refine K81.walk (l:=PySem.Challenge.rw_needledeck_k81_shown_and_read) rfl rfl (λw h Y=>PySem.W.kIn_of Y) ?F
 case F =>
  intro w mg fa h KX G hmg
  refine' K81.all_mk KX G hmg (K81.def_mk ?a1 ?l1 ?c1 ?k1) (K81.def_mk ?a2 ?l2 ?c2 ?k2) (K81.def_mk ?a3 ?l3 ?c3 ?k3) (K81.def_mk ?a4 ?l4 ?c4 ?k4) (K81.def_mk ?a5 ?l5 ?c5 ?k5) (K81.def_mk ?a6 ?l6 ?c6 ?k6) (K81.def_mk ?a7 ?l7 ?c7 ?k7) (K81.def_mk ?a8 ?l8 ?c8 ?k8) (K81.def_mk ?a9 ?l9 ?c9 ?k9) (K81.def_mk ?a10 ?l10 ?c10 ?k10) (K81.def_mk ?a11 ?l11 ?c11 ?k11) (K81.def_mk ?a12 ?l12 ?c12 ?k12) (K81.def_mk ?a13 ?l13 ?c13 ?k13) (K81.def_mk ?a14 ?l14 ?c14 ?k14) (K81.def_mk ?a15 ?l15 ?c15 ?k15) (K81.def_mk ?a16 ?l16 ?c16 ?k16) (K81.def_mk ?a17 ?l17 ?c17 ?k17) (K81.def_mk ?a18 ?l18 ?c18 ?k18) (K81.def_mk ?a19 ?l19 ?c19 ?k19) (K81.def_mk ?a20 ?l20 ?c20 ?k20) (K81.def_mk ?a21 ?l21 ?c21 ?k21) (K81.def_mk ?a22 ?l22 ?c22 ?k22) (K81.def_mk ?a23 ?l23 ?c23 ?k23) (K81.def_mk ?a24 ?l24 ?c24 ?k24) ?aL ?lL ?cL ?kL ?z1 ?z2 ?z3 ?z4 ?z5 ?z6 ?z7 ?z8 ?z9 ?z10 ?z11 ?z12 ?tz_often ?tz_cut_by ?qc_FIGURES ?qc_MOST_FIGURES
  (case a1=>k_is); (case l1=>k_is); (case c1=>k_is); (case k1=>k_is)
  (case a2=>k_is); (case l2=>k_is); (case c2=>k_is); (case k2=>k_is)
  (case a3=>k_is); (case l3=>k_is); (case c3=>k_is); (case k3=>k_is)
  (case a4=>k_is); (case l4=>k_is); (case c4=>k_is); (case k4=>k_is)
  (case a5=>k_is); (case l5=>k_is); (case c5=>k_is); (case k5=>k_is)
  (case a6=>k_is); (case l6=>k_is); (case c6=>k_is); (case k6=>k_is)
  (case a7=>k_is); (case l7=>k_is); (case c7=>k_is); (case k7=>k_is)
  (case a8=>k_is); (case l8=>k_is); (case c8=>k_is); (case k8=>k_is)
  (case a9=>k_is); (case l9=>k_is); (case c9=>k_is); (case k9=>k_is)
  (case a10=>k_is); (case l10=>k_is); (case c10=>k_is); (case k10=>k_is)
  (case a11=>k_is); (case l11=>k_is); (case c11=>k_is); (case k11=>k_is)
  (case a12=>k_is); (case l12=>k_is); (case c12=>k_is); (case k12=>k_is)
  (case a13=>k_is); (case l13=>k_is); (case c13=>k_is); (case k13=>k_is)
  (case a14=>k_is); (case l14=>k_is); (case c14=>k_is); (case k14=>k_is)
  (case a15=>k_is); (case l15=>k_is); (case c15=>k_is); (case k15=>k_is)
  (case a16=>k_is); (case l16=>k_is); (case c16=>k_is); (case k16=>k_is)
  (case a17=>k_is); (case l17=>k_is); (case c17=>k_is); (case k17=>k_is)
  (case a18=>k_is); (case l18=>k_is); (case c18=>k_is); (case k18=>k_is)
  (case a19=>k_is); (case l19=>k_is); (case c19=>k_is); (case k19=>k_is)
  (case a20=>k_is); (case l20=>k_is); (case c20=>k_is); (case k20=>k_is)
  (case a21=>k_is); (case l21=>k_is); (case c21=>k_is); (case k21=>k_is)
  (case a22=>k_is); (case l22=>k_is); (case c22=>k_is); (case k22=>k_is)
  (case a23=>k_is); (case l23=>k_is); (case c23=>k_is); (case k23=>k_is)
  (case a24=>k_is); (case l24=>k_is); (case c24=>k_is); (case k24=>k_is)
  (case aL=>k_is); (case lL=>k_is); (case cL=>k_is); (case kL=>k_is)
  (case z1=>k_is); (case z2=>k_is); (case z3=>k_is); (case z4=>k_is); (case z5=>k_is); (case z6=>k_is); (case z7=>k_is); (case z8=>k_is); (case z9=>k_is); (case z10=>k_is); (case z11=>k_is); (case z12=>k_is)
  (case tz_often=>k_is)
  (case tz_cut_by=>k_is)
  (case qc_FIGURES=>k_is)
  (case qc_MOST_FIGURES=>k_is)