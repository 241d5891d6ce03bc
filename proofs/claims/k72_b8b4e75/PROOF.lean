import PyProof.Rows.All
import KE.KLam
import Wide.All
import OpenK.AllK
import Wide.FinOn
import Lean
import PyProof.EqAt
import PyProof.EqKinds
import PyProof.TupleCall
import PyProof.FactsAll.set
import PyProof.FactsAll.subtypes
import KE.KTupSum
import KE.KMinBuiltin
import PyProof.Draws
import PyProof.DictWalks
import PyProof.DictCompW
import PyProof.IsiH_tuple
import PyProof.FactsAll.zip
import KE.KDictOf
import PyProof.DictValues
import KE.KSortKey
import PyProof.WalkInts
import PyProof.TupleKey
import PyProof.SetRoads
import PyProof.IsRules
import PyProof.StrCalls5
import PyProof.MeetsStr3
import KE.KIntText
import PyProof.StrWalks
import PySem.Challenge.RW_needledeck_k72_what_a_box_refuses
set_option Elab.async false
set_option linter.all false
set_option maxRecDepth 100000
set_option maxHeartbeats 4000000
set_option genSizeOf false
section
open PySem PySem.W PyProof.Rows
local macro_rules|`(tactic|refine $h:ident (q:=$q) (loose:=$l) (Xt:=$a) (XP:=$b) (Yf:=$c) (Ya:=$d) (YP:=$e) (N:=$n) ?hl $y*)=>`(tactic|refine $h:ident (q:=$q) (loose:=$l) (Xt:=$a) (XP:=$b) (Yf:=$c) (Ya:=$d) (YP:=$e) (N:=$n) (λ_=>by kernel_rfl) $y*)
set_option maxHeartbeats 0
open_top topK for PySem.Challenge.rw_needledeck_k72_what_a_box_refuses
end
local macro_rules|`(tactic|omega)=>`(tactic|first|lia|omega +splitDisjunctions)
theorem e0a2{A B:Prop}{G:Prop}(k:A→B→G)(h:A∧B):G:=k h.1 h.2
theorem e0a3{A B C:Prop}{G:Prop}(k:A→B→C→G)(h:A∧B∧C):G:=k h.1 h.2.1 h.2.2
theorem e0a4{A B C D:Prop}{G:Prop}(k:A→B→C→D→G)(h:A∧B∧C∧D):G:=k h.1 h.2.1 h.2.2.1 h.2.2.2
theorem e0a5{A B C D E:Prop}{G:Prop}(k:A→B→C→D→E→G)(h:A∧B∧C∧D∧E):G:=k h.1 h.2.1 h.2.2.1 h.2.2.2.1 h.2.2.2.2
theorem e0a6{A B C D E F:Prop}{G:Prop}(k:A→B→C→D→E→F→G)(h:A∧B∧C∧D∧E∧F):G:=k h.1 h.2.1 h.2.2.1 h.2.2.2.1 h.2.2.2.2.1 h.2.2.2.2.2
theorem e1a1{a:Type}{A:a→Prop}{G:Prop}(k:∀x,A x→G)(h:∃x,A x):G:=h.elim λx h=>k x h
theorem e1a2{a:Type}{A B:a→Prop}{G:Prop}(k:∀x,A x→B x→G)(h:∃x,A x∧B x):G:=h.elim λx h=>k x h.1 h.2
theorem e1a3{a:Type}{A B C:a→Prop}{G:Prop}(k:∀x,A x→B x→C x→G)(h:∃x,A x∧B x∧C x):G:=h.elim λx h=>k x h.1 h.2.1 h.2.2
theorem e1a4{a:Type}{A B C D:a→Prop}{G:Prop}(k:∀x,A x→B x→C x→D x→G)(h:∃x,A x∧B x∧C x∧D x):G:=h.elim λx h=>k x h.1 h.2.1 h.2.2.1 h.2.2.2
theorem e2a1{b a:Type}{A:b→a→Prop}{G:Prop}(k:∀x y,A x y→G)(h:∃x y,A x y):G:=h.elim λx h=>h.elim λy h=>k x y h
theorem e2a2{b a:Type}{A B:b→a→Prop}{G:Prop}(k:∀x y,A x y→B x y→G)(h:∃x y,A x y∧B x y):G:=h.elim λx h=>h.elim λy h=>k x y h.1 h.2
theorem e2a3{b a:Type}{A B C:b→a→Prop}{G:Prop}(k:∀x y,A x y→B x y→C x y→G)(h:∃x y,A x y∧B x y∧C x y):G:=h.elim λx h=>h.elim λy h=>k x y h.1 h.2.1 h.2.2
theorem e2a4{b a:Type}{A B C D:b→a→Prop}{G:Prop}(k:∀x y,A x y→B x y→C x y→D x y→G)(h:∃x y,A x y∧B x y∧C x y∧D x y):G:=h.elim λx h=>h.elim λy h=>k x y h.1 h.2.1 h.2.2.1 h.2.2.2
theorem e3a1{c a b:Type}{A:c→a→b→Prop}{G:Prop}(k:∀x y z,A x y z→G)(h:∃x y z,A x y z):G:=h.elim λx h=>h.elim λy h=>h.elim λz h=>k x y z h
theorem e3a3{c a b:Type}{A B C:c→a→b→Prop}{G:Prop}(k:∀x y z,A x y z→B x y z→C x y z→G)(h:∃x y z,A x y z∧B x y z∧C x y z):G:=h.elim λx h=>h.elim λy h=>h.elim λz h=>k x y z h.1 h.2.1 h.2.2
theorem e3a4{c a b:Type}{A B C D:c→a→b→Prop}{G:Prop}(k:∀x y z,A x y z→B x y z→C x y z→D x y z→G)(h:∃x y z,A x y z∧B x y z∧C x y z∧D x y z):G:=h.elim λx h=>h.elim λy h=>h.elim λz h=>k x y z h.1 h.2.1 h.2.2.1 h.2.2.2
theorem e3a5{c a b:Type}{A B C D E:c→a→b→Prop}{G:Prop}(k:∀x y z,A x y z→B x y z→C x y z→D x y z→E x y z→G)(h:∃x y z,A x y z∧B x y z∧C x y z∧D x y z∧E x y z):G:=h.elim λx h=>h.elim λy h=>h.elim λz h=>k x y z h.1 h.2.1 h.2.2.1 h.2.2.2.1 h.2.2.2.2
theorem e4a1{d a c b:Type}{A:d→a→c→b→Prop}{G:Prop}(k:∀x y z w,A x y z w→G)(h:∃x y z w,A x y z w):G:=h.elim λx h=>h.elim λy h=>h.elim λz h=>h.elim λw h=>k x y z w h
theorem e4a2{d a c b:Type}{A B:d→a→c→b→Prop}{G:Prop}(k:∀x y z w,A x y z w→B x y z w→G)(h:∃x y z w,A x y z w∧B x y z w):G:=h.elim λx h=>h.elim λy h=>h.elim λz h=>h.elim λw h=>k x y z w h.1 h.2
theorem e5a2{e a d c b:Type}{A B:e→a→d→c→b→Prop}{G:Prop}(k:∀x y z w u,A x y z w u→B x y z w u→G)(h:∃x y z w u,A x y z w u∧B x y z w u):G:=h.elim λx h=>h.elim λy h=>h.elim λz h=>h.elim λw h=>h.elim λu h=>k x y z w u h.1 h.2
theorem e4a5{d a c b:Type}{A B C D E:d→a→c→b→Prop}{G:Prop}(k:∀x y z w,A x y z w→B x y z w→C x y z w→D x y z w→E x y z w→G)(h:∃x y z w,A x y z w∧B x y z w∧C x y z w∧D x y z w∧E x y z w):G:=h.elim λx h=>h.elim λy h=>h.elim λz h=>h.elim λw h=>k x y z w h.1 h.2.1 h.2.2.1 h.2.2.2.1 h.2.2.2.2
theorem e5a5{e a d c b:Type}{A B C D E:e→a→d→c→b→Prop}{G:Prop}(k:∀x y z w u,A x y z w u→B x y z w u→C x y z w u→D x y z w u→E x y z w u→G)(h:∃x y z w u,A x y z w u∧B x y z w u∧C x y z w u∧D x y z w u∧E x y z w u):G:=h.elim λx h=>h.elim λy h=>h.elim λz h=>h.elim λw h=>h.elim λu h=>k x y z w u h.1 h.2.1 h.2.2.1 h.2.2.2.1 h.2.2.2.2
theorem e6a5{e a d c b t5:Type}{A B C D E:e→a→d→c→b→t5→Prop}{G:Prop}(k:∀x y z w u v,A x y z w u v→B x y z w u v→C x y z w u v→D x y z w u v→E x y z w u v→G)(h:∃x y z w u v,A x y z w u v∧B x y z w u v∧C x y z w u v∧D x y z w u v∧E x y z w u v):G:=h.elim λx h=>h.elim λy h=>h.elim λz h=>h.elim λw h=>h.elim λu h=>h.elim λv h=>k x y z w u v h.1 h.2.1 h.2.2.1 h.2.2.2.1 h.2.2.2.2
theorem e4a7{d a c b:Type}{A B C D E F H:d→a→c→b→Prop}{G:Prop}(k:∀x y z w,A x y z w→B x y z w→C x y z w→D x y z w→E x y z w→F x y z w→H x y z w→G)(h:∃x y z w,A x y z w∧B x y z w∧C x y z w∧D x y z w∧E x y z w∧F x y z w∧H x y z w):G:=h.elim λx h=>h.elim λy h=>h.elim λz h=>h.elim λw h=>k x y z w h.1 h.2.1 h.2.2.1 h.2.2.2.1 h.2.2.2.2.1 h.2.2.2.2.2.1 h.2.2.2.2.2.2
theorem e5a7{e a d c b:Type}{A B C D E F H:e→a→d→c→b→Prop}{G:Prop}(k:∀x y z w u,A x y z w u→B x y z w u→C x y z w u→D x y z w u→E x y z w u→F x y z w u→H x y z w u→G)(h:∃x y z w u,A x y z w u∧B x y z w u∧C x y z w u∧D x y z w u∧E x y z w u∧F x y z w u∧H x y z w u):G:=h.elim λx h=>h.elim λy h=>h.elim λz h=>h.elim λw h=>h.elim λu h=>k x y z w u h.1 h.2.1 h.2.2.1 h.2.2.2.1 h.2.2.2.2.1 h.2.2.2.2.2.1 h.2.2.2.2.2.2
theorem e6a7{e a d c b t5:Type}{A B C D E F H:e→a→d→c→b→t5→Prop}{G:Prop}(k:∀x y z w u v,A x y z w u v→B x y z w u v→C x y z w u v→D x y z w u v→E x y z w u v→F x y z w u v→H x y z w u v→G)(h:∃x y z w u v,A x y z w u v∧B x y z w u v∧C x y z w u v∧D x y z w u v∧E x y z w u v∧F x y z w u v∧H x y z w u v):G:=h.elim λx h=>h.elim λy h=>h.elim λz h=>h.elim λw h=>h.elim λu h=>h.elim λv h=>k x y z w u v h.1 h.2.1 h.2.2.1 h.2.2.2.1 h.2.2.2.2.1 h.2.2.2.2.2.1 h.2.2.2.2.2.2
local macro_rules|`(tactic|obtain $p:rcasesPatMed:=$v:term)=>do
 let c s:=((p.raw.reprint.getD "").splitOn s).length
 if c ","<3||c "|">1||c ":">1 then Lean.Macro.throwUnsupported
 let T (a:Lean.Syntax):Lean.TSyntax `Lean.Parser.Tactic.rcasesPatMed:=⟨a⟩
 let q:=p.raw
 let x:=q[0][0]
 let l:=x[1].getSepArgs
 let mut a:Array (Lean.TSyntax ``Lean.Parser.Tactic.tacticSeq):=#[]
 let mut y:Array Lean.Term:=#[]
 let mut z:Array (Array (Lean.TSyntax `tactic)):=#[]
 for o in l do
  let u:=o[0][0][0]
  let f:=Lean.mkIdent (←Lean.Macro.addMacroScope (.mkSimple s!"f{y.size}"))
  if u[0].getId==`rfl then
   y:=y.push f
   z:=z.push #[←`(tactic|subst $f:term)]
  else if u[0].isIdent then
   y:=y.push ⟨u[0]⟩
   z:=z.push #[]
  else if u[1].isMissing then
   y:=y.push (←`(_))
   z:=z.push #[]
  else
   y:=y.push f
   z:=z.push #[←`(tactic|obtain $(T o[0]):rcasesPatMed:=$f)]
 for j in [0:l.size] do
  if j==1 then continue
  let n:=l.size-j
  let mut i:=y.extract 0 n
  let mut w:=(z.extract 0 n).flatten
  if j>0 then
   i:=i.push (←`(r_))
   w:=w.push (←`(tactic|obtain $(T (q.setArg 0 (q[0].setArg 0 (x.setArg 1 (Lean.mkNullNode (Lean.mkSepArray (l.extract n l.size) (Lean.mkAtom ","))))))):rcasesPatMed:=r_))
  for k in [0:i.size] do
   let m:=Lean.mkIdent (.mkSimple s!"e{k}a{i.size-k}")
   let g←if v.raw.isIdent then `(tactic|(revert $(⟨v⟩):ident;refine $m fun $i*=>?_)) else `(tactic|refine $m (fun $i*=>?_) $v)
   a:=a.push (←`(Lean.Parser.Tactic.tacticSeq| $g:tactic;$[$w];*))
  if j==0&& !v.raw.isIdent then
   a:=a.push (←`(Lean.Parser.Tactic.tacticSeq| have h_ := $v; obtain $p := h_))
   break
 a:=a.push (←`(Lean.Parser.Tactic.tacticSeq| rcases $v:term with $p))
 `(tactic|first $[| $a]*)
open Array renaming length_toList → Bg, getElem?_toList → Hi, getElem?_eq_getElem → Hs, getD_eq_getD_getElem? → Oj, getElem?_eq_none → Rw, toList_push → Zn
open Bool renaming and_eq_true → Cz, false_ne_true → Hh, false_eq_true → Jj, and_false → Vn, or_false → Xf
open Classical renaming byContradiction → Oi
open False renaming elim → Di
open ForInStep renaming yield → Ms
open Int renaming toNat_natCast → Mh
open LawfulBEq renaming eq_of_beq → aC
open List renaming mem_cons_self → Ab, mem_append_left → Ae, length_map → Af, mem_append_right → Ag, mem_cons_of_mem → Ah, mem_cons → Ai, mem_singleton → Aj, map_cons → Ap, mem_append → Ar, size_toArray → Av, getElem?_eq_some_iff → Aw, pairwise_cons → Ax, map_append → Ay, append_assoc → Az, not_mem_nil → Bc, mem_of_getElem? → Bf, length_append → Bn, append_nil → Bo, length_cons → Bp, pairwise_append → Bs, getElem?_map → Bu, sublist_append_right → Bv, lookup_cons → Bx, replicate → Cb, cons_append → Cd, range → Ci, perm_middle → Cy, nodup_cons → Da, sublist_cons_self → Dj, map_map → Dk, take_sublist → Dr, lookup → Ec, forall_mem_cons → Ed, mem_filterMap → Ee, length → Ei, perm_append_comm → Ej, pairwise_singleton → En, mem_map → Fb, map_set → Fc, take_length → Fo, nodup_nil → Fw, mem_replicate → Gc, mem_flatMap → Gd, flatten_cons → Gq, nil_append → Gs, replicate_succ → Gu, take_succ_eq_append_getElem → Hv, length_range → Hw, sublist_append_left → Ie, length_zipIdx → Jh, getElem?_set_self → Ji, mem_range → Kj, getElem?_append_right → Kk, filterMap_cons → Kx, map_take → Lf, getElem?_eq_getElem → Lg, take_append_drop → Mq, length_singleton → Mr, length_take → My, any_cons → Ng, take_succ_cons → Oh, map_nil → Ol, filter_append → Pj, mem_take_iff_getElem → Qi, mem_of_find?_eq_some → Qj, drop_eq_getElem_cons → Qk, nodup_append → Qm, getElem?_set → Qn, flatMap_cons → Qo, length_zip → Tv, find?_some → Tw, any_append → Tx, concat_eq_append → Uc, getElem?_set_ne → Vk, drop_zero → Vl, map_congr_left → Wx, flatMap_append → Wy, map_inj_right → Yr, ext_getElem? → aF, any_map → aG, all_map → aH, getElem_mem → eG, filter_cons → eH, all_eq_true → eI, getD_eq_getElem?_getD → kX, getElem?_append_left → lC, findIdx?_eq_none_iff → lD, length_erase_of_mem → oZ, eraseIdx_cons_succ → pG, take_of_length_le → sM, length_pos_of_mem → sN, filter_eq_self → yT, find?_eq_none → M6
open List.Pairwise renaming nil → Es
open List.Perm renaming swap → Dq, append_left → Jg, cons → Jq, refl → Nn
open List.Sublist renaming refl → Bm
open List.cons renaming inj → Fp
open Nat renaming le_refl → Au, le_trans → Bw, lt_of_lt_of_le → Ca, ne_of_lt → Cj, zero_le → Cw, lt_irrefl → Fm, le_of_lt → Kw, not_lt_zero → Lp, lt_succ_self → Nf, ne_of_gt → Oz, mod_lt → Tu, le_succ → Vt, succ_pos → aY, lt_trans → aZ, lt_succ_of_lt → bA, lt_succ_iff → iC
open Ne renaming symm → Lq
open Option renaming isSome_iff_exists → Qh
open Option.some renaming inj → Br
open Or renaming inl → By
open PyProof.Rows renaming slot_tuple_getitem → Eh, envOfC → Fe, callWith_type1 → Iz, IntsAre → Om, AllBare → Qp, joinParts_cons → Rt, subscriptTail_builtinR → N3
open PyProof.Rows.F renaming plain_set_update_loop → Jo, entry_set_update_loop → Rm
open PySem renaming wpAny_bind → Aa, PyData → Ad, Shared → Ak, wpAny_pure → Am, starEach → An, sizeLine → Ba, FuncData → Bj, Program → Bk, mainGlobals → Bq, SetTable → Cc, Around → Cf, backTo → Cq, foldedSetIterable → Cr, wpAny_mono → Cv, wpAny_holding → Dx, wpAny_call_entry → Ek, swapsWith → El, wpAny_newObj_type → Eo, wpAny_callSpecial?_slot → Eu, cellsFrom → Ew, keywordEach → Fd, attributeBase → Ff, assignEach → Fk, sizeLine_eq → Fn, wpAny_field → Ft, holding → Gf, standAt → Gp, codeAny → Gw, getMethod → Hr, backToKw → Hu, letOwnedTupleGo → Ih, compareOp → Ii, wpAny_truthy_bool → Ij, wpAny_loadPart_at → Ik, codeAny_mono → Il, wpAny_standAt → Iv, strLen_append → Iw, behindInMarks → Iy, wpAny_seqItems → Jm, IsPair → Jn, wpAny_setField_rec → Jw, wpAny_Call_Name_kw → Jx, rawInt → Jy, bootBuiltins → Jz, callWith → Lc, binaryOp → Lw, pyNext → Mg, wpAny_of_eq → Mp, wpAny_pyIter_list → Nb, wpAny_isInstance → Og, sliceBounds → Ow, NameKind → Pa, wpAny_passesOwn → Pl, wpAny_execs_nil → Pm, codeAny_builtin → Pn, assign → Po, wpAny_setField → Rq, wpAny_rule → Rr, wpAny_storeSet_of → Tc, wpAny_askSetting → Uj, setField → Uk, pickOrder → Ul, wpAny_call → Vo, intKind → Vp, closureFor → Vq, builtinsNs → Vr, wpAny_updateSeq_pair → Zg, pyIter → Zh, newFunctionEnv → Zi, firstArgMember → Zj, codeAny_call_builtin → Zk, IsPart → Zm, callerA → aD, PassesOwn → aE, Keyword → aI, wpAny_onRaise → dZ, wpAny_attempt → eE, wpAny_pyIter_tuple → eN, setEntries → eO, wpAny_typeOf → iB, wpAny_execs_cons → kZ, checkBuiltinCall → lA, wpAny_comprehension_free → yS, wpAny_pyNext_tuple_item → M5, wpAny_pyNext_tuple_end → N0, codeAny_compStart_list → N4, slot_list_getitem → IY
open PySem.Around renaming under_plainId → Ud, under → Ys
open PySem.Builtin.Frozenset renaming addrOf → Dz, isAnySet → Io, updateFrom → Lh, copyOf → Mt, baseOf → Vu, slot1 → Wz
open PySem.Builtin.List renaming listTooLong → Of, listLengthHint → Xe
open PySem.Builtin.Slice renaming slicePlaces → Jp, sliceAdjust → Nh, sliceApplied → Xd
open PySem.Builtin.SmallTypes renaming nextOf → Dv, ownedTupleIsFree → Fy, ownedTupleHandOut → Pk
open PySem.Builtin.Str renaming occurrences → Ge
open PySem.Builtin.Tuple renaming tupleExact → Ka, tupleItemsOf → Xb, tupleIsExact → Xc
open PySem.Calls renaming Name_function_global → iF, callWith_builtin → pH
open PySem.Heap renaming get?_push_of_some → Aq, lt_size → Bb, get?_push_size → Be, SameBut → Dd, size_push → Gz, get?_update_self → Jv, get?_none_of_le → Vm, get?_update_other → sO
open PySem.Heap.SameBut renaming update → Dg, refl → Np
open PySem.NameKind renaming cell → Dy, free → Ef
open PySem.Obj renaming mapSeq → Zl
open PySem.PassesOwn renaming never → Rn
open PySem.PyData renaming depthAll → Bl, int → Bz, depth → Cu, tuple → Jc, str → Le, bool → Ub
open PySem.SeqAt renaming EqAt → Oy
open PySem.SetTable renaming below → Ce, bits → Cs, sizeAbove → Dl, insertAt → Gh, turns → Gx, runEnd → Hk, laid → Jf, layClean → Ox, fill → Pi, insertAt_perm → kW
open PySem.SetTable.below renaming go → Td
open PySem.SetTable.layClean renaming free → Kg
open PySem.SetTable.probe renaming go → Nc
open PySem.Str renaming ofString → Kv
open PySem.Value renaming ref → Co, none → Ib, type → Kf, int → Vj, builtin → Ww
open Sum renaming inl → Tt
open True renaming intro → Ph
namespace L2
open PySem PySem.Spec PyProof.Rows
abbrev aM:=Sum Int Str
def AI:aM->Value->Bool
 | .inl k,v=>Value.isInt k v
 | .inr x,v=>Value.isStrOf x v
def LJ(w:World):aM->Int
 | .inl k=>hashInt k
 | .inr x=>hashStr w x
theorem Ho:∀{k:aM} {v:Value},AI k v=true->(∃i t,k=Tt i/\v=Vj i t)\/(∃x t,k=Sum.inr x/\v=Value.str x t)
 | .inl i,v,h=>by
  obtain ⟨t,e⟩:=Value.isInt_shape (k:=i) (v:=v) h
  exact .inl ⟨i,t,rfl,e⟩
 | .inr x,v,h=>by
  obtain ⟨t,e⟩:=Value.isStrOf_shape (x:=x) (v:=v) h
  exact .inr ⟨x,t,rfl,e⟩
theorem EJ(a b:Int):decide ((Tt a:aM)=Tt b)=(a == b):=by
 by_cases e:a=b
 ·subst e; simp
 ·have h:¬ (Tt a:aM)=Tt b:=λq=>e (Sum.inl.inj q)
  rw[decide_eq_false h]
  exact (beq_eq_false_iff_ne.mpr e).symm
theorem AW(a b:Str):decide ((Sum.inr a:aM)=Sum.inr b)=decide (a=b):=by
 by_cases e:a=b
 ·subst e; simp
 ·have h:¬ (Sum.inr a:aM)=Sum.inr b:=λq=>e (Sum.inr.inj q)
  rw[decide_eq_false h,decide_eq_false e]
theorem AV(a:Int)(b:Str):decide ((Tt a:aM)=Sum.inr b)=false:=decide_eq_false (λq=>nomatch q)
theorem FF(a:Str)(b:Int):decide ((Sum.inr a:aM)=Tt b)=false:=decide_eq_false (λq=>nomatch q)
def kE(prog:Bk)(w:World):PySem.KeyKind prog w aM where
 is:=AI
 hash:=LJ w
 inj:=λv a b f d=>by
  rcases Ho f with ⟨i,t,rfl,rfl⟩ | ⟨x,t,rfl,rfl⟩
  ·rcases Ho d with ⟨j,u,rfl,e⟩ | ⟨y,u,rfl,e⟩
   ·injection e with e1 _; rw[e1]
   ·exact nomatch e
  ·rcases Ho d with ⟨j,u,rfl,e⟩ | ⟨y,u,rfl,e⟩
   ·exact nomatch e
   ·injection e with e1 _; rw[e1]
 byValue:=λk v h=>by
  rcases Ho h with ⟨i,t,rfl,rfl⟩ | ⟨x,t,rfl,rfl⟩ <;> rfl
 pyHash:=λc h=>by
  rcases Ho c with ⟨i,t,rfl,rfl⟩ | ⟨x,t,rfl,rfl⟩
  ·exact wpAny_pyHash_int h
  ·exact wpAny_pyHash_str h
 eqBool:=λg c h=>by
  rcases Ho g with ⟨i,t,rfl,rfl⟩ | ⟨x,t,rfl,rfl⟩
  ·rcases Ho c with ⟨j,u,rfl,rfl⟩ | ⟨y,u,rfl,rfl⟩
   ·rw[EJ] at h; exact wpAny_eqBool_int h
   ·rw[AV] at h; exact SeqAt.EqAt.int_str i t y u _ _ _ _ h
  ·rcases Ho c with ⟨j,u,rfl,rfl⟩ | ⟨y,u,rfl,rfl⟩
   ·rw[FF] at h; exact SeqAt.EqAt.str_int x t j u _ _ _ _ h
   ·rw[AW] at h; exact wpAny_eqBool_str h
 «strs»:=λk x t v h=>by
  rcases Ho h with ⟨i,u,rfl,e⟩ | ⟨y,u,rfl,e⟩
  ·exact nomatch e
  ·injection e with e1 _
   subst e1
   cases v <;> rfl
inductive V where
 | non | bl (b:Bool) | int (i:Int) | str (x:Str) | byt (b:Array UInt8) | flt (b:UInt64) | ref (a:Addr) | ty (n:String)
 deriving DecidableEq
def RelV:V->Value->Prop
 | .non,u=>u=Ib
 | .bl b,u=>u=Value.bool b
 | .int i,u=>∃t,u=Vj i t
 | .str x,u=>∃t,u=Value.str x t
 | .byt b,u=>∃t,u=Value.bytes b t
 | .flt b,u=>∃t,u=Value.float b t
 | .ref a,u=>u=Co a
 | .ty n,u=>u=Kf n
abbrev Fj:List V->List Value->Prop:=Paired RelV
theorem Fj.length{xs:List V}{us:List Value}(r:Fj xs us):xs.length=us.length:=Paired.length r
theorem Fj.get:∀{xs:List V} {us:List Value} {i:Nat} {x:V},Fj xs us->xs[i]? = some x->∃u,us[i]? = some u/\RelV x u
 | _,_,_,_,.nil,e=>by simp at e
 | _,_,0,_,.cons r _,e=>by simp at e; subst e; exact ⟨_,rfl,r⟩
 | _,_,i+1,x,.cons _ t,e=>by
  obtain ⟨u,a,b⟩:=Fj.get (i:=i) (x:=x) t (by simpa using e)
  exact ⟨u,by simpa using a,b⟩
theorem Fj.set{x:V}{u:Value}(r:RelV x u):∀{xs:List V} {us:List Value} (i:Nat),Fj xs us->Fj (xs.set i x) (us.set i u)
 | _,_,_,.nil=>.nil
 | _,_,0,.cons _ t=>.cons r t
 | _,_,i+1,.cons q t=>.cons q (Fj.set r i t)
theorem Fj.append:∀{xs ys:List V} {us ws:List Value},Fj xs us->Fj ys ws->Fj (xs++ys) (us++ws)
 | _,_,_,_,.nil,s=>s
 | _,_,_,_,.cons r t,s=>.cons r (Fj.append t s)
theorem Fj.take:∀{xs:List V} {us:List Value} (n:Nat),Fj xs us->Fj (xs.take n) (us.take n)
 | _,_,0,_=>.nil
 | _,_,_+1,.nil=>.nil
 | _,_,n+1,.cons r t=>.cons r (Fj.take n t)
theorem Fj.drop:∀{xs:List V} {us:List Value} (n:Nat),Fj xs us->Fj (xs.drop n) (us.drop n)
 | _,_,0,r=>r
 | _,_,_+1,.nil=>.nil
 | _,_,n+1,.cons _ t=>Fj.drop n t
def wR:Option V->Option Value->Prop
 | some v,some u=>RelV v u
 | none,none=>True
 | _,_=>False
def KV{a:Type}:List (a×V)->List (a×Value)->Prop:=Paired λ(p:a×V) (q:a×Value)=>p.1=q.1/\RelV p.2 q.2
def kV:aM->V
 | .inl i=>.int i
 | .inr x=>.str x
inductive HO where
 /-- a list -/
 | lst (xs:List V)
 /-- a tuple (never changes) -/
 | tup (xs:List V)
 /-- a dict whose Fz are ints and texts; one whose Fz are tuples of ints and texts (the empty one is both) -/
 | dK (kvs:List (aM×V)) | dT (kvs:List (List aM×V))
 /-- a set of ints: its members,its size -/
 | set (S:Int->Bool) (n:Nat)
 /-- an instance of the class at C,its dict at dx,its attributes -/
 | ins (C dx:Addr) (fs:List (Str×V))
 /-- the dict of the instance at x -/
 | own (x:Addr)
 /-- the dict of an exception -/
 | xd (fs:List (Str×V))
 /-- a bound method,f of x -/
 | met (f x:Addr)
 /-- a range object lo,lo+1,.. below hi -/
 | rng (lo hi:Int)
 /-- a thing that is known to the object (the script; a dict while a loop walks it): read,never written while it is so -/
 | frz (o:Obj) (u:HO)
 /-- a code object's table -/
 | tbl (ps:Array Value)
 /-- any other thing,by what is true of its one object (a def of one's own: Zo a S n:=HO.ext λh=>..) -/
 | ext (φ:Heap->Prop)
abbrev Hp:=Addr->Option HO
def upd(H:Hp)(a:Addr)(o:HO):Hp:=λb=>if b=a then some o else H b
theorem Cg{H:Hp}{a:Addr}{o:HO}:upd H a o a=some o:=by unfold upd; rw[if_pos rfl]
theorem Cn{H:Hp}{a b:Addr}{o:HO}(h:b≠a):upd H a o b=H b:=by unfold upd; rw[if_neg h]
theorem Ea{H:Hp}{a b:Addr}{o:HO}(h:H a=some o)(h':H b=none):a≠b:=by
 intro e; subst e; rw[h] at h'; cases h'
section
variable(P:Bk)(w:World)
def Jt(H:Hp)(h:Heap)(a:Addr):HO->Prop
 | .lst e=>e.length<=Ba/\∃(d:List Value) (n:Nat),Fj e d/\h.get? a=some { cls:=.type "list",data:=.seq d.toArray n }
 | .tup e=>e.length<=Ba/\∃d:List Value,Fj e d/\IsTup h a d.toArray
 | .dK b=>b.length<=Ba/\(a == sysModules)=false/\∃vs,KV b vs/\h.DictOf (kE P w) a vs
 | .dT b=>b.length<=Ba/\(a == sysModules)=false/\∃e:List (List aM×Addr×Value),
   Paired (λ(p:List aM×V) (q:List aM×Addr×Value)=>p.1=q.1/\H q.2.1=some (.tup (p.1.map kV))/\RelV p.2 q.2.2) b e /\
   ∃o m z,h.get? a=some o/\o.ExactDict/\o.data=.dict m z/\m.toList=e.map (entryOfKey (tupleKind (kE P w)))/\(e.map (·.1)).Nodup/\z=m.size
 | .set S n=>h.SetOf (Vp P w) a S n
 | .ins C i fs=>H i=some (.own a)/\fs.length<=1000/\i≠a/\h.get? a=some (PySem.W.instObj C i) /\
   ∃g,h.Ns1 i g/\(∀f,wR (fs.lookup f) (g f))/\PySem.Within g (fs.map (·.1))
 | .own _=>∃o,h.get? a=some o
 | .xd fs=>∃g,h.Ns1 a g/\∀f,wR (fs.lookup f) (g f)
 | .rng lo D=>∃t u v,h.get? a=some { cls:=.type "range",data:=.fields #[.int lo t,.int D u,.int 1 v] }
 | .frz o u=>h.get? a=some o/\Jt H h a u
 | .tbl B=>∃k:Array Value,h.get? a=some { cls:=.none,data:=.fields k }/\TriplesOk k.toList/\∀(l:Pos) (v:Value),codeAmong l k.toList=some v->∃(c:Addr) (r:Obj) (A:Array Value) (q:Str) (t E:Tok),v=.ref c/\H c=some (.own a)/\h.get? c=some r/\r.data=.fields A/\A[1]? = some (.str q t)/\B[0]? = some (.str q E)
 | .met f x=>h.get? a=some (PySem.W.methodObj (.ref f) (.ref x))
 | .ext j=>j h/\(∃o,h.get? a=some o)/\∀s y:Heap,j s->(∀o,s.get? a=some o->y.get? a=some o)->j y
def Zw(H:Hp)(h:Heap):Prop:=∀a o,H a=some o->Jt P w H h a o
end
section
variable{P:Bk}{w:World}{H H':Hp}{h h':Heap}{a:Addr}{o:HO}
theorem Jt.lt(x:Jt P w H h a o):a<h.objs.size:=by
 cases o with
 | lst c=>obtain ⟨_,_,_,_,e⟩:=x; exact Bb e
 | tup c=>obtain ⟨_,_,_,p⟩:=x; exact p.lt
 | dK b=>obtain ⟨_,_,_,_,o,_,_,e,_⟩:=x; exact Bb e
 | dT b=>obtain ⟨_,_,_,_,o,_,_,e,_⟩:=x; exact Bb e
 | set S n=>obtain ⟨o,_,_,_,e,_⟩:=x; exact Bb e
 | ins C g fs=>obtain ⟨_,_,_,e,_⟩:=x; exact Bb e
 | own y=>obtain ⟨_,e⟩:=x; exact Bb e
 | xd fs=>obtain ⟨_,⟨_,_,_,e,_⟩,_⟩:=x; exact Bb e
 | rng lo k=>obtain ⟨_,_,_,e⟩:=x; exact Bb e
 | frz i u=>obtain ⟨e,_⟩:=x; exact Bb e
 | tbl d=>obtain ⟨_,e,_⟩:=x; exact Bb e
 | met f y=>exact Bb (show h.get? a=some _ from x)
 | ext j=>obtain ⟨_,⟨_,e⟩,_⟩:=x; exact Bb e
theorem Paired.mapP{c d:Type}{F G:c->d->Prop}:∀{l₁:List c} {l₂:List d},Paired F l₁ l₂->(∀a b,F a b->G a b)->Paired G l₁ l₂
 | _,_,.nil,_=>.nil
 | _,_,.cons r t,f=>.cons (f _ _ r) (Paired.mapP t f)
theorem Jt.stay(x:Jt P w H h a o)(k:∀b u,(b=a\/H b=some (.own a))->h.get? b=some u->h'.get? b=some u)(E:∀b,H b=some (.own a)->H' b=some (.own a))(N:∀b xs,H b=some (.tup xs)->H' b=some (.tup xs)):Jt P w H' h' a o:=by
 induction o with
 | lst xs=>obtain ⟨z,l,n,r,e⟩:=x; exact ⟨z,l,n,r,k _ _ (.inl rfl) e⟩
 | tup xs=>obtain ⟨z,l,r,g,e,c⟩:=x; exact ⟨z,l,r,g,k _ _ (.inl rfl) e,c⟩
 | dK m=>obtain ⟨z,y,vs,r,g,j,i,e,c⟩:=x; exact ⟨z,y,vs,r,g,j,i,k _ _ (.inl rfl) e,c⟩
 | dT m =>
  obtain ⟨z,y,xs,r,g,j,i,e,c⟩:=x
  exact ⟨z,y,xs,Paired.mapP r λp q z=>⟨z.1,N _ _ z.2.1,z.2.2⟩,g,j,i,k _ _ (.inl rfl) e,c⟩
 | set S n=>obtain ⟨g,j,i,t,e,c⟩:=x; exact ⟨g,j,i,t,k _ _ (.inl rfl) e,c⟩
 | ins C V fs =>
  obtain ⟨d,z,I,e,B,⟨s,j,i,G,c⟩,r⟩:=x
  exact ⟨E _ d,z,I,k _ _ (.inl rfl) e,B,⟨s,j,i,k _ _ (.inr d) G,c⟩,r⟩
 | own y=>obtain ⟨g,e⟩:=x; exact ⟨g,k _ _ (.inl rfl) e⟩
 | xd fs=>obtain ⟨B,⟨s,j,i,e,c⟩,r⟩:=x; exact ⟨B,⟨s,j,i,k _ _ (.inl rfl) e,c⟩,r⟩
 | rng lo X=>obtain ⟨t,u,v,e⟩:=x; exact ⟨t,u,v,k _ _ (.inl rfl) e⟩
 | frz g u O=>obtain ⟨e,q⟩:=x; exact ⟨k _ _ (.inl rfl) e,O q⟩
 | tbl U =>
  obtain ⟨M,e,t,z⟩:=x
  exact ⟨M,k _ _ (.inl rfl) e,t,λA v y=>by
   obtain ⟨c,K,Q,q,t,J,L,D,F,R⟩:=z A v y
   exact ⟨c,K,Q,q,t,J,L,E _ D,k _ _ (.inr D) F,R⟩⟩
 | met f y =>
  have e:h.get? a=some (PySem.W.methodObj (.ref f) (.ref y)):=x
  show h'.get? a=some (PySem.W.methodObj (.ref f) (.ref y))
  exact k a _ (.inl rfl) e
 | ext T=>obtain ⟨p,⟨o,e⟩,st⟩:=x; exact ⟨st _ _ p λo q=>k _ _ (.inl rfl) q,⟨o,k _ _ (.inl rfl) e⟩,st⟩
theorem Zw.lt(x:Zw P w H h)(e:H a=some o):a<h.objs.size:=(x a o e).lt
theorem Zw.fresh(x:Zw P w H h)(e:h.objs.size<=a):H a=none:=by
 cases q:H a with
 | none=>rfl
 | some u=>exact absurd (Ca (x.lt q) e) (Fm _)
theorem Zw.kept(x:Zw P w H h)(k:∀b u,h.get? b=some u->h'.get? b=some u):Zw P w H h':=λa o e =>
 (x a o e).stay (λb u _ q=>k b u q) (λ_ q=>q) λ_ _ q=>q
theorem Zw.laid(x:Zw P w H h)(k:∀b u,h.get? b=some u->h'.get? b=some u)(g:h.objs.size<=a)(new:Jt P w (upd H a o) h' a o):Zw P w (upd H a o) h':=λb u e=>by
 have d:=x.fresh g
 by_cases f:b=a
 ·subst f; rw[Cg] at e; cases e; exact new
 ·rw[Cn f] at e
  exact (x b u e).stay (λc v _ q=>k c v q) (λc q=>by rw[Cn (Ea q d)]; exact q) λc i q=>by rw[Cn (Ea q d)]; exact q
end
def Rd(H:Hp)(a:Addr)(u:HO):Prop:=H a=some u\/∃o,H a=some (.frz o u)
theorem Rd.ok{P:Bk}{w:World}{H:Hp}{h:Heap}{a:Addr}{u:HO}(r:Rd H a u)(x:Zw P w H h):Jt P w H h a u:=by
 rcases r with r | ⟨o,r⟩
 ·exact x a u r
 ·obtain ⟨_,q⟩:=x a _ r
  exact q
def JA:Option HO->Prop
 | some (.lst _)=>True
 | some (.dK _)=>True
 | some (.dT _)=>True
 | some (.set _ _)=>True
 | some (.ins _ _ _)=>True
 | some (.ext _)=>True
 | _=>False
section
variable{P:Bk}{w:World}{H:Hp}{h h':Heap}{x e:Addr}{a:HO}
theorem Zw.write(ok:Zw P w H h)(g:JA (H x))(m:e=x\/H e=some (.own x))(k:∀b u,b≠e->h.get? b=some u->h'.get? b=some u)(l:∃u,h'.get? e=some u)(new:Jt P w (upd H x a) h' x a):Zw P w (upd H x a) h':=λb u q=>by
 have f:∀c y,H c=some (.own y)->c≠x:=λc y r z=>by subst z; rw[r] at g; exact g
 have iR:∀c i,H c=some (.tup i)->c≠x:=λc i r z=>by subst z; rw[r] at g; exact g
 by_cases j:b=x
 ·subst j; rw[Cg] at q; cases q; exact new
 ·rw[Cn j] at q
  by_cases d:b=e
  ·have n:H b=some (.own x):=by
    rcases m with z | z
    ·exact absurd (d.trans z) j
    ·rw[d]; exact z
   rw[q] at n; cases n
   obtain ⟨v,o⟩:=l
   exact ⟨v,by rw[d]; exact o⟩
  ·refine (ok b u q).stay (λc v hc r=>k c v ?_ r) (λc r=>by rw[Cn (f c b r)]; exact r) λc i r=>by rw[Cn (iR c i r)]; exact r
   rcases hc with rfl | hc
   ·exact d
   ·rintro rfl
    rcases m with z | z
    ·exact f c b hc z
    ·rw[hc] at z; cases z; exact j rfl
end
structure Un(fs ex:List Addr)(H H':Hp)(h h':Heap):Prop where
 keep:∀b o,h.get? b=some o->H b=none->b∉fs->b∉ex->h'.get? b=some o
 slot:∀b o,h.get? b=some o->H b=none->b∈fs->b∉ex->∃sl,h'.get? b=some { o with slots:=sl }
 free:∀b o,h.get? b=some o->H b=none->b∉ex->H' b=none
 there:∀b o,h.get? b=some o->b∉ex->∃o',h'.get? b=some o'
 tups:∀b xs,H b=some (.tup xs)->H' b=some (.tup xs)
 frzs:∀b o u,H b=some (.frz o u)->H' b=some (.frz o u)
 tbls:∀b ps,H b=some (.tbl ps)->∃more,H' b=some (.tbl (ps++more))
section
variable{fs g ex d:List Addr}{H f i:Hp}{h c j h':Heap}{a x e:Addr}{o:HO}
theorem Un.any(u:Un fs ex H f h c){b:Addr}{a:Obj}(q:h.get? b=some a)(n:H b=none)(e:b∉ex):∃g,c.get? b=some { a with slots:=g }:=by
 by_cases d:b∈fs
 ·exact u.slot b a q n d e
 ·exact ⟨a.slots,u.keep b a q n d e⟩
theorem Un.kept(k:∀b u,h.get? b=some u->h'.get? b=some u):Un fs ex H H h h' :=
 ⟨λb a q _ _ _=>k b a q,λb a q _ _ _=>⟨a.slots,k b a q⟩,λ_ _ _ n _=>n,λb a q _=>⟨a,k b a q⟩,λ_ _ q=>q,λ_ _ _ q=>q,λ_ c q=>⟨#[],by rw[q]; simp⟩⟩
theorem Un.refl:Un fs ex H H h h:=Un.kept λ_ _ q=>q
theorem Un.laid(k:∀b u,h.get? b=some u->h'.get? b=some u)(e:h.objs.size<=a)(c:H a=none):Un fs ex H (upd H a o) h h' where
 keep:=λb u q _ _ _=>k b u q
 slot:=λb u q _ _ _=>⟨u.slots,k b u q⟩
 free:=λb u q n _=>by rw[Cn (Cj (Ca (Bb q) e))]; exact n
 there:=λb u q _=>⟨u,k b u q⟩
 tups:=λb d q=>by rw[Cn (Ea q c)]; exact q
 frzs:=λb u d q=>by rw[Cn (Ea q c)]; exact q
 tbls:=λb f q=>⟨#[],by rw[Cn (Ea q c),q]; simp⟩
theorem Un.write(c:JA (H x))(j:e=x\/H e=some (.own x))(k:∀b u,b≠e->h.get? b=some u->h'.get? b=some u)(f:∃u,h'.get? e=some u):Un fs ex H (upd H x o) h h':=by
 have i:∀b,H b=none->b≠x:=λb n z=>by subst z; rw[n] at c; exact c
 have g:∀b,H b=none->b≠e:=λb n z=>by
  subst z
  rcases j with r | r
  ·exact i b n r
  ·rw[n] at r; cases r
 have d:∀b u,H b=some u->¬ JA (some u)->b≠x:=λb u q m z=>by subst z; rw[q] at c; exact m c
 refine ⟨λb u q n _ _=>k b u (g b n) q,λb u q n _ _=>⟨u.slots,k b u (g b n) q⟩,λb u q n _=>by rw[Cn (i b n)]; exact n,λb u q _=>?_,
  λb l q=>by rw[Cn (d b _ q λz=>z)]; exact q,λb u l q=>by rw[Cn (d b _ q λz=>z)]; exact q,λb p q=>⟨#[],by rw[Cn (d b _ q λz=>z),q]; simp⟩⟩
 by_cases a:b=e
 ·subst a; exact f
 ·exact ⟨u,k b u a q⟩
end
def JQ(h:Heap)(H:Hp):List Addr:=(Ci h.objs.size).filter λa=>(H a).isSome
def fB(h:Heap)(H:Hp):Heap:=PySem.W.hideAll h (JQ h H)
theorem wG(h:Heap)(H:Hp):(fB h H).objs.size=h.objs.size:=PySem.W.hideAll_size _ _
theorem n8{h:Heap}{H:Hp}{b:Addr}{o:Obj}(e:h.get? b=some o)(n:H b=none):(fB h H).get? b=some o :=
 PySem.W.hideAll_get _ e λa=>by
  have q:(H b).isSome=true:=(List.mem_filter.mp a).2
  rw[n] at q; simp at q
theorem R1{h:Heap}{H:Hp}{b:Addr}{o:Obj}(e:(fB h H).get? b=some o):h.get? b=some o/\H b=none:=by
 have a:h.get? b=some o:=PySem.W.of_hideAll (JQ h H) e
 refine ⟨a,?_⟩
 cases q:H b with
 | none=>rfl
 | some x =>
  have c:b∈JQ h H:=List.mem_filter.mpr ⟨Kj.mpr (Bb a),by simp [q]⟩
  have z:(fB h H).get? b=none:=PySem.W.hideAll_none (JQ h H) c
  rw[z] at e; cases e
def Q3(g h:Heap)(L:Addr):List (Addr×Obj):=(Ci h.objs.size).filterMap λa=>if a=L\/(g.get? a).isSome=true then none else (h.get? a).map λo=>(a,o)
def Mi(g h:Heap)(L d:Addr):List (Addr×Obj):=(Q3 g h L).filter λp=>decide (p.1≠d)
structure Mod(K:PySem.W.Frag)(mg:Str->Option Value)(base:Heap):Prop where
 kin:K.In base
 glob:base.Ns Bq mg
 blt:∃mb,base.Ns Vr mb/\∀x:Str,x ≠ "__name__" -> mb x=Jz x
 nolimit:base.NoLimit
def Wv:List Str:=["often", "cut_by"]
def CL(x:Str):Str:=x ++ ".<locals>." ++ "<lambda>"
def AN(H:Hp)(P:Addr)(q:Str):Prop:=∃(a:Array Value) (b:Tok),H P=some (.tbl a)/\a[0]? = some (.str q b)
def G3(K:PySem.W.Frag)(mg:Str->Option Value)(base:Heap)(H:Hp):Prop:=∀x∈Wv,∀c P,PySem.W.tabIn K x=some (c,P)->PySem.W.CodeHd base c P/\base.BuiltinsAt mg P/\AN H P (CL x)
theorem G3.un{K:PySem.W.Frag}{mg:Str->Option Value}{base:Heap}{fs ex:List Addr}{H H':Hp}{h h':Heap}(t:G3 K mg base H)(u:Un fs ex H H' h h'):G3 K mg base H':=λx j c P e=>by
 obtain ⟨d,i,a,l,k,b⟩:=t x j c P e
 obtain ⟨more,g⟩:=u.tbls P a k
 refine ⟨d,i,a++more,l,g,?_⟩
 have f:0<a.size:=by
  rcases Nat.eq_zero_or_pos a.size with z | z
  ·rw[Rw (by omega)] at b; cases b
  ·exact z
 rw[Array.getElem?_append_left f]
 exact b
structure Cx where
 prog:Bk
 w:World
 K:PySem.W.Frag
 mg:Str->Option Value
 base:Heap
 A:Cf
 N:List Str
 s₀:Ak
 H₀:Hp
 env:Env
 outer:List Env
 stack:List Env
 ex:List Addr
 fn:Str->Bool
 calm:Bool
 pn:List (Addr×Obj)
 xe:Value->Ak->Prop
def Ws(l:List Env):List Addr:=l.filterMap (·.frame)
abbrev Cx.fs(X:Cx):List Addr:=Ws X.outer
def JI(a:Scope)(x:Str):Prop:=a.names.lookup x=some .local\/a.names.lookup x=some .cell\/a.names.lookup x=some .free
def Loc(a:Scope)(x:Str):Prop:=a.names.lookup x=some .local\/a.names.lookup x=some .cell
def KY(env:Env)(h:Heap)(m:Str->Option Value)(x:Str)(u:Value):Prop :=
 (env.kindOf x=some .local/\m x=some u)\/((env.kindOf x=some .cell\/env.kindOf x=some .free)/\∃c,env.cells.lookup x=some c/\h.IsCell c (some u))
structure Cx.Ok(X:Cx):Prop where
 mod:Mod X.K X.mg X.base
 kind:X.env.scope.kind=.function
 glob:X.env.globals=Bq
 blt:X.env.builtins=Vr
 above:X.s₀.heap.objs.size<=X.env.locals
 inj:∀x y c,X.env.cells.lookup x=some c->X.env.cells.lookup y=some c->x=y
 has:∀x,(X.env.kindOf x=some .cell\/X.env.kindOf x=some .free)->∃c,X.env.cells.lookup x=some c
 cab:∀x c,X.fn x=true->X.env.cells.lookup x=some c->X.s₀.heap.objs.size<=c
 hd:X.calm=true->X.A.handled=none
 frames:X.A.frames=some X.stack
 stk:X.stack=X.outer\/(X.stack=X.env::X.outer/\X.env.frame=some X.env.locals)
 exf:∀b∈X.ex,b≠X.env.locals/\∀x c,X.env.cells.lookup x=some c->c≠b
 bs:∀b o,X.base.get? b=some o->X.s₀.heap.get? b=some o/\X.H₀ b=none
 bsz:X.base.objs.size<=X.s₀.heap.objs.size
 noex:∀b o,X.base.get? b=some o->b∉X.ex
 exfs:∀b∈X.ex,b∉X.fs
 funs:X.s₀.heap.FunFrames X.base X.outer
 frf:∀b∈X.fs,X.H₀ b=none
 tab:G3 X.K X.mg X.base X.H₀
structure Inv(X:Cx)(pins:List (Addr×Obj))(σ:List (Option V))(H:Hp)(s:Ak):Prop where
 ok:X.Ok
 os:s.os=X.s₀.os
 bare:Qp s.gens
 base:Un X.fs X.ex X.H₀ H X.s₀.heap s.heap
 loc:∃m,s.heap.Ns X.env.locals m/\∀(i:Nat) (x:Str) (v:V),X.N[i]? = some x->σ[i]? = some (some v)->JI X.env.scope x->∃u,RelV v u/\KY X.env s.heap m x u
 cell:∀x c,X.env.cells.lookup x=some c->∃v,s.heap.IsCell c v
 free:H X.env.locals=none
 freeC:∀x c,X.env.cells.lookup x=some c->H c=none
 pin:∀p∈X.pn++pins,s.heap.get? p.1=some p.2/\H p.1=none/\p.1≠X.env.locals/\p.1∉X.fs/\∀v,p.2.data≠.cell v
 hok:Zw X.prog X.w H s.heap
 len:σ.length=X.N.length
section
variable{X:Cx}{f:List (Addr×Obj)}{g:List (Option V)}{H H':Hp}{s:Ak}{h':Heap}
theorem Cx.Ok.nofr(ok:X.Ok){b:Addr}{o:Obj}(e:X.base.get? b=some o):b∉X.fs:=λa=>by
 have:=(ok.funs.mem a).1
 rw[e] at this; cases this
theorem Inv.bs(I:Inv X f g H s):∀b o,X.base.get? b=some o->s.heap.get? b=some o/\H b=none:=λb o e =>
 ⟨I.base.keep b o (I.ok.bs b o e).1 (I.ok.bs b o e).2 (I.ok.nofr e) (I.ok.noex b o e),I.base.free b o (I.ok.bs b o e).1 (I.ok.bs b o e).2 (I.ok.noex b o e)⟩
theorem Inv.bk(I:Inv X f g H s):∀b o,X.base.get? b=some o->s.heap.get? b=some o:=λb o e=>(I.bs b o e).1
theorem Inv.mod(I:Inv X f g H s):Mod X.K X.mg X.base:=I.ok.mod
theorem Inv.kIn(I:Inv X f g H s):X.K.In s.heap:=I.ok.mod.kin.keeps I.bk
theorem Inv.lt(I:Inv X f g H s):X.env.locals<s.heap.objs.size:=let ⟨_,hn,_⟩:=I.loc; hn.lt
theorem Inv.sz(I:Inv X f g H s):X.s₀.heap.objs.size<=s.heap.objs.size:=Bw I.ok.above (Kw I.lt)
theorem Inv.nofs(I:Inv X f g H s){a:Addr}(h:s.heap.objs.size<=a):a∉X.fs:=λb=>by
 obtain ⟨_,o,c,_⟩:=I.ok.funs.mem b
 exact absurd (Ca (Bb c) (Bw I.sz h)) (Fm _)
theorem Inv.cne(I:Inv X f g H s):∀x c,X.env.cells.lookup x=some c->c≠X.env.locals:=λx c e z=>by
 obtain ⟨v,o,h,d⟩:=I.cell x c e
 obtain ⟨m,⟨i,k,j,b,a,_⟩,_⟩:=I.loc
 rw[z,b] at h; cases h; rw[a] at d; cases d
theorem Inv.funs(I:Inv X f g H s):s.heap.FunFrames X.base X.outer:=by
 have all:∀(l:List Env),(∀b∈Ws l,b∈X.fs)->X.s₀.heap.FunFrames X.base l->s.heap.FunFrames X.base l:=by
  intro l
  induction l with
  | nil=>intro _ _; trivial
  | cons k r q =>
   intro h i
   obtain ⟨p,⟨L,o,a,n,t,j⟩,m⟩:=i
   have d:L∈X.fs:=h L (by unfold Ws; rw[Kx,a]; exact Ab)
   obtain ⟨u,e⟩:=I.base.slot L o t (I.ok.frf L d) d λz=>I.ok.exfs L z d
   exact ⟨p,⟨L,_,a,n,e,j⟩,q (λb c=>h b (by unfold Ws; rw[Kx,a]; exact Ah _ c)) m⟩
 exact all X.outer (λ_ c=>c) I.ok.funs
theorem Inv.stack(I:Inv X f g H s):s.heap.FunFrames X.base X.stack:=by
 rcases I.ok.stk with e | ⟨e,a⟩
 ·rw[e]; exact I.funs
 ·rw[e]
  obtain ⟨m,b,_⟩:=I.loc
  refine .cons (by rw[I.ok.kind]; decide) a b ?_ I.funs
  exact Vm (Bw I.ok.bsz I.ok.above)
theorem Inv.stkSub(I:Inv X f g H s):∀b∈Ws X.stack,b∈X.env.locals::X.fs:=λb a=>by
 rcases I.ok.stk with e | ⟨e,c⟩
 ·rw[e] at a; exact Ah _ a
 ·rw[e] at a
  unfold Ws at a
  rw[Kx,c] at a
  exact a
theorem Inv.stkFree(I:Inv X f g H s):∀b∈Ws X.stack,H b=none:=λb hb=>by
 rcases Ai.mp (I.stkSub b hb) with e | hb
 ·rw[e]; exact I.free
 ·obtain ⟨_,o,a,_⟩:=I.ok.funs.mem hb
  exact I.base.free b o a (I.ok.frf b hb) λz=>I.ok.exfs b z hb
theorem Inv.step{g':Array GenState}{t':Nat}{d':Drawn}{ch:List Addr}(I:Inv X f g H s)(t:∀b∈ch,(b∈X.ex\/X.s₀.heap.objs.size<=b)/\b≠X.env.locals/\(∀x c,X.env.cells.lookup x=some c->c≠b)/\∀p∈X.pn++f,p.1≠b)(keep:∀b o,b≠X.env.locals->b∉X.fs->b∉ch->s.heap.get? b=some o->H b=none->h'.get? b=some o)(slot:∀b o,b≠X.env.locals->b∈X.fs->b∉ch->s.heap.get? b=some o->H b=none->∃L,h'.get? b=some { o with slots:=L })(free:∀b o,b∉ch->s.heap.get? b=some o->H b=none->H' b=none)(there:∀b o,b∉ch->s.heap.get? b=some o->∃E,h'.get? b=some E)(tups:∀b xs,H b=some (.tup xs)->H' b=some (.tup xs))(frzs:∀b o u,H b=some (.frz o u)->H' b=some (.frz o u))(tbls:∀b ps,H b=some (.tbl ps)->∃more,H' b=some (.tbl (ps++more)))(ns:∀m,s.heap.Ns X.env.locals m->h'.Ns X.env.locals m)(G:Zw X.prog X.w H' h')(R:Qp g'):Inv X f g H' { s with heap:=h',gens:=g',drawn:=d',toks:=t' }:=by
 have F:∀b o,X.s₀.heap.get? b=some o->b≠X.env.locals:=λb o e=>Cj (Ca (Bb e) I.ok.above)
 have A:∀b o,X.s₀.heap.get? b=some o->b∉X.ex->b∉ch:=λb o e a B=>by
  rcases (t b B).1 with z | z
  ·exact a z
  ·exact absurd (Ca (Bb e) z) (Fm _)
 have h:∀x c,X.env.cells.lookup x=some c->∀v,s.heap.IsCell c v->h'.IsCell c v:=λx c e v ⟨o,C,J⟩=>by
  have j:c∉ch:=λz=>(t c z).2.2.1 x c e rfl
  by_cases M:c∈X.fs
  ·obtain ⟨L,q⟩:=slot c o (I.cne x c e) M j C (I.freeC x c e)
   exact ⟨_,q,J⟩
  ·exact ⟨o,keep c o (I.cne x c e) M j C (I.freeC x c e),J⟩
 refine ⟨I.ok,I.os,R,⟨λb o e n B a=>?_,λb o e n B a=>?_,λb o e n a=>?_,λb o e a=>?_,λb xs e=>tups b xs (I.base.tups b xs e),λb o xs e=>frzs b o xs (I.base.frzs b o xs e),λb ps e=>?_⟩,?_,λx c e=>?_,?_,λx c e=>?_,λp P=>?_,G,I.len⟩
 ·exact keep b o (F b o e) B (A b o e a) (I.base.keep b o e n B a) (I.base.free b o e n a)
 ·obtain ⟨L,y⟩:=I.base.slot b o e n B a
  obtain ⟨K,D⟩:=slot b _ (F b o e) B (A b o e a) y (I.base.free b o e n a)
  exact ⟨K,D⟩
 ·obtain ⟨E,y⟩:=I.base.there b o e a
  exact free b E (A b o e a) y (I.base.free b o e n a)
 ·obtain ⟨E,y⟩:=I.base.there b o e a
  exact there b E (A b o e a) y
 ·obtain ⟨S,y⟩:=I.base.tbls b ps e
  obtain ⟨U,D⟩:=tbls b _ y
  exact ⟨S++U,by rw[D,Array.append_assoc]⟩
 ·obtain ⟨m,V,T⟩:=I.loc
  refine ⟨m,ns m V,λi x v y D Q=>?_⟩
  obtain ⟨u,r,l⟩:=T i x v y D Q
  refine ⟨u,r,?_⟩
  rcases l with l | ⟨k,c,e,z⟩
  ·exact .inl l
  ·exact .inr ⟨k,c,e,h x c e _ z⟩
 ·obtain ⟨v,z⟩:=I.cell x c e
  exact ⟨v,h x c e v z⟩
 ·obtain ⟨m,⟨o,_,_,C,_⟩,_⟩:=I.loc
  exact free _ o (λz=>(t _ z).2.1 rfl) C I.free
 ·obtain ⟨v,o,C,J⟩:=I.cell x c e
  exact free c o (λz=>(t c z).2.2.1 x c e rfl) C (I.freeC x c e)
 ·obtain ⟨e,n,N,O,d⟩:=I.pin p P
  have j:p.1∉ch:=λz=>(t p.1 z).2.2.2 p P rfl
  exact ⟨keep p.1 p.2 N O j e n,free p.1 p.2 j e n,N,O,d⟩
theorem Inv.un{t':Nat}(I:Inv X f g H s)(u:Un X.fs [] H H' s.heap h')(d:Zw X.prog X.w H' h'):Inv X f g H' { s with heap:=h',toks:=t' }:=by
 obtain ⟨m,⟨o,x,v,j,r⟩,_⟩:=id I.loc
 obtain ⟨y,p⟩:=u.any j I.free (by simp)
 exact I.step (g':=s.gens) (d':=s.drawn) (ch:=[]) (λ_ z=>nomatch z) (λb o _ c _ e n=>u.keep b o e n c (by simp)) (λb o _ c _ e n=>u.slot b o e n c (by simp)) (λb o _ e n=>u.free b o e n (by simp)) (λb o _ e=>u.there b o e (by simp)) u.tups u.frzs u.tbls (λt k=>by
  obtain ⟨q,i,h,a,l⟩:=k
  rw[j] at a; cases a
  exact ⟨_,i,h,p,l⟩) d I.bare
theorem Inv.call{g':Array GenState}{t':Nat}{d':Drawn}{ch:List Addr}(I:Inv X f g H s)(u:Un (Ws X.stack) ch H H' s.heap h')(i:Zw X.prog X.w H' h')(A:Qp g')(h:∀b∈ch,(b∈X.ex\/X.s₀.heap.objs.size<=b)/\b≠X.env.locals/\(∀x c,X.env.cells.lookup x=some c->c≠b)/\∀p∈X.pn++f,p.1≠b):Inv X f g H' { s with heap:=h',gens:=g',drawn:=d',toks:=t' }:=by
 obtain ⟨m,⟨o,E,D,q,r⟩,_⟩:=id I.loc
 obtain ⟨F,j⟩:=u.any q I.free λz=>(h _ z).2.1 rfl
 exact I.step (ch:=ch) h (λb o j t a e n=>u.keep b o e n (λz=>(Ai.mp (I.stkSub b z)).elim j t) a) (λb o _ _ a e n=>u.any e n a) (λb o a e n=>u.free b o e n a) (λb o a e=>u.there b o e a) u.tups u.frzs u.tbls (λC v=>by
  obtain ⟨B,l,k,d,y⟩:=v
  rw[q] at d; cases d
  exact ⟨_,l,k,j,y⟩) i A
theorem Inv.turned{t':Nat}{it:Addr}(I:Inv X f g H s)(k:∀b o,b≠it->s.heap.get? b=some o->h'.get? b=some o)(w:H it=none)(h:it≠X.env.locals)(i:it∈X.ex\/X.s₀.heap.objs.size<=it)(t:∀x c,X.env.cells.lookup x=some c->c≠it)(B:∀p∈X.pn++f,p.1≠it):Inv X f g H { s with heap:=h',toks:=t' }:=by
 have d:∀b u,H b=some u->b≠it:=λb u e z=>by rw[z,w] at e; cases e
 refine I.step (g':=s.gens) (d':=s.drawn) (ch:=[it]) (λb j=>?_) (λb o _ _ a e _=>k b o (λz=>a (by simp [z])) e) (λb o _ _ a e _=>⟨o.slots,k b o (λz=>a (by simp [z])) e⟩) (λ_ _ _ _ n=>n)
  (λb o a e=>⟨o,k b o (λz=>a (by simp [z])) e⟩) (λ_ _ e=>e) (λ_ _ _ e=>e) (λb D e=>⟨#[],by rw[e]; simp⟩) (λm l=>?_) (λb u e=>?_) I.bare
 ·have e:b=it:=by simpa using j
  subst e
  exact ⟨i,h,t,B⟩
 ·obtain ⟨o,C,A,y,r⟩:=l
  exact ⟨o,C,A,k _ o (Lq h) y,r⟩
 ·refine (I.hok b u e).stay (λc v a q=>k c v ?_ q) (λ_ q=>q) λ_ _ q=>q
  rcases a with z | z
  ·rw[z]; exact d b u e
  ·exact d c _ z
theorem Inv.tok(I:Inv X f g H s)(t:Nat):Inv X f g H { s with toks:=t }:=I.un (h':=s.heap) (t':=t) Un.refl I.hok
theorem Inv.kept{t':Nat}(I:Inv X f g H s)(k:∀b u,s.heap.get? b=some u->h'.get? b=some u):Inv X f g H { s with heap:=h',toks:=t' }:=I.un (Un.kept k) (I.hok.kept k)
theorem Inv.laid{a:Addr}{o:HO}{t':Nat}(I:Inv X f g H s)(k:∀b u,s.heap.get? b=some u->h'.get? b=some u)(c:s.heap.objs.size<=a)(new:Jt X.prog X.w (upd H a o) h' a o):Inv X f g (upd H a o) { s with heap:=h',toks:=t' }:=I.un (Un.laid k c (I.hok.fresh c)) (I.hok.laid k c new)
theorem Inv.write{x e:Addr}{o:HO}{t':Nat}(I:Inv X f g H s)(c:JA (H x))(d:e=x\/H e=some (.own x))(k:∀b u,b≠e->s.heap.get? b=some u->h'.get? b=some u)(a:∃u,h'.get? e=some u)(new:Jt X.prog X.w (upd H x o) h' x o):Inv X f g (upd H x o) { s with heap:=h',toks:=t' }:=I.un (Un.write c d k a) (I.hok.write c d k a new)
theorem Inv.pins_of{a:List (Addr×Obj)}(I:Inv X f g H s)(h:∀p∈a,s.heap.get? p.1=some p.2/\H p.1=none/\p.1≠X.env.locals/\p.1∉X.fs/\∀v,p.2.data≠.cell v):Inv X a g H s :=
 ⟨I.ok,I.os,I.bare,I.base,I.loc,I.cell,I.free,I.freeC,λp b=>(Ar.mp b).elim (λz=>I.pin p (Ae _ z)) (h p),I.hok,I.len⟩
theorem cK{N:List Str}(d:N.Nodup){i j:Nat}{x:Str}(a:N[i]? = some x)(b:N[j]? = some x):i=j:=by
 obtain ⟨f,e⟩:=Aw.mp a
 obtain ⟨g,c⟩:=Aw.mp b
 exact (List.getElem_inj d).mp (e.trans c.symm)
theorem yA{M:Model}{A:Cf}{E:Value->Ak->Prop}{i:Nat}{x:Str}{v:V}{u:Value}{Q:Unit->Ak->Prop}(I:Inv X f g H s)(hN:X.N.Nodup)(T:X.N[i]? = some x)(C:Loc X.env.scope x)(r:RelV v u)(h:∀s',Inv X f (g.set i (some v)) H s'->(∃a,Dd a s.heap s'.heap/\(a=X.env.locals\/X.env.cells.lookup x=some a))->Q () s')(hf:X.fn x=true\/X.env.scope.names.lookup x=some .local:=by first | exact .inl rfl | exact .inr rfl | assumption):wpAny M A (storeName X.env x u) Q E s:=by
 obtain ⟨m,hn,hl⟩:=id I.loc
 have U:(X.env.scope.kind == .class || (X.env.scope.kind == .module && X.env.locals != X.env.globals))=false:=by rw[I.ok.kind]; rfl
 have G:i<g.length:=by rw[I.len]; exact (Aw.mp T).1
 have cne:=I.cne
 have B:∀{a:Addr} {h':Heap},(∃o,s.heap.get? a=some o/\H a=none)->Dd a s.heap h'->Zw X.prog X.w H h':=λ{a h'} ha l b ob e=>by
  obtain ⟨_,_,D⟩:=ha
  refine (I.hok b ob e).stay (λc W hc q=>(l.2 c ?_).trans q) (λ_ q=>q) λ_ _ q=>q
  rintro rfl
  rcases hc with rfl | hc
  ·rw[D] at e; cases e
  ·rw[D] at hc; cases hc
 rcases C with hk | hk
 ·refine wpAny_storeName_local hk hn (λh' h0 l=>?_) U
  obtain ⟨oL,_,_,h1,_⟩:=id hn
  refine h _ ⟨I.ok,I.os,I.bare,⟨λb o e n K C=>?_,λb o e n K C=>?_,I.base.free,λb o e C=>?_,I.base.tups,I.base.frzs,I.base.tbls⟩,⟨_,h0,λj y v' t F e3=>?_⟩,λy c e=>?_,I.free,I.freeC,λp hp=>?_,B ⟨oL,h1,I.free⟩ l,by simpa using I.len⟩ ⟨_,l,.inl rfl⟩
  ·exact (l.2 b (Cj (Ca (Bb e) I.ok.above))).trans (I.base.keep b o e n K C)
  ·obtain ⟨sl,t⟩:=I.base.slot b o e n K C
   exact ⟨sl,(l.2 b (Cj (Ca (Bb e) I.ok.above))).trans t⟩
  ·obtain ⟨o',t⟩:=I.base.there b o e C
   exact ⟨o',(l.2 b (Cj (Ca (Bb e) I.ok.above))).trans t⟩
  ·by_cases J:j=i
   ·subst J
    rw[T] at t; cases t
    rw[Ji G] at F
    cases F
    exact ⟨u,r,.inl ⟨hk,by simp⟩⟩
   ·rw[Vk (Lq J)] at F
    obtain ⟨u',r',q⟩:=hl j y v' t F e3
    refine ⟨u',r',?_⟩
    rcases q with ⟨k,e⟩ | ⟨k,c,e,z⟩
    ·refine .inl ⟨k,?_⟩
     have : y≠x:=λe=>J (cK hN t (e▸T))
     simp [this,e]
    ·exact .inr ⟨k,c,e,z.sameBut l (cne y c e)⟩
  ·obtain ⟨W,z⟩:=I.cell y c e
   exact ⟨W,z.sameBut l (cne y c e)⟩
  ·obtain ⟨e,n,Y,nf,d⟩:=I.pin p hp
   exact ⟨(l.2 p.1 Y).trans e,n,Y,nf,d⟩
 ·have L:X.fn x=true:=by
   rcases hf with z | z
   ·exact z
   ·rw[z] at hk; cases hk
  obtain ⟨c,hc⟩:=I.ok.has x (.inl hk)
  obtain ⟨W,z⟩:=I.cell x c hc
  refine wpAny_storeName_cell I.ok.kind hk hc z (λh' R l=>?_)
  obtain ⟨oc,S,O⟩:=id z
  refine h { s with heap:=h' } ⟨I.ok,I.os,I.bare,⟨λb o e n K C=>?_,λb o e n K C=>?_,I.base.free,λb o e C=>?_,I.base.tups,I.base.frzs,I.base.tbls⟩,⟨m,hn.sameBut l (Lq (cne x c hc)),λj y v' t F e3=>?_⟩,λy Z e=>?_,I.free,I.freeC,λp hp=>?_,B ⟨oc,S,I.freeC x c hc⟩ l,by simpa using I.len⟩ ⟨c,l,.inr hc⟩
  ·exact (l.2 b (Cj (Ca (Bb e) (I.ok.cab x c L hc)))).trans (I.base.keep b o e n K C)
  ·obtain ⟨sl,t⟩:=I.base.slot b o e n K C
   exact ⟨sl,(l.2 b (Cj (Ca (Bb e) (I.ok.cab x c L hc)))).trans t⟩
  ·obtain ⟨o',t⟩:=I.base.there b o e C
   exact ⟨o',(l.2 b (Cj (Ca (Bb e) (I.ok.cab x c L hc)))).trans t⟩
  ·by_cases J:j=i
   ·subst J
    rw[T] at t; cases t
    rw[Ji G] at F
    cases F
    exact ⟨u,r,.inr ⟨.inl hk,c,hc,R⟩⟩
   ·rw[Vk (Lq J)] at F
    obtain ⟨u',r',q⟩:=hl j y v' t F e3
    refine ⟨u',r',?_⟩
    rcases q with q | ⟨k,Z,e,z'⟩
    ·exact .inl q
    ·refine .inr ⟨k,Z,e,z'.sameBut l ?_⟩
     rintro rfl
     exact J (cK hN t (I.ok.inj _ _ _ e hc▸T))
  ·by_cases P:Z=c
   ·subst P; exact ⟨_,R⟩
   ·obtain ⟨w2,z2⟩:=I.cell y Z e
    exact ⟨w2,z2.sameBut l P⟩
  ·obtain ⟨e,n,Y,nf,d⟩:=I.pin p hp
   refine ⟨(l.2 p.1 ?_).trans e,n,Y,nf,d⟩
   intro q
   rw[q,S] at e
   have q':oc=p.2:=Br e
   exact d W (by rw[<- q']; exact O)
theorem Vy{M:Model}{A:Cf}{E:Value->Ak->Prop}{i:Nat}{x:Str}{v:V}{u:Value}{Q:Unit->Ak->Prop}(I:Inv X f g H s)(c:X.N.Nodup)(e:X.N[i]? = some x)(d:Loc X.env.scope x)(r:RelV v u)(h:∀s',Inv X f (g.set i (some v)) H s'->Q () s')(a:X.fn x=true\/X.env.scope.names.lookup x=some .local:=by first | exact .inl rfl | exact .inr rfl | assumption):wpAny M A (storeName X.env x u) Q E s :=
 yA I c e d r (λs' b _=>h s' b) a
theorem Inv.call'{s':Ak}{ch:List Addr}(I:Inv X f g H s)(i:s'.os=s.os)(u:Un (Ws X.stack) ch H H' s.heap s'.heap)(a:Zw X.prog X.w H' s'.heap)(j:Qp s'.gens)(d:∀b∈ch,(b∈X.ex\/X.s₀.heap.objs.size<=b)/\b≠X.env.locals/\(∀x c,X.env.cells.lookup x=some c->c≠b)/\∀p∈X.pn++f,p.1≠b):Inv X f g H' s':=by
 obtain ⟨h',g',d',t',h⟩:=s'
 have e:h=s.os:=i
 subst e
 exact I.call (g':=g') (t':=t') (d':=d') u a j d
end
abbrev XK:=Value->Option Addr->Hp->Prop
abbrev St:=List (Option V)
abbrev VK:=V->Hp->Prop
abbrev TE:=St->Hp->VK->Prop
abbrev TT:=St->Hp->(Bool->Hp->Prop)->Prop
abbrev TA:=St->Hp->(List V->Hp->Prop)->Prop
structure Ends where
 nx:St->Hp->Prop
 rt:VK
 bk:St->Hp->Prop:=λ_ _=>False
 ct:St->Hp->Prop:=λ_ _=>False
abbrev TS:=Ends->St->Hp->Prop
def EP(X:Cx)(a:List (Addr×Obj))(c:St)(Q:VK)(u:Value)(s':Ak):Prop:=∃v b,Inv X a c b s'/\RelV v u/\Q v b
def TP(X:Cx)(a:List (Addr×Obj))(d:St)(Q:Bool->Hp->Prop)(b:Bool)(s':Ak):Prop:=∃c,Inv X a d c s'/\Q b c
def AP(X:Cx)(a:List (Addr×Obj))(c:St)(Q:List V->Hp->Prop)(us:List Value)(s':Ak):Prop:=∃vs b,Inv X a c b s'/\Fj vs us/\Q vs b
def SP(X:Cx)(b:List (Addr×Obj))(D:Ends)(f:Flow)(s':Ak):Prop :=
 match f with
 | .next=>∃a c,Inv X b a c s'/\D.nx a c
 | .brk=>∃a c,Inv X b a c s'/\D.bk a c
 | .cont=>∃a c,Inv X b a c s'/\D.ct a c
 | .ret u=>∃v a c,Inv X b a c s'/\RelV v u/\D.rt v c
def PE(X:Cx)(e:Expr)(t:TE):Prop :=
 ∀(a:List (Addr×Obj)) (s:Ak) (b:St) (H:Hp) (Q:VK),Inv X a b H s->t b H Q->wpAny (model X.prog X.w) X.A (eval e X.env) (EP X a b Q) X.xe s
def PT(X:Cx)(e:Expr)(t:TT):Prop :=
 ∀(a:List (Addr×Obj)) (s:Ak) (b:St) (H:Hp) (Q:Bool->Hp->Prop),Inv X a b H s->t b H Q->wpAny (model X.prog X.w) X.A (isTrue e X.env (eval e X.env)) (TP X a b Q) X.xe s
def PW(X:Cx)(e:Expr)(t:TT):Prop :=
 ∀(b:Sem Value) (a:List (Addr×Obj)) (s:Ak) (c:St) (H:Hp) (Q:Bool->Hp->Prop),Inv X a c H s->t c H Q->wpAny (model X.prog X.w) X.A (isTrue e X.env b) (TP X a c Q) X.xe s
theorem PW.pt{X:Cx}{e:Expr}{t:TT}(h:PW X e t):PT X e t:=h _
def PA(X:Cx)(es:List Expr)(t:TA):Prop :=
 ∀(c:Pos) (a:List (Addr×Obj)) (s:Ak) (b:St) (H:Hp) (Q:List V->Hp->Prop),Inv X a b H s->t b H Q->wpAny (model X.prog X.w) X.A (spliced (Cq c (An es X.env))) (AP X a b Q) X.xe s
def PS(X:Cx)(st:Stmt)(t:TS):Prop :=
 ∀(a:List (Addr×Obj)) (s:Ak) (b:St) (H:Hp) (D:Ends),Inv X a b H s->t D b H->wpAny (model X.prog X.w) X.A (exec st X.env) (SP X a D) X.xe s
def Uo(X:Cx)(st:List Stmt)(t:TS):Prop :=
 ∀(a:List (Addr×Obj)) (s:Ak) (b:St) (H:Hp) (D:Ends),Inv X a b H s->t D b H->wpAny (model X.prog X.w) X.A (execs st X.env) (SP X a D) X.xe s
theorem Gy{b:Type}{t:Sem b}{Q Q':b->Ak->Prop}{M:Model}{A:Cf}{E:Value->Ak->Prop}{s:Ak}(h:wpAny M A t Q E s)(c:∀a s,Q a s->Q' a s):wpAny M A t Q' E s:=Cv h c λ_ _ x=>x
section
variable{X:Cx}
def Kc(i:Nat):TE:=λa H Q=>∃v,a[i]? = some (some v)/\Q v H
def tC(v:V):TE:=λ_ H Q=>Q v H
theorem E7{i:Nat}{x:Str}{pos:Pos}(n:X.N[i]? = some x)(hv:JI X.env.scope x)(hd:(x == ("__debug__" : Str))=false:=by decide)(f:(x == ("__classdict__" : Str))=false:=by decide):PE X (.Name x pos) (Kc i):=by
 intro d s o H Q I h
 obtain ⟨v,e,h⟩:=h
 obtain ⟨m,p,j⟩:=I.loc
 obtain ⟨u,r,l⟩:=j i x v n e hv
 have b:EP X d o Q u s:=⟨v,H,I,r,h⟩
 rcases l with ⟨hk,k⟩ | ⟨hk,c,g,a⟩
 ·exact wpAny_Name (wpAny_loadName_local I.ok.kind hk p k b) hd
 ·rcases hk with hk | hk
  ·exact wpAny_Name (wpAny_loadName_cell I.ok.kind hk g a b) hd
  ·exact wpAny_Name (wpAny_loadName_free I.ok.kind hk g a b f) hd
theorem Gi{i j pos}:PE X (.Constant (.int i) j pos) (tC (.int i)):=λ_ _ _ H _ I h=>wpAny_Constant_int ⟨.int i,H,I.tok _,⟨_,rfl⟩,h⟩
theorem GP{b j pos}:PE X (.Constant (.bool b) j pos) (tC (.bl b)):=λ_ _ _ H _ I h=>Constant_bool ⟨.bl b,H,I,rfl,h⟩
theorem pJ{j pos}:PE X (.Constant .none j pos) (tC .non):=λ_ _ _ H _ I h=>Constant_none ⟨.non,H,I,rfl,h⟩
theorem Xz{x j pos}:PE X (.Constant (.str x) j pos) (tC (.str x)):=λ_ _ _ H _ I h=>Calls.Constant_str ⟨.str x,H,I.tok _,⟨_,rfl⟩,h⟩
def Gl(X:Cx)(x:Str):Prop:=X.env.kindOf x=some .globalImplicit
theorem Rh{E:Value->Ak->Prop}{a:List (Addr×Obj)}{s:Ak}{c:St}{H:Hp}{x:Str}{u:Value}{pos:Pos}{Q:Value->Ak->Prop}(I:Inv X a c H s)(d:Gl X x)(b:X.mg x=some u)(h:Q u s)(hd:(x == ("__debug__" : Str))=false:=by decide):wpAny (model X.prog X.w) X.A (eval (.Name x pos) X.env) Q E s :=
 iF I.ok.kind d (Calls.loadGlobal_global (by rw[I.ok.glob]; exact I.mod.glob.keeps I.bk) b h) hd
theorem Yc{E:Value->Ak->Prop}{a:List (Addr×Obj)}{s:Ak}{e:St}{H:Hp}{x:Str}{u:Value}{pos:Pos}{Q:Value->Ak->Prop}(I:Inv X a e H s)(g:Gl X x)(c:X.mg x=none)(hv:Jz x=some u)(h:Q u s)(f:x ≠ "__name__" := by decide)(hd:(x == ("__debug__" : Str))=false:=by decide):wpAny (model X.prog X.w) X.A (eval (.Name x pos) X.env) Q E s:=by
 obtain ⟨i,b,d⟩:=I.mod.blt
 exact iF I.ok.kind g (Calls.loadGlobal_builtin (by rw[I.ok.glob]; exact I.mod.glob.keeps I.bk) c (by rw[I.ok.blt]; exact b.keeps I.bk) ((d x f).trans hv) h) hd
theorem Jl{x:Str}{v:V}{u:Value}{pos:Pos}(b:Gl X x)(a:X.mg x=some u)(r:RelV v u)(hd:(x == ("__debug__" : Str))=false:=by decide):PE X (.Name x pos) (tC v) :=
 λ_ _ _ H _ I h=>Rh I b a ⟨v,H,I,r,h⟩ hd
theorem tX{x:Str}{v:V}{u:Value}{pos:Pos}(c:Gl X x)(b:X.mg x=none)(hv:Jz x=some u)(r:RelV v u)(a:x ≠ "__name__" := by decide)(hd:(x == ("__debug__" : Str))=false:=by decide):PE X (.Name x pos) (tC v) :=
 λ_ _ _ H _ I h=>Yc I c b hv ⟨v,H,I,r,h⟩ a hd
variable{a b:Expr}{f k:TE}{pos:Pos}
def tB(t:TE):TT:=λa H Q=>t a H λx b=>∃c,x=.bl c/\Q c b
theorem C5{e:Expr}{t:TE}(h:PE X e t)(c:∀a,isTrue e X.env a=(do let v <- a; Gp e.pos; Gf [v] (truthy v)):=by intro _; rfl):PT X e (tB t):=by
 intro b s k H Q I g
 refine isTrue_plain (Gy (h b s k H _ I g) λv m ⟨x,f,j,l,i⟩=>?_) (c _)
 obtain ⟨d,rfl,q⟩:=i
 cases l
 exact Ij ⟨f,j,q⟩
variable{g n:TT}{Mi:List Expr}
def NC(t u:TT):TT:=λa H Q=>t a H λc b=>if c=true then Q true b else u a b Q
def LM(t:TT):TT:=λa H Q=>t a H λc b=>Q (!c) b
theorem BH(d:PT X a g):PW X (.BoolOp .Or [a] pos) g:=by
 intro i b s f H Q I h
 refine isTrue_or (Gy (d b s f H Q I h) λc j e=>?_)
 cases c with
 | false=>exact isTrue_or_nil e
 | true=>exact e
theorem IE(l:PT X a g)(hb:PW X (.BoolOp .Or (b::Mi) pos) n):PW X (.BoolOp .Or (a::b::Mi) pos) (NC g n):=by
 intro m d s k H Q I h
 refine isTrue_or (Gy (l d s k H _ I h) λc o e => ?_)
 obtain ⟨f,j,i⟩ := e
 cases c with
 | true=>exact ⟨f,j,i⟩
 | false=>exact hb m d o k f Q j i
theorem EI(d:PT X a g):PT X (.UnaryOp .Not a pos) (LM g):=by
 intro b s e H Q I h
 exact isTrue_not (d b s e H (λc f=>Q (!c) f) I h)
def HC(f k:TE):TE:=λa H Q=>f a H λx b=>∃c,x=.bl c/\if c=true then k a b Q else Q (.bl false) b
def GG(f:TE):TE:=λa H Q=>f a H λx b=>∃c,x=.bl c/\Q (.bl (!c)) b
theorem FE{op}{t:TE}(h:PE X a t):PE X (.BoolOp op [a] pos) t:=λb s c H Q I d=>BoolOp_one (h b s c H Q I d)
theorem DH(m:PE X a f)(hb:PE X (.BoolOp .And (b::Mi) pos) k):PE X (.BoolOp .And (a::b::Mi) pos) (HC f k):=by
 intro d s l H Q I h
 refine BoolOp_and (Gy (m d s l H _ I h) λv o g => ?_)
 obtain ⟨x,i,j,n,e⟩ := g
 obtain ⟨c,rfl,e⟩:=e
 cases n
 refine Ij ?_
 cases c with
 | true=>exact hb d o l i Q j e
 | false=>exact ⟨.bl false,i,j,rfl,e⟩
theorem BO(g:PE X a f):PE X (.UnaryOp .Not a pos) (GG f):=by
 intro b s k H Q I h
 refine UnaryOp_ (Gy (g b s k H _ I h) λv m e => ?_)
 obtain ⟨x,i,j,l,d⟩ := e
 obtain ⟨c,rfl,d⟩:=d
 cases l
 exact not_of (Ij ⟨.bl (!c),i,j,rfl,d⟩)
def MZ(t:TT)(f k:TE):TE:=λa H Q=>t a H λc b=>if c=true then f a b Q else k a b Q
theorem yY{c:Expr}(q:PT X c g)(p:PE X a f)(hb:PE X b k):PE X (.IfExp c a b pos) (MZ g f k):=by
 intro e s j H Q I h
 refine wpAny_IfExp (Gy (q e s j H _ I h) λd o i => ?_)
 obtain ⟨l,n,m⟩ := i
 cases d with
 | true=>exact p e o j l Q n m
 | false=>exact hb e o j l Q n m
end
def Ua(K:PySem.W.Frag)(H:Hp)(a:Addr)(xs:List V):Prop :=
 Rd H a (.lst xs) \/
  ∃(o:Obj) (b:Array Value) (n:Nat),K.lookup a=some o/\o.cls=.type "list" /\ o.dict=none/\o.data=.seq b n/\b.size<=Ba/\Fj xs b.toList
def Tr(K:PySem.W.Frag)(H:Hp)(a:Addr)(xs:List V):Prop :=
 Rd H a (.tup xs) \/
  ∃(o:Obj) (b:Array Value) (n:Nat),K.lookup a=some o/\o.cls=.type "tuple" /\ o.data=.seq b n/\b.size<=Ba/\Fj xs b.toList
def LR:Value->Option V
 | .none=>some .non
 | .bool b=>some (.bl b)
 | .int i _=>some (.int i)
 | .str x _=>some (.str x)
 | .bytes b _=>some (.byt b)
 | .float b _=>some (.flt b)
 | .ref a=>some (.ref a)
 | .type n=>some (.ty n)
 | _=>none
theorem RelV.abs{x:V}{u:Value}(r:RelV x u):LR u=some x:=by
 cases x with
 | non=>cases r; rfl
 | bl _=>cases r; rfl
 | int _=>obtain ⟨t,rfl⟩:=r; rfl
 | str _=>obtain ⟨t,rfl⟩:=r; rfl
 | byt _=>obtain ⟨t,rfl⟩:=r; rfl
 | flt _=>obtain ⟨t,rfl⟩:=r; rfl
 | ref _=>cases r; rfl
 | ty _=>cases r; rfl
theorem RelV.inj{x y:V}{u:Value}(r:RelV x u)(q:RelV y u):x=y:=Br (r.abs.symm.trans q.abs)
theorem Fj.inj:∀{xs ys:List V} {us:List Value},Fj xs us->Fj ys us->xs=ys
 | _,_,_,.nil,.nil=>rfl
 | _,_,_,.cons r t,.cons r' t'=>by rw[r.inj r',Fj.inj t t']
section
variable{X:Cx}{b:List (Addr×Obj)}{c:St}{H:Hp}{s:Ak}{a:Addr}{xs ys:List V}
theorem Ua.of{K:PySem.W.Frag}(h:H a=some (.lst xs)):Ua K H a xs:=.inl (.inl h)
theorem Tr.of{K:PySem.W.Frag}(h:H a=some (.tup xs)):Tr K H a xs:=.inl (.inl h)
theorem Inv.list(I:Inv X b c H s)(h:Ua X.K H a xs):∃d:List Value,Fj xs d/\PlainL s.heap a d.toArray/\xs.length<=Ba:=by
 rcases h with h | ⟨o,d,n,j,g,f,i,k,r⟩
 ·obtain ⟨z,d,n,r,e⟩:=h.ok I.hok
  exact ⟨d,r,⟨_,n,e,rfl,rfl,rfl⟩,z⟩
 ·refine ⟨d.toList,r,⟨o,n,I.kIn a o j,g,f,by simpa using i⟩,?_⟩
  have e:=r.length
  simp only[Bg] at e
  omega
theorem Inv.tuple(I:Inv X b c H s)(h:Tr X.K H a xs):∃d:List Value,Fj xs d/\IsTup s.heap a d.toArray/\xs.length<=Ba:=by
 rcases h with h | ⟨o,d,n,i,f,g,j,r⟩
 ·obtain ⟨z,d,r,p⟩:=h.ok I.hok
  exact ⟨d,r,p,z⟩
 ·refine ⟨d.toList,r,⟨o,I.kIn a o i,f,n,by simpa using g⟩,?_⟩
  have e:=r.length
  simp only[Bg] at e
  omega
theorem Inv.list_inj(I:Inv X b c H s)(h:Ua X.K H a xs)(h':Ua X.K H a ys):xs=ys:=by
 obtain ⟨g,r,⟨o,n,e,_,_,d⟩,_⟩:=I.list h
 obtain ⟨f,k,⟨l,m,j,_,_,i⟩,_⟩:=I.list h'
 rw[e] at j; cases j
 rw[d] at i
 injection i with d1 _
 have : g=f:=by simpa using congrArg Array.toList d1
 subst this
 exact r.inj k
theorem Inv.tuple_inj(I:Inv X b c H s)(h:Tr X.K H a xs)(h':Tr X.K H a ys):xs=ys:=by
 obtain ⟨g,r,⟨o,e,_,n,d⟩,_⟩:=I.tuple h
 obtain ⟨f,k,⟨l,j,_,m,i⟩,_⟩:=I.tuple h'
 rw[e] at j; cases j
 rw[d] at i
 injection i with d1 _
 have : g=f:=by simpa using congrArg Array.toList d1
 subst this
 exact r.inj k
end
abbrev Cx.wish(X:Cx)(E:Value->Ak->Prop):Cx:={ X with xe:=E }
abbrev Cx.nox(X:Cx):Cx:=X.wish λ_ _=>False
theorem Cx.Ok.wish{X:Cx}(ok:X.Ok)(E:Value->Ak->Prop):(X.wish E).Ok :=
 ⟨ok.mod,ok.kind,ok.glob,ok.blt,ok.above,ok.inj,ok.has,ok.cab,ok.hd,ok.frames,ok.stk,ok.exf,ok.bs,ok.bsz,ok.noex,ok.exfs,ok.funs,ok.frf,ok.tab⟩
theorem Cx.Ok.unwish{X:Cx}{E:Value->Ak->Prop}(ok:(X.wish E).Ok):X.Ok :=
 ⟨ok.mod,ok.kind,ok.glob,ok.blt,ok.above,ok.inj,ok.has,ok.cab,ok.hd,ok.frames,ok.stk,ok.exf,ok.bs,ok.bsz,ok.noex,ok.exfs,ok.funs,ok.frf,ok.tab⟩
section
variable{X:Cx}{a:List (Addr×Obj)}{b:St}{H:Hp}{s:Ak}{E:Value->Ak->Prop}
theorem Inv.wish(I:Inv X a b H s)(E:Value->Ak->Prop):Inv (X.wish E) a b H s:=⟨I.ok.wish E,I.os,I.bare,I.base,I.loc,I.cell,I.free,I.freeC,I.pin,I.hok,I.len⟩
theorem Inv.unwish(I:Inv (X.wish E) a b H s):Inv X a b H s:=⟨I.ok.unwish,I.os,I.bare,I.base,I.loc,I.cell,I.free,I.freeC,I.pin,I.hok,I.len⟩
theorem SP.unwish{D:Ends}{f:Flow}{s':Ak}(h:SP (X.wish E) a D f s'):SP X a D f s':=by
 cases f with
 | next=>obtain ⟨b,c,I,q⟩:=h; exact ⟨b,c,I.unwish,q⟩
 | brk=>obtain ⟨b,c,I,q⟩:=h; exact ⟨b,c,I.unwish,q⟩
 | cont=>obtain ⟨b,c,I,q⟩:=h; exact ⟨b,c,I.unwish,q⟩
 | ret u=>obtain ⟨v,b,c,I,r,q⟩:=h; exact ⟨v,b,c,I.unwish,r,q⟩
theorem Uo.nox{st:List Stmt}{t:TS}(h:Uo X.nox st t):Uo X st t:=λa s b H D I c =>
 Cv (h a s b H D (I.wish _) c) (λ_ _ q=>q.unwish) λ_ _ z=>Di z
end
section
variable{X:Cx}{st:Stmt}{Mi:List Stmt}{t u:TS}{e:Expr}{g:TE}{pos:Pos}
def GF:TS:=λD a H=>D.nx a H
def KZ(t u:TS):TS:=λD a H=>t { D with nx:=u D } a H
theorem sT:Uo X [] GF:=λ_ _ a H _ I h=>Pm ⟨a,H,I,h⟩
theorem Ja(c:PS X st t)(e:Uo X Mi u):Uo X (st::Mi) (KZ t u):=by
 intro a s g H D I h
 refine kZ (Gy (c a s g H { D with nx:=u D } I h) λf i q=>?_)
 cases f with
 | next =>
  obtain ⟨b,j,d,q⟩:=q
  exact e a i b j D d q
 | ret v=>exact q
 | brk=>exact q
 | cont=>exact q
theorem Ni(b:PS X st t):Uo X [st] t:=by
 intro a s c H D I h
 refine kZ (Gy (b a s c H D I h) λf d q=>?_)
 cases f with
 | next=>exact Pm q
 | ret v=>exact q
 | brk=>exact q
 | cont=>exact q
theorem Inv.quiet{a:List (Addr×Obj)}{b:St}{H:Hp}{s:Ak}(I:Inv X a b H s):interactive X.env=false:=by simp [interactive,I.ok.kind]
def HU(g:TE):TS:=λD a H=>g a H λ_ b=>D.nx a b
theorem Wo(c:PE X e g)(j:El e none pos.line X.env=pure false:=by rfl):PS X (.Expr e pos) (HU g):=by
 intro a s b H D I h
 exact wpAny_Expr_any (Gy (c a s b H _ I h) λv l ⟨x,d,i,k,f⟩=>⟨b,d,i,f⟩) I.quiet j
def KG(g:TE):TS:=λD a H=>g a H D.rt
theorem Xt(c:PE X e g):PS X (.Return (some e) pos) (KG g):=by
 intro a s b H D I h
 exact wpAny_Return_some (Gy (c a s b H _ I h) λv k ⟨x,d,i,j,f⟩=>⟨x,b,d,i,j,f⟩)
def KB(c:TT)(t u:TS):TS:=λD a H=>c a H λb d=>if b=true then t D a d else u D a d
theorem uR{c:Expr}{a b:List Stmt}{m:TT}(o:PT X c m)(n:Uo X a t)(hb:Uo X b u):PS X (.If c a b pos) (KB m t u):=by
 intro e s g H D I h
 refine wpAny_If (Gy (o e s g H _ I h) λd l f => ?_)
 obtain ⟨i,k,j⟩ := f
 cases d with
 | true=>exact n e l g i D k j
 | false=>exact hb e l g i D k j
end
abbrev TG:=V->St->Hp->(St->Hp->Prop)->Prop
abbrev d0:=List V->St->Hp->(St->Hp->Prop)->Prop
def PG(X:Cx)(a:Expr)(t:TG):Prop :=
 ∀(b:List (Addr×Obj)) (s:Ak) (d:St) (H:Hp) (v:V) (u:Value) (Q:St->Hp->Prop),Inv X b d H s->RelV v u->t v d H Q ->
  wpAny (model X.prog X.w) X.A (Po a X.env u) (λ_ f=>∃c e,Inv X b c e f/\Q c e) X.xe s
def AA(X:Cx)(g:List Expr)(t:d0):Prop :=
 ∀(a:List (Addr×Obj)) (s:Ak) (c:St) (H:Hp) (vs:List V) (d:List Value) (Q:St->Hp->Prop),Inv X a c H s->Fj vs d->t vs c H Q ->
  wpAny (model X.prog X.w) X.A (assignInOrder ((Fk g X.env).map (·.2)) d) (λ_ f=>∃b e,Inv X a b e f/\Q b e) X.xe s
abbrev EM:=V->V->V->Hp->(Hp->Prop)->Prop
def IF(X:Cx)(t:EM):Prop :=
 ∀(a:List (Addr×Obj)) (s:Ak) (b:St) (H:Hp) (o i v:V) (c e u:Value) (Q:Hp->Prop),Inv X a b H s->RelV o c->RelV i e->RelV v u->t o i v H Q ->
  wpAny (model X.prog X.w) X.A (setItem c e u) (λ_ f=>∃d,Inv X a b d f/\Q d) X.xe s
section
variable{X:Cx}{pos:Pos}
def Sz(i:Nat):TG:=λv a H Q=>Q (a.set i (some v)) H
theorem Ou{i:Nat}{x:Str}(d:X.N.Nodup)(f:X.N[i]? = some x)(e:Loc X.env.scope x)(b:X.fn x=true\/X.env.scope.names.lookup x=some .local:=by first | exact .inl rfl | exact .inr rfl | assumption):PG X (.Name x pos) (Sz i):=by
 intro a s j H v u Q I r h
 exact wpAny_assign_Name (Vy I d f e r (λg c=>⟨_,H,c,h⟩) b)
def HA:d0:=λvs a H Q=>vs=[]/\Q a H
def u0(t:TG)(u:d0):d0:=λvs c H Q=>∃v r,vs=v::r/\t v c H λa b=>u r a b Q
theorem tH:AA X [] HA:=by
 intro a s b H vs c Q I r h
 obtain ⟨e,h⟩:=h
 subst e
 cases r
 exact assignInOrder_nil ⟨b,H,I,h⟩
theorem bF{e:Expr}{es:List Expr}{t:TG}{u:d0}(d:PG X e t)(l:AA X es u)(n:(Fk (e::es) X.env).map (·.2)=Po e X.env::(Fk es X.env).map (·.2):=by rfl):AA X (e::es) (u0 t u):=by
 intro a s k H vs p Q I r h
 obtain ⟨v,q,o,h⟩:=h
 subst o
 cases r with
 | cons r j =>
  rw[n]
  refine assignInOrder_cons (Gy (d a s k H _ _ _ I r h) λ_ m b => ?_)
  obtain ⟨c,f,i,g⟩ := b
  exact l a m c f _ _ Q i j g
def IA(K:PySem.W.Frag)(n:Nat)(t:d0):TG:=λv c H Q=>∃a b,v=.ref a/\Tr K H a b/\b.length=n/\t b c H Q
theorem A4{es:List Expr}{k:Nat}{t:d0}{n:Nat}(p:X.calm=true)(h:AA X es t)(w:(Fk es X.env).length=n:=by rfl)(f:(Fk es X.env).findIdx? (·.1)=none:=by rfl):PG X (.Tuple es k pos) (IA X.K n t):=by
 intro c s i H v u Q I r d
 obtain ⟨a,j,z,x,l,d⟩:=d
 subst z
 cases r
 obtain ⟨B,g,y,C⟩:=I.tuple x
 refine assign_Tuple_tuple (I.ok.hd p) y (by simp [w,<- l,g.length]) f λm A=>?_
 have q:Inv X c i H { s with heap:=m }:=I.kept (t':=s.toks) λb o e=>A b o (Cj (Bb e)) e
 exact h c _ i H j _ Q q (by simpa using g) d
def KQ(d f:TE)(t:EM):TG:=λv a H Q=>d a H λo c=>f a c λi b=>t o i v b λe=>Q a e
theorem u4{o i:Expr}{g f:TE}{t:EM}(G:PE X o g)(B:PE X i f)(m:IF X t)
  (p:∀v,Po (.Subscript o i pos) X.env v=(do
   let c <- Gf [v] (eval o X.env)
   let d <- Gf [v,c] (eval i X.env)
   Gp pos
   Gf [v,c,d] (setItem c d v)
   release [v,c,d] []):=by intro _; rfl):PG X (.Subscript o i pos) (KQ g f t):=by
 intro a s e H v u Q I r h
 rw[p]
 refine Aa (Dx (Gy (G a s e H _ I h) λc J b => ?_))
 obtain ⟨x,k,l,A,q⟩ := b
 refine Aa (Dx (Gy (B a J e k _ l q) λd z b => ?_))
 obtain ⟨y,n,j,F,w⟩ := b
 refine Aa (Iv (Aa (Dx (Gy (m a z e n x y v c d u _ j A F r w) λ_ K b => ?_))))
 obtain ⟨C,D,E⟩ := b
 exact wpAny_release ⟨e,C,D,E⟩
def W6(b:TE)(g:TG):TS:=λD a H=>b a H λx c=>g x a c D.nx
theorem rM{b e:Expr}{d:TE}{g:TG}(f:PE X e d)(p:PG X b g)(n:swapsWithSole [b] e pos.line X.env=pure false:=by rfl)(hw:swappedStores [b] e X.env=pure none:=by rfl)(i:(Fk [b] X.env).map (·.2)=[Po b X.env]:=by rfl):PS X (.Assign [b] e pos) (W6 d g):=by
 intro a s c H D I h
 refine wpAny_Assign_stores (Gy (f a s c H _ I h) λv m ⟨x,j,l,o,k⟩=>?_) n hw
 rw[i]
 exact Gy (p a m c j x v _ l o k) λ_ r q=>q
theorem Sd{i:Nat}{x:Str}{e:Expr}{b:TE}{pos':Pos}(m:X.N.Nodup)(k:X.N[i]? = some x)(q:Loc X.env.scope x)(d:PE X e b)(p:El e (some (.Name x pos')) pos.line X.env=pure false:=by rfl)(f:X.fn x=true\/X.env.scope.names.lookup x=some .local:=by first | exact .inl rfl | exact .inr rfl | assumption):PS X (.Assign [.Name x pos'] e pos) (W6 b (Sz i)):=by
 intro a s n H D I h
 refine wpAny_Assign_Name (Gy (d a s n H _ I h) λv t ⟨y,g,l,o,j⟩=>?_) p
 exact Vy l m k q o (λr c=>⟨_,g,c,j⟩) f
end
structure It where
 go:Nat->Hp->Prop
 yld:Nat->Hp->V->Hp->Prop
 stop:Nat->Hp->Prop
def Nj(X:Cx)(a:List (Addr×Obj))(H:Hp)(b:Addr):Prop :=
 H b=none/\b≠X.env.locals/\b∉X.fs/\(b∈X.ex\/X.s₀.heap.objs.size<=b)/\(∀x c,X.env.cells.lookup x=some c->c≠b)/\∀p∈X.pn++a,p.1≠b
theorem Inv.fpOk{X:Cx}{a:List (Addr×Obj)}{g:St}{H H':Hp}{s:Ak}{b:Addr}(I:Inv X a g H s)(hb:s.heap.objs.size<=b)(d:H' b=none):Nj X a H' b:=by
 refine ⟨d,Oz (Ca I.lt hb),I.nofs hb,.inr (Bw I.sz hb),λx c e z=>?_,λp f z=>?_⟩
 ·obtain ⟨v,q⟩:=I.cell x c e
  exact absurd (Ca q.lt (by rw[z]; exact hb)) (Fm _)
 ·exact absurd (Ca (Bb (I.pin p f).1) (by rw[z]; exact hb)) (Fm _)
structure Turn(P:Bk)(w:World)(K:PySem.W.Frag)(tg:Expr)(J:It)(fp:List Addr)(it:Addr)(tn:Nat->Heap->Prop):Prop where
 mem:it∈fp
 obj:∀i h,tn i h->∀b∈fp,∃o,h.get? b=some o/\∀v,o.data≠.cell v
 keep:∀i h h',tn i h->(∀b∈fp,∀o,h.get? b=some o->h'.get? b=some o)->tn i h'
 item:∀(X:Cx),X.prog=P->X.w=w->X.K=K->X.calm=true->∀(i:Nat) (pins:List (Addr×Obj)) (s:Ak) (σ:St) (H:Hp) (E:Value->Ak->Prop),Inv X pins σ H s->(∀b∈fp,Nj X pins H b)->tn i s.heap->J.go i H ->
  wpAny (model P w) X.A (Mg (.ref it)) (λr s1=>∃u,r=some u /\
   wpAny (model P w) X.A (Ih tg (.ref it) u) (λ_ s2=>∃x H',Inv X pins σ H' s2/\RelV x u/\J.yld i H x H'/\tn (i+1) s2.heap/\∀b∈fp,H' b=none) E s1) E s
 done:∀(X:Cx),X.prog=P->X.w=w->X.K=K->X.calm=true->∀(i:Nat) (pins:List (Addr×Obj)) (s:Ak) (σ:St) (H:Hp) (E:Value->Ak->Prop),Inv X pins σ H s->(∀b∈fp,Nj X pins H b)->tn i s.heap->J.stop i H ->
  wpAny (model P w) X.A (Mg (.ref it)) (λr s1=>r=none/\Inv X pins σ H s1) E s
 self:∀(A:Cf) (i:Nat) (s:Ak) (Q:Value->Ak->Prop) (E:Value->Ak->Prop),tn i s.heap->Q (.ref it) s->wpAny (model P w) A (Zh (.ref it)) Q E s
abbrev TI:=St->Hp->(It->Hp->Prop)->Prop
def KU(X:Cx)(a:List (Addr×Obj))(i:St)(h:Expr)(R:It->Hp->Prop)(c:Value)(g:Ak):Prop :=
 ∃(it:Addr) (e:List Addr) (f:Nat->Heap->Prop) (J:It) (d:Hp),c=.ref it/\Inv X a i d g/\Turn X.prog X.w X.K h J e it f/\f 0 g.heap/\(∀b∈e,Nj X a d b)/\R J d
def PI(X:Cx)(c iter:Expr)(d:TI):Prop :=
 ∀(a:List (Addr×Obj)) (s:Ak) (b:St) (H:Hp) (R:It->Hp->Prop),Inv X a b H s->d b H R ->
  wpAny (model X.prog X.w) X.A (eval iter X.env) (λv e=>wpAny (model X.prog X.w) X.A (Zh v) (KU X a b c R) X.xe e) X.xe s
theorem uW{M:Model}{A:Cf}{E:Value->Ak->Prop}{s:Ak}{b:Expr}{it:Addr}{u:Value}{o:Obj}{n:String}{vs:Array Value}{Q:Unit->Ak->Prop}(e:s.heap.get? it=some o)(c:o.cls=.type n)(hd:o.data=.fields vs)(d:["enumerate", "zip", "dict_itemiterator", "dict_reverseitemiterator", "odict_iterator", "itertools.zip_longest", "itertools.pairwise"].contains n=false)(a:Q () s):wpAny M A (Ih b (.ref it) u) Q E s:=by
  unfold Ih
  cases b <;> first
    | exact Am a
    | (cases u <;> first
        | exact Am a
        | (refine Aa (wpAny_load e ?_)
           rw[c,hd]
           show wpAny M A (if (["enumerate", "zip", "dict_itemiterator", "dict_reverseitemiterator", "odict_iterator", "itertools.zip_longest", "itertools.pairwise"].contains n && vs[0]? == some (Jy _))=true then _ else _) Q E s
           rw[if_neg (by intro h; rw[d,Bool.false_and] at h; cases h)]
           exact Am a))
def JT(K:PySem.W.Frag)(a:Addr):It :=
 ⟨λi H=>∃b x,Ua K H a b/\b[i]? = some x,λi H x c=>c=H/\∀b,Ua K H a b->b[i]? = some x,λi H=>∃b,Ua K H a b/\b.length<=i⟩
def LX(K:PySem.W.Frag)(a:Addr):It :=
 ⟨λi H=>∃b x,Tr K H a b/\b[i]? = some x,λi H x c=>c=H/\∀b,Tr K H a b->b[i]? = some x,λi H=>∃b,Tr K H a b/\b.length<=i⟩
def HW(lo:Int)(n:Nat):It:=⟨λi _=>i<n,λi H x a=>a=H/\x=.int (lo+i),λi _=>n<=i⟩
theorem wV{P:Bk}{w:World}{K:PySem.W.Frag}{Y:Expr}(a it:Addr):Turn P w K Y (JT K a) [it] it (λi h=>h.IsListIter it a i) where
 mem:=by simp
 obj:=λi h st b g=>by
  have e:b=it:=by simpa using g
  subst e
  obtain ⟨o,e,c,d⟩:=st
  exact ⟨o,e,λv z=>by rw[d] at z; cases z⟩
 keep:=λi h l st k=>st.at λo e=>k it (by simp) o e
 item:=by
  intro X L D y M i f s N H E I n st t
  subst L D y
  obtain ⟨U,x,m,G⟩:=t
  obtain ⟨r,C,p,V⟩:=I.list m
  obtain ⟨u,S,R⟩:=C.get G
  obtain ⟨F,B,T,J,A,q⟩:=n it (by simp)
  refine wpAny_pyNext_list_item st p.isList (x:=u) (by simpa using S) λl j Z=>?_
  have Q:Inv X f N H { s with heap:=l }:=I.turned (t':=s.toks) (λb o g e=>(Z.2 b g).trans e) F B J A q
  obtain ⟨o,e,c,d⟩:=id j
  exact ⟨u,rfl,uW (s:={ s with heap:=l }) e c d (by decide) ⟨x,H,Q,R,⟨rfl,λys O=>by rw[I.list_inj O m]; exact G⟩,j,λb g=>(n b g).1⟩⟩
 done:=by
  intro X L D y M i f s N H E I n st t
  subst L D y
  obtain ⟨U,m,G⟩:=t
  obtain ⟨r,C,p,V⟩:=I.list m
  obtain ⟨F,B,T,J,A,q⟩:=n it (by simp)
  have hl:=C.length
  exact wpAny_pyNext_list_end (I.ok.hd M) st p.isList (by simp; omega) λl eb=>⟨rfl,I.turned (t':=s.toks) (λb o g e=>eb b o g e) F B J A q⟩
 self:=λ_ _ _ _ _ st h=>wpAny_pyIter_listiter st h
theorem rE{P:Bk}{w:World}{K:PySem.W.Frag}{Y:Expr}(a it:Addr):Turn P w K Y (LX K a) [it] it (λi h=>h.IsTupleIter it a i) where
 mem:=by simp
 obj:=λi h st b j=>by
  have e:b=it:=by simpa using j
  subst e
  obtain ⟨o,e,c,d⟩:=st
  exact ⟨o,e,λv z=>by rw[d] at z; cases z⟩
 keep:=λi h m st k=>st.at λo e=>k it (by simp) o e
 item:=by
  intro X L D y M i f s N H E I q st t
  subst L D y
  obtain ⟨U,x,n,G⟩:=t
  obtain ⟨g,C,p,V⟩:=I.tuple n
  obtain ⟨u,S,R⟩:=C.get G
  obtain ⟨F,B,T,J,A,r⟩:=q it (by simp)
  refine M5 st (show s.heap.IsTuple a g.toArray from p) (x:=u) (by simpa using S) λm l Z=>?_
  have Q:Inv X f N H { s with heap:=m }:=I.turned (t':=s.toks) (λb o j e=>(Z.2 b j).trans e) F B J A r
  obtain ⟨o,e,c,d⟩:=id l
  exact ⟨u,rfl,uW (s:={ s with heap:=m }) e c d (by decide) ⟨x,H,Q,R,⟨rfl,λys O=>by rw[I.tuple_inj O n]; exact G⟩,l,λb j=>(q b j).1⟩⟩
 done:=by
  intro X L D y M i f s N H E I q st t
  subst L D y
  obtain ⟨U,n,G⟩:=t
  obtain ⟨g,C,p,V⟩:=I.tuple n
  obtain ⟨F,B,T,J,A,r⟩:=q it (by simp)
  have hl:=C.length
  exact N0 (I.ok.hd M) st (show s.heap.IsTuple a g.toArray from p) (by simp; omega) λm eb=>⟨rfl,I.turned (t':=s.toks) (λb o j e=>eb b o j e) F B J A r⟩
 self:=λ_ _ _ _ _ st h=>wpAny_pyIter_tupleiter st h
theorem qI{P:Bk}{w:World}{K:PySem.W.Frag}{M:Expr}(it:Addr)(lo:Int)(n:Nat):Turn P w K M (HW lo n) [it] it (λi h=>IsRangeIter h it (lo+(i:Nat) * 1) ((n:Int) - (i:Nat)) 1) where
 mem:=by simp
 obj:=λi h st b c=>by
  have e:b=it:=by simpa using c
  subst e
  exact ⟨_,st,λv z=>by
   have J:Data.fields _=Data.cell v:=z
   cases J⟩
 keep:=λi h f st k=>k it (by simp) _ st
 item:=by
  intro X A u p j i a s B H E I g st m
  subst A u p
  obtain ⟨x,r,F,y,q,l⟩:=g it (by simp)
  have W:=Walks.range (prog:=X.prog) (w:=X.w) (I.ok.hd j) it lo 1 n
  refine W.item i s _ _ m st λv f C L d G=>?_
  obtain ⟨t,rfl⟩:=L
  have D:Inv X a B H { s with heap:=f,toks:=C }:=I.turned (λb o c e=>G b o (by simpa using c) e) x r y q l
  refine ⟨_,rfl,uW (s:={ s with heap:=f,toks:=C }) (n := "range_iterator") d rfl rfl (by decide) ⟨.int (lo+i),H,D,⟨t,?_⟩,⟨rfl,rfl⟩,d,λb c=>(g b c).1⟩⟩
  rw[Int.mul_one]
 done:=by
  intro X A u p j i a s B H E I g st m
  subst A u p
  obtain ⟨x,r,F,y,q,l⟩:=g it (by simp)
  exact wpAny_pyNext_range_end (I.ok.hd j) st (by have : n<=i:=m; omega) λf N=>⟨rfl,I.turned (t':=s.toks) (λb o c e=>N b o c e) x r y q l⟩
 self:=λ_ _ _ _ _ st h=>wpAny_pyIter_rangeiter st h
section
variable{X:Cx}{c:Expr}
def GO(K:PySem.W.Frag)(c:TE):TI:=λe H R=>c e H λx b=>∃a,x=.ref a/\(∃d,Ua K b a d)/\R (JT K a) b
def JV(K:PySem.W.Frag)(c:TE):TI:=λe H R=>c e H λx b=>∃a,x=.ref a/\(∃d,Tr K b a d)/\R (LX K a) b
theorem R9{l:Expr}{j:TE}(k:PE X l j):PI X c l (GO X.K j):=by
 intro d s t H R I h
 refine Gy (k d s t H _ I h) λv g i => ?_
 obtain ⟨x,m,f,w,n⟩ := i
 obtain ⟨a,e,⟨z,u⟩,q⟩:=n
 subst e
 cases w
 obtain ⟨y,B,p,A⟩:=f.list u
 refine Nb p.isList ?_
 refine ⟨g.heap.objs.size,[g.heap.objs.size],_,_,m,rfl,f.kept (t':=g.toks) λb o e=>Aq _ e,wV a _,⟨_,Be _ rfl,rfl,rfl⟩,λb r=>?_,q⟩
 have e:b=g.heap.objs.size:=by simpa using r
 subst e
 exact f.fpOk (Au _) (f.hok.fresh (Au _))
theorem BY{l:Expr}{k:TE}(m:PE X l k):PI X c l (JV X.K k):=by
 intro d s u H R I h
 refine Gy (m d s u H _ I h) λv f i => ?_
 obtain ⟨x,n,g,y,r⟩ := i
 obtain ⟨a,e,⟨z,w⟩,q⟩:=r
 subst e
 cases y
 obtain ⟨j,B,p,A⟩:=g.tuple w
 refine eN (show f.heap.IsTuple a j.toArray from p) ?_
 refine ⟨f.heap.objs.size,[f.heap.objs.size],_,_,n,rfl,g.kept (t':=f.toks) λb o e=>Aq _ e,rE a _,⟨_,Be _ rfl,rfl,rfl⟩,λb t=>?_,q⟩
 have e:b=f.heap.objs.size:=by simpa using t
 subst e
 exact g.fpOk (Au _) (g.hok.fresh (Au _))
theorem zJ{d:List (Addr×Obj)}{g:St}{H:Hp}{s:Ak}{R:It->Hp->Prop}{E:Value->Ak->Prop}{lo a:Int}{t u v:Tok}{h:Nat}(I:Inv X d g H s)(j:-(2 ^ 62)<=lo)(l:lo<2 ^ 62)(n:-(2 ^ 62)<=a)(h4:a<2 ^ 62)(q:R (HW lo (a - lo).toNat) H):wpAny (model X.prog X.w) X.A (Zh (.ref s.heap.objs.size)) (KU X d g c R) E { s with heap:=s.heap.push { cls:=.type "range",data:=.fields #[.int lo t,.int a u,.int 1 v] },toks:=h }:=by
 refine wpAny_pyIter_range (IsRange.new ..) (small_one j l n h4) ?_
 have f:Inv X d g H { s with heap:=s.heap.push { cls:=.type "range",data:=.fields #[.int lo t,.int a u,.int 1 v] },toks:=h }:=I.kept λb o e=>Aq _ e
 refine ⟨(s.heap.push { cls:=.type "range",data:=.fields #[.int lo t,.int a u,.int 1 v] }).objs.size,[(s.heap.push { cls:=.type "range",data:=.fields #[.int lo t,.int a u,.int 1 v] }).objs.size],_,_,H,rfl,
  f.kept (t':=h) λb o e=>Aq _ e,qI _ lo (a - lo).toNat,?_,λb k=>?_,q⟩
 ·have m:lo+((0:Nat):Int) * 1=lo:=by simp
  have i:(((a - lo).toNat:Nat):Int) - ((0:Nat):Int)=Builtin.Range.rangeSize lo a 1:=by rw[rangeSize_one]; split <;> omega
  show IsRangeIter _ _ (lo+((0:Nat):Int) * 1) ((((a - lo).toNat:Nat):Int) - ((0:Nat):Int)) 1
  rw[m,i]
  exact Be _ rfl
 ·have e:b=(s.heap.push { cls:=.type "range",data:=.fields #[.int lo t,.int a u,.int 1 v] }).objs.size:=by simpa using k
  subst e
  exact f.fpOk (Au _) (f.hok.fresh (Au _))
def ID(a:TA):TI:=λb H R=>a b H λvs c=>∃j:Int,vs=[.int j] /\ -(2 ^ 62)<=j/\j<2 ^ 62/\R (HW 0 j.toNat) c
theorem yN{a:Expr}{f:TA}{p pos:Pos}(v:Gl X "range")(i:X.mg "range" = none)(g:PA X [a] f)(u:An [a] X.env=[(false,eval a X.env)]:=by rfl):PI X c (.Call (.Name "range" p) [a] [] pos) (ID f):=by
 intro b s m H R I h
 refine Call_ (Yc I v i boot_range (Iz (Gy (g pos b s m H _ I h) λy x ⟨vs,w,k,o,d⟩=>?_) u rfl))
 obtain ⟨j,e,d,n,q⟩:=d
 subst e
 cases o with
 | cons r l =>
  cases l
  obtain ⟨t,rfl⟩:=r
  exact call_range_1 (zJ k (by omega) (by omega) d n (by simpa using q))
def LU(k:TI)(g:TG)(j:TS):TS:=λD a H=>k a H λJ h=>∃W:Nat->Nat->St->Hp->Prop,(∃m,W 0 m a h)/\∀i m a H,W i m a H ->
 (J.stop i H/\D.nx a H)\/(J.go i H/\∃N:St->Hp->Prop,(∀b c,N b c->∃e,e<m/\W (i+1) e b c)/\∀x c,J.yld i H x c->g x a c λd f=>j { D with nx:=N,ct:=N,bk:=D.nx } d f)
def Ry(fp:List Addr)(h:Heap):List (Addr×Obj):=fp.filterMap λb=>(h.get? b).map λo=>(b,o)
theorem Jr{fp:List Addr}{h:Heap}{b:Addr}{o:Obj}(hb:b∈fp)(e:h.get? b=some o):(b,o)∈Ry fp h:=Ee.mpr ⟨b,hb,by rw[e]; rfl⟩
theorem yI{fp:List Addr}{h:Heap}{p:Addr×Obj}(c:p∈Ry fp h):p.1∈fp/\h.get? p.1=some p.2:=by
 obtain ⟨b,a,e⟩:=Ee.mp c
 cases q:h.get? b with
 | none=>rw[q] at e; cases e
 | some o =>
  rw[q] at e
  have d:(b,o)=p:=Br e
  subst d
  exact ⟨a,q⟩
theorem Inv.pinned{a:List (Addr×Obj)}{f:St}{H:Hp}{s:Ak}{fp:List Addr}(I:Inv X a f H s)(i:∀b∈fp,Nj X a H b)(l:∀b∈fp,∃o,s.heap.get? b=some o/\∀v,o.data≠.cell v):Inv X (a++Ry fp s.heap) f H s :=
 I.pins_of λp m=>(Ar.mp m).elim (λz=>I.pin p (Ag _ z)) λz=>by
  obtain ⟨c,e⟩:=yI z
  obtain ⟨k,h,j,_⟩:=i p.1 c
  obtain ⟨o,g,d⟩:=l p.1 c
  rw[e] at g; cases g
  exact ⟨e,k,h,j,d⟩
theorem Inv.unpinned{a pl:List (Addr×Obj)}{b:St}{H:Hp}{s:Ak}(I:Inv X (a++pl) b H s):Inv X a b H s:=I.pins_of λp c=>I.pin p (Ag _ (Ae _ c))
theorem qF{iter:Expr}{C:List Stmt}{wi:TI}{g:TG}{tb:TS}{pos:Pos}(L:aE (model X.prog X.w) X.A X.env X.xe)(hc:X.calm=true)(hi:PI X c iter wi)(hg:PG X c g)(hb:Uo X C tb)(hs:∀x,Cr iter X.env x=pure x:=by intro _; rfl):PS X (.For c iter C [] pos) (LU wi g tb):=by
 intro a s σ H D I h
 refine wpAny_For (Gy (hi a s σ H _ I h) λv s1 h1=>Gy h1 λh0 s2 h2=>?_) hs
 obtain ⟨it,M,tn,J,H2,e,I2,T,V,f2,W,⟨m0,w0⟩,F⟩:=h2
 subst e
 -- what stays true of the iterator's objects through the loop
 have y:∀{z:Hp},(∀b∈M,z b=none)->∀b∈M,Nj X a z b:=λhn b hb=>⟨hn b hb,(f2 b hb).2⟩
 refine codeAny_forLoop_any (λn s'=>∃i t z,Inv X a t z s'/\tn i s'.heap/\(∀b∈M,z b=none)/\W i n t z) ?_ m0 ⟨0,σ,H2,I2,V,λb hb=>(f2 b hb).1,w0⟩
 (intro n s3 q_; obtain ⟨i,p,Q,I3,G,O,w3⟩ := q_)
 rcases F i n p Q w3 with ⟨P,qn⟩ | ⟨go,N,hN,step⟩
 ·refine Pl L (Gy (T.done X rfl rfl rfl hc i a s3 p Q X.xe I3 (y O) G P) λr s4 k => ?_)
  obtain ⟨R,I4⟩ := k
  subst R
  exact Pm ⟨p,Q,I4,qn⟩
 ·refine Pl L (Gy (T.item X rfl rfl rfl hc i a s3 p Q X.xe I3 (y O) G go) λr s4 k => ?_)
  obtain ⟨u,R,h4⟩ := k
  subst R
  refine Pl L (Gy h4 λ_ s5 k => ?_)
  obtain ⟨x,H5,I5,r5,y5,E,Z⟩ := k
  have U:=I5.pinned (y Z) (T.obj _ _ E)
  refine Pl L (Gy (hg _ s5 p H5 x u _ U r5 (step x H5 y5)) λ_ s6 k => ?_)
  obtain ⟨S,H6,I6,q6⟩ := k
  refine Pl L (Gy (hb _ s6 S H6 _ I6 q6) λf Y B=>?_)
  have again:∀{j:St} {l:Hp},Inv X (a++Ry M s5.heap) j l Y->N j l->∃m,m<n/\∃i t z,Inv X a t z Y/\tn i Y.heap/\(∀b∈M,z b=none)/\W i m t z:=λ{j l} q K=>by
   obtain ⟨m',hm,w7⟩:=hN j l K
   refine ⟨m',hm,i+1,j,l,q.unpinned,T.keep _ _ _ E λb hb o e=>(q.pin (b,o) (Ag _ (Ag _ (Jr hb e)))).1,λb hb=>?_,w7⟩
   obtain ⟨o,e,d⟩:=T.obj _ _ E b hb
   exact (q.pin (b,o) (Ag _ (Ag _ (Jr hb e)))).2.1
  cases f with
  | next=>obtain ⟨j,l,q,K⟩:=B; exact again q K
  | cont=>obtain ⟨j,l,q,K⟩:=B; exact again q K
  | brk=>obtain ⟨j,l,q,B⟩:=B; exact ⟨j,l,q.unpinned,B⟩
  | ret v=>obtain ⟨x7,j,l,q,r7,B⟩:=B; exact ⟨x7,j,l,q.unpinned,r7,B⟩
end
abbrev R2:=V->V->Hp->VK->Prop
def Xa(X:Cx)(f:Value->Value->Sem Value)(r:R2):Prop :=
 ∀(a:List (Addr×Obj)) (s:Ak) (b:St) (H:Hp) (x y:V) (v u:Value) (Q:VK),Inv X a b H s->RelV x v->RelV y u->r x y H Q ->
  wpAny (model X.prog X.w) X.A (f v u) (EP X a b Q) X.xe s
def JX(X:Cx)(f:Value->Sem Value)(r:V->Hp->VK->Prop):Prop :=
 ∀(a:List (Addr×Obj)) (s:Ak) (b:St) (H:Hp) (x:V) (v:Value) (Q:VK),Inv X a b H s->RelV x v->r x H Q ->
  wpAny (model X.prog X.w) X.A (f v) (EP X a b Q) X.xe s
def Na(X:Cx)(f:Value)(r:List V->Hp->VK->Prop):Prop :=
 ∀(a:List (Addr×Obj)) (s:Ak) (c:St) (H:Hp) (b:List V) (d:List Value) (Q:VK),Inv X a c H s->Fj b d->r b H Q ->
  wpAny (model X.prog X.w) X.A (call f d) (EP X a c Q) X.xe s
def KC(X:Cx)(r:V->Hp->(Bool->Hp->Prop)->Prop):Prop :=
 ∀(a:List (Addr×Obj)) (s:Ak) (b:St) (H:Hp) (x:V) (v:Value) (Q:Bool->Hp->Prop),Inv X a b H s->RelV x v->r x H Q ->
  wpAny (model X.prog X.w) X.A (truthy v) (TP X a b Q) X.xe s
def HI(r:R2)(e d:TE):TE:=λa H Q=>e a H λx c=>d a c λy b=>r x y b Q
def NJ(r:V->Hp->VK->Prop)(a:TE):TE:=λb H Q=>a b H λx c=>r x c Q
def rI(C:Int->Int->Prop)(g:Int->Int->V):R2:=λx y H Q=>∃i j,x=.int i/\y=.int j/\C i j/\Q (g i j) H
def BZ(g:Int->Int->V):R2:=λx y H Q=>∃i j,x=.int i/\y=.int j/\Q (g i j) H
def rU(g:Int->V):V->Hp->VK->Prop:=λx H Q=>∃i,x=.int i/\Q (g i) H
section
variable{X:Cx}{a b c:Expr}{d e k:TE}{pos:Pos}
theorem EN(q:PE X a d)(hb:PE X b e){c:List (Addr×Obj)}{s:Ak}{j:St}{H:Hp}{R:V->V->Hp->Prop}(I:Inv X c j H s)(h:d j H λx n=>e j n λy i=>R x y i){Q:Value->Ak->Prop}{f:Value->Value->Sem Value}(p:∀v u m x y i,Inv X c j i m->RelV x v->RelV y u->R x y i->wpAny (model X.prog X.w) X.A (f v u) Q X.xe m):wpAny (model X.prog X.w) X.A (eval a X.env) (λv l=>wpAny (model X.prog X.w) X.A (eval b X.env) (λu k=>wpAny (model X.prog X.w) X.A (f v u) Q X.xe k) X.xe l) X.xe s:=by
 refine Gy (q c s j H _ I h) λv D g => ?_
 obtain ⟨x,n,t,B,r⟩ := g
 refine Gy (hb c D j n _ t r) λu m g => ?_
 obtain ⟨y,i,o,C,z⟩ := g
 exact p v u m x y i o B C z
theorem Ke{f:Operator}{r:R2}(o:Xa X (Lw f) r)(j:PE X a d)(hb:PE X b e):PE X (.BinOp a f b pos) (HI r d e):=by
 intro c s k H Q I h
 exact wpAny_BinOp (EN j hb I h λv u m x y i g n l q=>o c m k i x y v u Q g n l q)
theorem GT{e:UnaryOp}{r:V->Hp->VK->Prop}(l:JX X (unaryOp e) r)(f:PE X a d):PE X (.UnaryOp e a pos) (NJ r d):=by
 intro b s c H Q I h
 exact UnaryOp_ (Gy (f b s c H _ I h) λv k ⟨x,g,j,m,i⟩=>l b k c g x v Q j m i)
theorem JL{f:Value->Value->Sem Value}{C:Int->Int->Prop}{g:Int->Int->Int}(rule:∀(i j:Int) (t u:Tok) (s:Ak) (Q:Value->Ak->Prop) (E:Value->Ak->Prop),C i j->Q (.int (g i j) s.toks) { s with toks:=s.toks+1 }->wpAny (model X.prog X.w) X.A (f (.int i t) (.int j u)) Q E s):Xa X f (rI C λi j=>.int (g i j)):=by
 intro a s k H x y v u Q I d c h
 obtain ⟨i,j,rfl,rfl,b,q⟩:=h
 obtain ⟨t,rfl⟩:=d
 obtain ⟨e,rfl⟩:=c
 exact rule i j t e s _ _ b ⟨.int (g i j),H,I.tok _,⟨_,rfl⟩,q⟩
theorem LP{f:Value->Value->Sem Value}{g:Int->Int->Int}(rule:∀(i j:Int) (t u:Tok) (s:Ak) (Q:Value->Ak->Prop) (E:Value->Ak->Prop),Q (.int (g i j) s.toks) { s with toks:=s.toks+1 }->wpAny (model X.prog X.w) X.A (f (.int i t) (.int j u)) Q E s):Xa X f (BZ λi j=>.int (g i j)):=by
 intro a s e H x y v u Q I c b h
 obtain ⟨i,j,rfl,rfl,q⟩:=h
 obtain ⟨t,rfl⟩:=c
 obtain ⟨d,rfl⟩:=b
 exact rule i j t d s _ _ ⟨.int (g i j),H,I.tok _,⟨_,rfl⟩,q⟩
theorem BN{f:Value->Value->Sem Value}{g:Int->Int->Bool}(rule:∀(i j:Int) (t u:Tok) (s:Ak) (Q:Value->Ak->Prop) (E:Value->Ak->Prop),Q (.bool (g i j)) s->wpAny (model X.prog X.w) X.A (f (.int i t) (.int j u)) Q E s):Xa X f (BZ λi j=>.bl (g i j)):=by
 intro a s e H x y v u Q I c b h
 obtain ⟨i,j,rfl,rfl,q⟩:=h
 obtain ⟨t,rfl⟩:=c
 obtain ⟨d,rfl⟩:=b
 exact rule i j t d s _ _ ⟨.bl (g i j),H,I,rfl,q⟩
def ES(i j:Int):Prop:=0<j/\j<1073741824
def CA(i j:Int):Prop:=0<=j/\j<=1000000/\i.natAbs<2 ^ 64
def IM(i j:Int):Prop:=(-(2 ^ 64)<i/\i<2 ^ 64)\/(-(2 ^ 64)<j/\j<2 ^ 64)
theorem IM.ok{i j:Int}(h:IM i j):IntMulOk i j:=by
 rcases h with ⟨a,b⟩ | ⟨a,b⟩
 ·exact .of_left (intBits_le_64 a b)
 ·exact .of_right (intBits_le_64 a b)
theorem bK:Xa X (Lw .Add) (BZ λi j=>.int (i+j)):=LP λ_ _ _ _ _ _ _ q=>add_int q
theorem cJ:Xa X (Lw .Mult) (rI IM λi j=>.int (i * j)):=JL λ_ _ _ _ _ _ _ a q=>mul_int q a.ok
theorem jY:Xa X (Lw .FloorDiv) (rI ES λi j=>.int (i / j)):=JL λi j _ _ _ _ _ a q=>by
 have b:(0:Int)<j:=a.1
 have c:j<1073741824:=a.2
 exact floordiv_int (by omega) (by rw[Int.fdiv_eq_ediv_of_nonneg i (by omega)]; exact q) (.inl (PyProof.noPylong_small (by omega)))
theorem Yd:Xa X (Lw .Mod) (rI (λ_ j=>0<j) λi j=>.int (i % j)):=JL λi j _ _ _ _ _ a q=>by
 have b:(0:Int)<j:=a
 exact mod_int' (by omega) (by rw[Int.fmod_eq_emod_of_nonneg i (by omega)]; exact q)
theorem jA:Xa X (Lw .Pow) (rI CA λi j=>.int (i ^ j.toNat)):=JL λ_ _ _ _ _ _ _ a q=>pow_int_small a.1 a.2.1 a.2.2 q
theorem NR{f:Value->Sem Value}{g:Int->Int}(rule:∀(i:Int) (t:Tok) (s:Ak) (Q:Value->Ak->Prop) (E:Value->Ak->Prop),Q (.int (g i) s.toks) { s with toks:=s.toks+1 }->wpAny (model X.prog X.w) X.A (f (.int i t)) Q E s):JX X f (rU λi=>.int (g i)):=by
 intro a s c H x v Q I b h
 obtain ⟨i,rfl,q⟩:=h
 obtain ⟨t,rfl⟩:=b
 exact rule i t s _ _ ⟨.int (g i),H,I.tok _,⟨_,rfl⟩,q⟩
theorem CG:JX X (unaryOp .USub) (rU λi=>.int (-i)):=NR λ_ _ _ _ _ q=>neg_int q
end
section
variable{X:Cx}{a b c:Expr}{d f g:TE}{pos:Pos}
theorem qG{a:List (Addr×Obj)}{c:St}{H:Hp}{s:Ak}{Q:VK}{k b:Bool}(I:Inv X a c H s)(q:Q (.bl k) H)(e:k=b):EP X a c Q (.bool b) s:=by
 subst e
 exact ⟨.bl k,H,I,rfl,q⟩
theorem FX:Xa X (Ii .Lt) (BZ λi j=>.bl (decide (i<j))):=BN λ_ _ _ _ _ _ _ q=>lt_int q
theorem HX:Xa X (Ii .Gt) (BZ λi j=>.bl (decide (j<i))):=BN λ_ _ _ _ _ _ _ q=>gt_int q
theorem Z3:Xa X (Ii .GtE) (BZ λi j=>.bl (decide (j<=i))):=BN λ_ _ _ _ _ _ _ q=>ge_int q
theorem xO:Xa X (Ii .In) (λx y H Q=>∃i j,x=.str i/\y=.str j/\Q (.bl (!(Ge j i 0 j.length 1).isEmpty)) H):=by
 intro a s d H x y v u Q I c b h
 obtain ⟨i,j,rfl,rfl,q⟩:=h
 obtain ⟨t,rfl⟩:=c
 obtain ⟨e,rfl⟩:=b
 exact in_str (qG I q rfl)
theorem FC:Xa X (Ii .Is) (λx y H Q=>y=.non/\Q (.bl (decide (x=.non))) H):=by
 intro b s d H x y v u Q I a c h
 obtain ⟨rfl,q⟩:=h
 cases c
 refine is_none_gen (qG I q ?_)
 cases x <;> first
  | (cases a; rfl)
  | (obtain ⟨t,rfl⟩:=a; rfl)
theorem W8:Xa X (Ii .IsNot) (λx y H Q=>y=.non/\Q (.bl (!decide (x=.non))) H):=by
 intro b s d H x y v u Q I a c h
 obtain ⟨rfl,q⟩:=h
 cases c
 refine isnot_none_gen (qG I q ?_)
 cases x <;> first
  | (cases a; rfl)
  | (obtain ⟨t,rfl⟩:=a; rfl)
theorem Qr(b:Expr){a:CmpOp}(h:a≠.In:=by decide)(d:a≠.NotIn:=by decide):Iy a b=false:=by
 have e:(a == CmpOp.In)=false:=by cases a <;> first | rfl | exact absurd rfl h
 have c:(a == CmpOp.NotIn)=false:=by cases a <;> first | rfl | exact absurd rfl d
 cases b <;> simp [Iy,e,c]
theorem sY{e:CmpOp}{r:R2}(p:Xa X (Ii e) r)(j:PE X a d)(hb:PE X b f)(k:Iy e b=false):PE X (.Compare a [e] [b] pos) (HI r d f):=by
 intro c s l H Q I h
 exact wpAny_Compare1 (EN j hb I h λv u n x y i g o m q=>p c n l i x y v u Q g o m q) k
def GH(t:TE):TT:=λb H Q=>t b H λx a=>∃k,x=.bl k/\Q k a
theorem jD{j:CmpOp}{r:R2}(J:Xa X (Ii j) r)(p:PE X a d)(hb:PE X b f)(t:Iy j b=false):PT X (.Compare a [j] [b] pos) (GH (HI r d f)):=by
 intro g s i H Q I h
 refine wpAny_isTrue_Compare1 (Gy (p g s i H _ I h) λv K ⟨x,m,n,B,q⟩=>Gy (hb g K i m _ n q) λu A ⟨y,o,l,G,w⟩ =>
  Gy (J g A i o x y v u _ l B G w) λc L ⟨z,C,E,D,k,e,F⟩=>?_) t
 subst e
 cases D
 exact Ij ⟨C,E,F⟩
def HP(K:PySem.W.Frag)(x:V)(H:Hp)(k:Bool):Prop :=
 match x with
 | .non=>k=false
 | .bl b=>k=b
 | .int i=>k=(i != 0)
 | .str y=>y.length<=Ba/\k=((y.length:Int) != 0)
 | .byt y=>y.size<=Ba/\k=((y.size:Int) != 0)
 | .ref p=>(∃c,Ua K H p c/\k = !c.isEmpty)\/(∃c,Tr K H p c/\k = !c.isEmpty)\/∃a,H p=some (.dK a)/\k = !a.isEmpty
 | _=>False
theorem pI{b:Type}{a:List (b×V)}{vs:List (b×Value)}(r:KV a vs):(!vs.isEmpty) = !a.isEmpty:=by
 cases r <;> rfl
theorem cW{xs:List V}{a:List Value}(r:Fj xs a):(!a.toArray.isEmpty) = !xs.isEmpty:=by
 cases r <;> simp
theorem Xx:(Ba:Nat)<2 ^ 63:=by rw[Fn]; decide
theorem EU:KC X (λx H Q=>∃k,HP X.K x H k/\Q k H):=by
 intro u s C H x v Q I g h
 obtain ⟨k,e,q⟩:=h
 have B:=Xx
 have D:Ba=16777216:=Fn
 cases x with
 | non =>
  cases g
  have a:k=false:=e
  subst a
  exact truthy_none ⟨H,I,q⟩
 | bl b =>
  cases g
  have a:k=b:=e
  subst a
  exact Ij ⟨H,I,q⟩
 | int i =>
  obtain ⟨t,rfl⟩:=g
  have a:k=(i != 0):=e
  subst a
  exact PySem.P.truthy_int ⟨H,I,q⟩
 | str y =>
  obtain ⟨t,rfl⟩:=g
  obtain ⟨z,a⟩ : y.length<=Ba/\k=((y.length:Int) != 0):=e
  subst a
  exact PySem.P.truthy_str (by omega) ⟨H,I.tok _,q⟩
 | byt y =>
  obtain ⟨t,rfl⟩:=g
  obtain ⟨z,a⟩ : y.size<=Ba/\k=((y.size:Int) != 0):=e
  subst a
  exact PySem.W.truthy_bytes (by omega) ⟨H,I.tok _,q⟩
 | ref p =>
  cases g
  have a:(∃f,Ua X.K H p f/\k = !f.isEmpty)\/(∃f,Tr X.K H p f/\k = !f.isEmpty)\/∃c,H p=some (.dK c)/\k = !c.isEmpty:=e
  rcases a with ⟨f,j,a⟩ | ⟨f,j,a⟩ | ⟨c,j,a⟩
  ·subst a
   obtain ⟨n,r,l,o⟩:=I.list j
   have d:=r.length
   exact wpAny_truthy_list l.isList (by simp only[Av]; omega) ⟨H,I.tok _,by rw[cW r]; exact q⟩
  ·subst a
   obtain ⟨n,r,l,o⟩:=I.tuple j
   have d:=r.length
   exact truthy_tuple l (by simp only[Av]; omega) ⟨H,I.tok _,by rw[cW r]; exact q⟩
  ·subst a
   obtain ⟨o,A,vs,r,m⟩ : c.length<=Ba/\(p == sysModules)=false/\∃vs,KV c vs/\s.heap.DictOf (kE X.prog X.w) p vs:=I.hok p _ j
   have d:c.length=vs.length:=Paired.length r
   exact wpAny_truthy_dict A m (by omega) ⟨H,I.tok _,by rw[pI r]; exact q⟩
 | _=>exact (show False from e).elim
theorem B3(g:PE X a d)(f:∀b,isTrue a X.env b=(do let v <- b; Gp a.pos; Gf [v] (truthy v))) :
  PT X a (λe H Q=>d e H λx H'=>∃k,HP X.K x H' k/\Q k H'):=by
 intro c s e H Q I h
 exact isTrue_plain (Gy (g c s e H _ I h) λv n ⟨x,i,l,m,j⟩=>EU c n e i x v Q l m j) (f _)
theorem vals1{x:V}{us:List Value}(r:Fj [x] us):∃u,us=[u]/\RelV x u:=by
 cases r with
 | cons b a=>cases a; exact ⟨_,rfl,b⟩
theorem vals2{x y:V}{us:List Value}(r:Fj [x,y] us):∃u a,us=[u,a]/\RelV x u/\RelV y a:=by
 cases r with
 | cons d c =>
  cases c with
  | cons b e=>cases e; exact ⟨_,_,rfl,d,b⟩
def GY(K:PySem.W.Frag)(x:V)(H:Hp)(n:Nat):Prop :=
 match x with
 | .str y=>y.length<=Ba/\n=y.length
 | .byt y=>y.size<=Ba/\n=y.size
 | .ref p=>(∃a,Ua K H p a/\n=a.length)\/∃a,Tr K H p a/\n=a.length
 | _=>False
theorem mV:Na X (.builtin "len") (λxs H Q=>∃x n,xs=[x]/\GY X.K x H n/\Q (.int n) H):=by
 intro j s v H xs o Q I r h
 obtain ⟨x,n,rfl,e,q⟩:=h
 obtain ⟨u,rfl,d⟩:=vals1 r
 have m:=Xx
 have w:Ba=16777216:=Fn
 cases x with
 | str y =>
  obtain ⟨t,rfl⟩:=d
  obtain ⟨k,b⟩ : y.length<=Ba/\n=y.length:=e
  subst b
  exact len_str (by omega) ⟨.int _,H,I.tok _,⟨_,rfl⟩,q⟩
 | byt y =>
  obtain ⟨t,rfl⟩:=d
  obtain ⟨k,b⟩ : y.size<=Ba/\n=y.size:=e
  subst b
  exact PySem.W.len_bytes (by omega) ⟨.int _,H,I.tok _,⟨_,rfl⟩,q⟩
 | ref p =>
  cases d
  have b:(∃xs,Ua X.K H p xs/\n=xs.length)\/∃xs,Tr X.K H p xs/\n=xs.length:=e
  rcases b with ⟨xs,f,b⟩ | ⟨xs,f,b⟩
  ·subst b
   obtain ⟨i,c,g,l⟩:=I.list f
   have a:=c.length
   exact Calls.call_len_list g.isList (by simp only[Av]; omega) ⟨.int xs.length,H,I.tok _,⟨_,by simp only[Av]; rw[a]⟩,q⟩
  ·subst b
   obtain ⟨i,c,g,l⟩:=I.tuple f
   have a:=c.length
   exact len_tuple g (by simp only[Av]; omega) ⟨.int xs.length,H,I.tok _,⟨_,by simp only[Av]; rw[a]⟩,q⟩
 | _=>exact (show False from e).elim
end
structure ObjM(h:Heap)(x dx C:Addr)(mA:Str->Option Value):Prop where
 obj:h.get? x=some (PySem.W.instObj C dx)
 ns:h.Ns1 dx mA
 ne:dx≠x
theorem wA{h:Heap}{c:Addr}{f:Str->Option Value}(n:h.Ns1 c f):∃d,h.get? c=some d/\∀name,PySem.W.lookIn name d=some (f name):=by
 obtain ⟨o,g,r,m,j,l,_,k⟩:=n
 refine ⟨o,m,λname=>?_⟩
 have e:=k name
 unfold nsFind findBy at e
 rw[<- Array.find?_toList] at e
 unfold PySem.W.lookIn
 rw[j]
 dsimp only
 split
 ·rename_i y q
  rw[q] at e
  exact congrArg some e
 ·rename_i q
  rw[q] at e
  have a:g.toList.any (·.refKey)=false:=by
   rw[List.any_eq_false]
   intro y i
   obtain ⟨z,t,b⟩:=l y (Array.mem_toList_iff.mp i)
   simp [DictEntry.refKey,b]
  have p:¬ g.toList.any (·.refKey)=true:=by rw[a]; exact Hh
  rw[if_neg p]
  exact congrArg some e
theorem ObjM.look{h:Heap}{x b C:Addr}{c:Str->Option Value}(I:ObjM h x b C c):∃a,PySem.W.InstAt h x (PySem.W.instObj C b) C (some a)/\∀name,PySem.W.lookIn name a=some (c name) :=
 let ⟨a,ho,hl⟩:=wA I.ns
 ⟨a,⟨I.obj,rfl,rfl,ho⟩,hl⟩
section
variable{prog:Bk}{w:World}{A:Cf}{E:Value->Ak->Prop}{s:Ak}{K:PySem.W.Frag}{x c C f:Addr}{e:Str->Option Value}{name:Str}{v:Value}
theorem P5{a:Bool}{Q:Value->Ak->Prop}(X:K.In s.heap)(I:ObjM s.heap x c C e)(i:PySem.W.plainGet K C name=true)(f:PySem.W.hasDictIn K C=true)(d:PySem.W.findIn K (.ref C) name=some none)(hv:e name=some v)(b:PySem.W.handedIn v=true)(h:Q v { s with toks:=s.toks+1 }):wpAny (model prog w) A (getAttr (.ref x) name a) Q E s:=by
 obtain ⟨j,J,g⟩:=I.look
 exact PySem.W.get_value X J (PySem.W.plainGet_of i).1 (PySem.W.findObj_own f d rfl (by rw[g,hv])) b h
theorem B0{pl:Sem Bool}{Q:Value×List Value->Ak->Prop}(X:K.In s.heap)(I:ObjM s.heap x c C e)(a:PySem.W.plainGet K C name=true)(b:PySem.W.findIn K (.ref C) name=some (some (.ref f)))(g:PySem.W.isFn K (.ref f)=true)(hv:e name=none)(h:Q (.ref f,[.ref x]) s):wpAny (model prog w) A (Hr (.ref x) name pl) Q E s:=by
 obtain ⟨i,J,d⟩:=I.look
 exact PySem.W.method_fn X J (PySem.W.plainGet_of a).1 (PySem.W.plainGet_of a).2 b (beq_iff_eq.mp g) (by show (PySem.W.lookIn name i).map (·.isSome)=some false; rw[d,hv]; rfl) h
theorem V5{ns:List Str}{Q:Unit->Ak->Prop}(X:K.In s.heap)(I:ObjM s.heap x c C e)
  (m:PySem.W.findIn K (.ref C) "__setattr__" = some (some (.builtin "object.__setattr__"))) (q:PySem.W.plainOver K C=true) (u:PySem.W.takerIn K C name=some none) (t:PySem.W.hasDictIn K C=true)
  (hw:PySem.Within e ns) (o:ns.length<=Ba)
  (h:∀h',ObjM h' x c C (λy=>if y=name then some v else e y)->Dd c s.heap h'->Q () { s with heap:=h',toks:=s.toks+2 }) :
  wpAny (model prog w) A (setAttr (.ref x) name v) Q E s:=by
 obtain ⟨D,J,F⟩:=I.look
 refine PySem.W.set_plain X J m (PySem.W.osa_open (s:={ s with toks:=s.toks+1 }) (r:=none) X J q u λb=>?_)
 obtain ⟨G,l,g⟩:=PySem.W.any_some t
 have p:s.heap.get? x=some ⟨.ref C,some c,.plain,#[]⟩:=I.obj
 refine Aa (Am (Aa (Aa (wpAny_loadPart p (Aa (PySem.W.Looks.here (s:={ s with toks:=s.toks+1 }) (PySem.W.looks_clsIn X l) ?_))))))
 rw[g]
 refine Am (a:=some c) (Aa (Am (Aa ?_)))
 refine wpAny_nsSet1 (s:={ s with toks:=s.toks+1 }) I.ns λh' d f=>?_
 obtain ⟨B,z,n,i,k,j⟩:=d.count (PySem.Within.cons name v hw)
 refine Aa (wpAny_lookBehind i (by rw[k]; exact pastItsLine_dict (Bw j (by rw[Bp]; omega))) ?_)
 exact Am (h _ ⟨(f.2 _ (Lq I.ne)).trans I.obj,d,I.ne⟩ f)
theorem nZ{R:Result->Ak->Prop}{vs:List Value}{b:List (Str×Value)}(X:K.In s.heap)(e:PySem.W.makesIn K C=true)(i:PySem.W.findIn K (.ref C) "__init__" = some (some (.ref f)))(c:PySem.W.typeIn K (.ref f)=some (.type "function"))(h:Gw (model prog w) (A.under (.builtin "type.__call__" ⟨.ref C::vs,b⟩)) (.call (.ref f) ⟨.ref (s.heap.objs.size+1)::vs,b⟩) (PySem.W.InitBack (s.heap.objs.size+1) R) { s with heap:=(s.heap.push PySem.W.emptyDict).push (PySem.W.instObj C s.heap.objs.size) }):Gw (model prog w) A (.call (.ref C) ⟨vs,b⟩) R s:=by
 obtain ⟨j,g,d,t,os⟩:=s
 exact PySem.W.make_core (PySem.W.makes_of X e) (PySem.W.looks_findIn X i) (λa=>PySem.W.bind_fn X a c) (.inl rfl) h
end
def Ls(f:Str)(v:V):List (Str×V)->List (Str×V)
 | []=>[(f,v)]
 | (g,x)::r=>if g=f then (g,v)::r else (g,x)::Ls f v r
theorem Yv(f g:Str)(v:V):∀fs:List (Str×V),(Ls f v fs).lookup g=if g=f then some v else fs.lookup g
 | []=>by
  show Ec g [(f,v)]=_
  by_cases h:g=f
  ·have a:(g == f)=true:=beq_iff_eq.mpr h
   simp only[Ec,a,if_pos h]
  ·have a:(g == f)=false:=beq_eq_false_iff_ne.mpr h
   simp only[Ec,a,if_neg h]
 | (k,x)::r=>by
  have c:=Yv f g v r
  rw[show Ls f v ((k,x)::r)=(if k=f then (k,v)::r else (k,x)::Ls f v r) from rfl]
  by_cases b:k=f
  ·rw[if_pos b]
   by_cases h:g=k
   ·have a:(g == k)=true:=beq_iff_eq.mpr h
    simp only[Ec,a,if_pos (h.trans b)]
   ·have a:(g == k)=false:=beq_eq_false_iff_ne.mpr h
    simp only[Ec,a,if_neg (λe:g=f=>h (e.trans b.symm))]
  ·rw[if_neg b]
   by_cases h:g=k
   ·have a:(g == k)=true:=beq_iff_eq.mpr h
    simp only[Ec,a,if_neg (λe:g=f=>b (h.symm.trans e))]
   ·have a:(g == k)=false:=beq_eq_false_iff_ne.mpr h
    simp only[Ec,a]
    exact c
theorem Yh(f:Str)(v:V):∀fs:List (Str×V),f∈(Ls f v fs).map (·.1)/\∀g,g∈fs.map (·.1)->g∈(Ls f v fs).map (·.1)
 | []=>⟨by simp [Ls],λg h=>by simp at h⟩
 | (k,x)::r=>by
  obtain ⟨c,b⟩:=Yh f v r
  rw[show Ls f v ((k,x)::r)=(if k=f then (k,v)::r else (k,x)::Ls f v r) from rfl]
  by_cases a:k=f
  ·rw[if_pos a]
   subst a
   exact ⟨by simp,λg h=>by simpa using h⟩
  ·rw[if_neg a]
   refine ⟨?_,λg h=>?_⟩
   ·rw[Ap]
    exact Ah _ c
   ·rw[Ap] at h ⊢
    rcases Ai.mp h with e | e
    ·exact Ai.mpr (.inl e)
    ·exact Ah _ (b g e)
theorem Zd(f:Str)(v:V):∀fs:List (Str×V),(Ls f v fs).length<=fs.length+1
 | []=>by simp [Ls]
 | (k,x)::r=>by
  have b:=Zd f v r
  rw[show Ls f v ((k,x)::r)=(if k=f then (k,v)::r else (k,x)::Ls f v r) from rfl]
  by_cases a:k=f
  ·rw[if_pos a,Bp,Bp]; omega
  ·rw[if_neg a,Bp,Bp]; omega
theorem wR.some_of{v:V}{o:Option Value}(r:wR (some v) o):∃u,o=some u/\RelV v u:=by
 cases o with
 | none=>exact (show False from r).elim
 | some u=>exact ⟨u,rfl,r⟩
theorem wR.none_of{o:Option Value}(r:wR none o):o=none:=by
 cases o with
 | none=>rfl
 | some u=>exact (show False from r).elim
theorem yO{v:V}{u:Value}(r:RelV v u):PySem.W.handedIn u=true:=by
 cases v with
 | non=>cases (show u=Ib from r); rfl
 | bl b=>cases (show u=Value.bool b from r); rfl
 | int i=>obtain ⟨t,e⟩:=(show ∃t,u=Vj i t from r); cases e; rfl
 | str x=>obtain ⟨t,e⟩:=(show ∃t,u=Value.str x t from r); cases e; rfl
 | byt b=>obtain ⟨t,e⟩:=(show ∃t,u=Value.bytes b t from r); cases e; rfl
 | flt b=>obtain ⟨t,e⟩:=(show ∃t,u=Value.float b t from r); cases e; rfl
 | ref a=>cases (show u=Co a from r); rfl
 | ty n=>cases (show u=Kf n from r); rfl
section
variable{P:Bk}{w:World}{H H':Hp}{h h':Heap}{a C b:Addr}{fs c:List (Str×V)}
theorem aW(g:Zw P w H h)(e:H a=some (.ins C b fs)):∃c,ObjM h a b C c/\(∀f,wR (fs.lookup f) (c f))/\PySem.Within c (fs.map (·.1))/\fs.length<=1000/\H b=some (.own a):=by
 obtain ⟨d,z,i,j,c,n,r,q⟩:=(show Jt P w H h a (.ins C b fs) from g a _ e)
 exact ⟨c,⟨j,n,i⟩,r,q,z,d⟩
end
structure Cls(K:PySem.W.Frag)(C:Addr):Prop where
 pg:PySem.W.plainGet K C Str.empty=true
 hd:PySem.W.hasDictIn K C=true
 po:PySem.W.plainOver K C=true
 sa:PySem.W.findIn K (.ref C) "__setattr__" = some (some (.builtin "object.__setattr__"))
theorem Cls.get{K:PySem.W.Frag}{C:Addr}(c:Cls K C)(f:Str):PySem.W.plainGet K C f=true:=c.pg
def Qy(K:PySem.W.Frag)(C:Addr)(f:Str):Prop:=PySem.W.findIn K (.ref C) f=some none
theorem Qy.taker{K:PySem.W.Frag}{C:Addr}{f:Str}(n:Qy K C f):PySem.W.takerIn K C f=some none:=by
 unfold PySem.W.takerIn
 rw[show PySem.W.findIn K (.ref C) f=some none from n]
 rfl
structure Meth(K:PySem.W.Frag)(C:Addr)(m:Str)(f:Addr):Prop where
 at_:PySem.W.findIn K (.ref C) m=some (some (.ref f))
 fn:PySem.W.isFn K (.ref f)=true
 kp:PySem.W.keepIn K (.ref f)=true
section
variable{X:Cx}{d:List (Addr×Obj)}{i:St}{H:Hp}{s:Ak}{a C j:Addr}{fs:List (Str×V)}{f:Str}{v:V}{A:Cf}{E:Value->Ak->Prop}
theorem sI{b:Bool}{Q:Value->Ak->Prop}(I:Inv X d i H s)(e:H a=some (.ins C j fs))(c:Cls X.K C)(n:Qy X.K C f)(l:fs.lookup f=some v)(h:∀u s',Inv X d i H s'->RelV v u->Q u s'):wpAny (model X.prog X.w) A (getAttr (.ref a) f b) Q E s:=by
 obtain ⟨k,O,r,_,_,_⟩:=aW I.hok e
 obtain ⟨u,m,g⟩:=wR.some_of (v:=v) (o:=k f) (by rw[<- l]; exact r f)
 exact P5 I.kIn O (c.get f) c.hd n m (yO g) (h u _ (I.tok _) g)
theorem Um{m:Str}{g:Addr}{pl:Sem Bool}{Q:Value×List Value->Ak->Prop}(I:Inv X d i H s)(e:H a=some (.ins C j fs))(c:Cls X.K C)(k:Meth X.K C m g)(l:fs.lookup m=none)(h:Q (.ref g,[.ref a]) s):wpAny (model X.prog X.w) A (Hr (.ref a) m pl) Q E s:=by
 obtain ⟨f,O,r,_,_,_⟩:=aW I.hok e
 have b:f m=none:=wR.none_of (by rw[<- l]; exact r m)
 exact B0 I.kIn O (c.get m) k.at_ k.fn b h
theorem rA{y:V}{u:Value}{Q:Unit->Ak->Prop}(I:Inv X d i H s)(e:H a=some (.ins C j fs))(c:Cls X.K C)(n:Qy X.K C f)(L:fs.length<1000)(F:RelV y u)(h:∀s',Inv X d i (upd H a (.ins C j (Ls f y fs))) s'->Q () s'):wpAny (model X.prog X.w) A (setAttr (.ref a) f u) Q E s:=by
 obtain ⟨p,O,r,l,_,m⟩:=aW I.hok e
 have t:(fs.map (·.1)).length<=Ba:=by rw[Af,Fn]; omega
 refine V5 I.kIn O c.sa c.po n.taker c.hd l t λv k G=>h _ ?_
 have B:∃o,v.get? j=some o:=let ⟨o,_,_,e',_⟩:=k.ns; ⟨o,e'⟩
 refine I.write (x:=a) (e:=j) (by rw[e]; exact Ph) (.inr m) (λb q D z=>(G.2 b D).trans z) B ?_
 refine ⟨by rw[Cn O.ne]; exact m,?_,O.ne,k.obj,_,k.ns,λg=>?_,λg J=>?_⟩
 ·have:=Zd f y fs; omega
 ·show wR ((Ls f y fs).lookup g) (if g=f then some u else p g)
  rw[Yv]
  by_cases q:g=f
  ·rw[if_pos q,if_pos q]; exact F
  ·rw[if_neg q,if_neg q]; exact r g
 ·by_cases q:g=f
  ·rw[q]; exact (Yh f y fs).1
  ·refine (Yh f y fs).2 g (l g λz=>J ?_)
   show (if g=f then some u else p g)=none
   rw[if_neg q]; exact z
theorem Inv.made(I:Inv X d i H s):Inv X d i (upd (upd H s.heap.objs.size (.own (s.heap.objs.size+1))) (s.heap.objs.size+1) (.ins C s.heap.objs.size [])) { s with heap:=(s.heap.push PySem.W.emptyDict).push (PySem.W.instObj C s.heap.objs.size) }:=by
 have f:(s.heap.push PySem.W.emptyDict).get? s.heap.objs.size=some PySem.W.emptyDict:=Be s.heap rfl
 have j:((s.heap.push PySem.W.emptyDict).push (PySem.W.instObj C s.heap.objs.size)).get? (s.heap.objs.size+1)=some (PySem.W.instObj C s.heap.objs.size):=by
  have:=Be (s.heap.push PySem.W.emptyDict) (o:=PySem.W.instObj C s.heap.objs.size) rfl
  rwa [Gz] at this
 have k:(s.heap.push PySem.W.emptyDict).Ns s.heap.objs.size (λ_=>none):=⟨PySem.W.emptyDict,#[],_,f,rfl,(λe h=>absurd h (by simp)),λ_=>rfl⟩
 have l:=I.laid (a:=s.heap.objs.size) (o:=.own (s.heap.objs.size+1)) (h':=s.heap.push PySem.W.emptyDict) (t':=s.toks) (λb u q=>Aq _ q) (Au _) ⟨_,f⟩
 refine l.laid (a:=s.heap.objs.size+1) (o:=.ins C s.heap.objs.size []) (t':=s.toks) (λb u q=>Aq _ q) (Nat.le_of_eq (Gz _ _)) ?_
 have c:s.heap.objs.size≠s.heap.objs.size+1:=Cj (Nf _)
 refine ⟨by rw[Cn c,Cg],Cw _,c,j,λ_=>none,(Heap.Ns1.of_empty k).at λo q=>Aq _ q,λ_=>Ph,λy g=>absurd rfl g⟩
theorem N7{prog:Bk}{w:World}{env:Env}{e:Expr}{f:Str}{pos:Pos}{s:Ak}{Q:Value->Ak->Prop}(hb:Ff e f env (eval e env)=eval e env)(h:wpAny (model prog w) A (eval e env) (λo a=>wpAny (model prog w) A (getAttr o f true) Q E a) E s):wpAny (model prog w) A (eval (.Attribute e f pos) env) Q E s :=
 Attribute_any_ h (by rw[arm_eval_Attribute,hb])
end
def JW(K:PySem.W.Frag)(c:TE)(f:Str):TE:=λe H Q=>c e H λx b=>∃a C d fs v,x=.ref a/\b a=some (.ins C d fs)/\Cls K C/\Qy K C f/\fs.lookup f=some v/\Q v b
def KJ(K:PySem.W.Frag)(g h:TE)(f:Str):TS:=λD b H=>h b H λy e=>g b e λx d=>∃a C c fs,x=.ref a/\d a=some (.ins C c fs)/\Cls K C/\Qy K C f/\fs.length<1000 /\
 D.nx b (upd d a (.ins C c (Ls f y fs)))
section
variable{X:Cx}{o e b:Expr}{f:Str}{pos pos' g:Pos}{d i:TE}
theorem cP(j:PE X e d)(hb:Ff e f X.env (eval e X.env)=eval e X.env):PE X (.Attribute e f pos) (JW X.K d f):=by
 intro b s p H Q I h
 refine N7 hb (Gy (j b s p H _ I h) λu A g => ?_)
 obtain ⟨x,k,m,r,a,C,w,fs,v,ex,t,c,n,l,q⟩ := g
 subst ex
 obtain rfl:u=Co a:=r
 exact sI m t c n l λy z i o=>⟨v,k,i,o,q⟩
theorem jI(k:PE X o d)(hv:PE X b i)(w:El b (some (.Attribute o f pos')) pos.line X.env=pure false):PS X (.Assign [.Attribute o f pos'] b pos) (KJ X.K d i f):=by
 intro e s g H D I h
 refine plainObj_wpAny_Assign_Attribute (Gy (hv e s g H _ I h) λu B ⟨y,m,r,v,q⟩=>Gy (k e B g m _ r q) λA L ⟨x,G,j,z,a,C,F,fs,ex,E,c,n,l,t⟩=>?_) w
 subst ex
 obtain rfl:A=Co a:=z
 exact rA j E c n l v λJ p=>⟨g,_,p,t⟩
end
section
variable{X:Cx}{d:List (Addr×Obj)}{f:St}{H:Hp}{s:Ak}{A:Cf}{E:Value->Ak->Prop}{Q:Value->Ak->Prop}{c:Value}{b:Bool}
inductive TyOf (K:PySem.W.Frag) (H:Hp):V->Value->Prop where
 | non:TyOf K H .non (.type "NoneType")
 | bl (x:Bool):TyOf K H (.bl x) (.type "bool")
 | int (i:Int):TyOf K H (.int i) (.type "int")
 | str (x:Str):TyOf K H (.str x) (.type "str")
 | flt (x:UInt64):TyOf K H (.flt x) (.type "float")
 | lst {a:Addr} {xs:List V} (e:H a=some (.lst xs)):TyOf K H (.ref a) (.type "list")
 | frz {a:Addr} {o:Obj} {xs:List V} (e:H a=some (.frz o (.lst xs))):TyOf K H (.ref a) (.type "list")
 | tup {a:Addr} {xs:List V} (e:H a=some (.tup xs)):TyOf K H (.ref a) (.type "tuple")
 | dK {a:Addr} {kvs:List (aM×V)} (e:H a=some (.dK kvs)):TyOf K H (.ref a) (.type "dict")
 | dT {a:Addr} {kvs:List (List aM×V)} (e:H a=some (.dT kvs)):TyOf K H (.ref a) (.type "dict")
 | ins {a C dx:Addr} {fs:List (Str×V)} (e:H a=some (.ins C dx fs)) (cl:Cls K C) (ha:PySem.W.findIn K (.ref C) "__class__" = some (some (.builtin "object.__class__")))
   (hn:PySem.W.specialIn K (.builtin "object.__class__") "__get__" = some (some (.builtin "getset_descriptor.__get__"))) (htk:PySem.W.takesIn K (.builtin "object.__class__")=some true)
   (hm:PySem.W.mroIn K C (.type "object")=some true):TyOf K H (.ref a) (.ref C)
theorem yC{x:V}{u t:Value}(I:Inv X d f H s)(g:RelV x u)(ty:TyOf X.K H x t)(e:PySem.W.kitOne X.K t c=some b)(h:∀L,Q (.bool b) { s with toks:=L }):wpAny (model X.prog X.w) A (call (.builtin "isinstance") [u,c]) Q E s:=by
 cases ty with
 | non=>cases (show u=Ib from g); exact PySem.W.kia_one PySem.W.kitx_none I.kIn Ph e (λz=>nomatch z) h
 | bl y=>cases (show u=Value.bool y from g); exact PySem.W.kia_one PySem.W.kitx_bool I.kIn Ph e (λz=>nomatch z) h
 | int i=>obtain ⟨t,q⟩:=(show ∃t,u=Vj i t from g); cases q; exact PySem.W.kia_one PySem.W.kitx_int I.kIn Ph e (λz=>nomatch z) h
 | str y=>obtain ⟨t,q⟩:=(show ∃t,u=Value.str y t from g); cases q; exact PySem.W.kia_one PySem.W.kitx_str I.kIn Ph e (λz=>nomatch z) h
 | flt y=>obtain ⟨t,q⟩:=(show ∃t,u=Value.float y t from g); cases q; exact PySem.W.kia_one PySem.W.kitx_float I.kIn Ph e (λz=>nomatch z) h
 | @lst a m j =>
  cases (show u=Co a from g)
  obtain ⟨_,_,n,_,k⟩:=(show Jt X.prog X.w H s.heap a (.lst m) from I.hok a _ j)
  exact PySem.W.kia_one PySem.W.kitx_list I.kIn ⟨_,k,rfl⟩ e (λz=>nomatch z) h
 | @frz a D m j =>
  cases (show u=Co a from g)
  obtain ⟨_,_,_,n,_,k⟩:=(show Jt X.prog X.w H s.heap a (.frz D (.lst m)) from I.hok a _ j)
  exact PySem.W.kia_one PySem.W.kitx_list I.kIn ⟨_,k,rfl⟩ e (λz=>nomatch z) h
 | @tup a m j =>
  cases (show u=Co a from g)
  obtain ⟨_,_,_,p⟩:=(show Jt X.prog X.w H s.heap a (.tup m) from I.hok a _ j)
  obtain ⟨o,k,r,_⟩:=p
  exact PySem.W.kia_one PySem.W.kitx_tuple I.kIn ⟨o,k,r⟩ e (λz=>nomatch z) h
 | @dK a l j =>
  cases (show u=Co a from g)
  obtain ⟨_,_,vs,_,p⟩:=(show Jt X.prog X.w H s.heap a (.dK l) from I.hok a _ j)
  obtain ⟨o,P,N,k,r,_⟩:=p
  exact PySem.W.kia_one PySem.W.kitx_dict I.kIn ⟨o,k,r.1⟩ e (λz=>nomatch z) h
 | @dT a l j =>
  cases (show u=Co a from g)
  obtain ⟨_,_,m,_,o,P,N,k,r,_⟩:=(show Jt X.prog X.w H s.heap a (.dT l) from I.hok a _ j)
  exact PySem.W.kia_one PySem.W.kitx_dict I.kIn ⟨o,k,r.1⟩ e (λz=>nomatch z) h
 | @ins a C R fs j B F M v G =>
  cases (show u=Co a from g)
  obtain ⟨T,O,_⟩:=aW I.hok j
  obtain ⟨S,J,_⟩:=O.look
  exact PySem.W.kia_one (PySem.W.kitx_own (B.get _) B.hd F M v G) I.kIn J e (λz=>nomatch z) h
end
structure Room(k:Nat)(A:Cf):Prop where
 hd:A.handled=none
 dp:A.depth+3 * k+5<recursionLimit
 un:A.units+16 * k+200<cLine
 gd:A.guards=some []
theorem Room.mono{j k:Nat}{A:Cf}(r:Room k A)(h:j<=k):Room j A:=⟨r.hd,by have:=r.dp; omega,by have:=r.un; omega,r.gd⟩
theorem Room.deeper{k:Nat}{A:Cf}(r:Room (k+1) A)(env:Env):Room k (A.deeper env) :=
 ⟨r.hd,by have:=r.dp; show A.depth+1+3 * k+5<_; omega,by have:=r.un; show A.units+3+16 * k+200<_; omega,r.gd⟩
theorem rQ{A:Cf}{C:Addr}{us:List Value}{a:List (Str×Value)}:(A.under (.builtin "type.__call__" ⟨.ref C::us,a⟩)).depth=A.depth+1:=by
 first | rfl | simp [Ys,Code.weight,Code.isCreation,Code.isGuard,Code.isCaller,Code.frames,Code.isFrame,guardIds]
theorem qN{A:Cf}{C:Addr}{us:List Value}{a:List (Str×Value)}:(A.under (.builtin "type.__call__" ⟨.ref C::us,a⟩)).units=A.units+1:=by
 first | rfl | simp [Ys,Code.cUnits,Code.frames,Code.isFrame]
theorem nM{A:Cf}{C:Addr}{us:List Value}{a:List (Str×Value)}:(A.under (.builtin "type.__call__" ⟨.ref C::us,a⟩)).guards=A.guards:=by
 cases h:A.guards <;> simp [Ys,pushGuards,Code.guards,Code.isGuard,guardIds,h]
theorem Room.make{k:Nat}{A:Cf}(r:Room (k+1) A)(C:Addr)(us:List Value)(a:List (Str×Value)):Room k (A.under (.builtin "type.__call__" ⟨.ref C::us,a⟩)) :=
 ⟨r.hd,by have:=r.dp; rw[rQ]; omega,by have:=r.un; rw[qN]; omega,by rw[nM]; exact r.gd⟩
theorem Room.depth{k:Nat}{A:Cf}(r:Room k A):A.depth<recursionLimit:=by have:=r.dp; omega
theorem Room.units{k:Nat}{A:Cf}(r:Room k A):A.units+64<cLine:=by have:=r.un; omega
def HM:TA:=λ_ H Q=>Q [] H
def Y5(f:TE)(e:TA):TA:=λa H Q=>f a H λx d=>e a d λb c=>Q (x::b) c
section
variable{X:Cx}{e:Expr}{es:List Expr}{a:TE}{t:TA}{pos:Pos}
theorem Ir:PA X [] HM:=λ_ _ _ _ H Q I h=>Calls.spliced_nil ⟨[],H,I,.nil,h⟩
theorem Do(j:PE X e a)(m:PA X es t)(r:An (e::es) X.env=(false,eval e X.env)::An es X.env:=by rfl):PA X (e::es) (Y5 a t):=by
 intro pos b s d H Q I h
 rw[r]
 show wpAny _ _ (spliced ((false,eval e X.env)::Cq pos (An es X.env))) _ _ s
 refine Calls.spliced_cons (Gy (j b s d H _ I h) λu p c => ?_)
 obtain ⟨x,k,n,q,l⟩ := c
 exact Gy (m pos b p d k _ n l) λy w ⟨g,i,f,v,o⟩=>⟨x::g,i,f,.cons q v,o⟩
def KI(t:TA):TE:=λc H Q=>t c H λa b=>a.length<=Ba/\∀p,b p=none->Q (.ref p) (upd b p (.tup a))
def LY(t:TA):TE:=λc H Q=>t c H λa b=>a.length<=Ba/\∀p,b p=none->Q (.ref p) (upd b p (.lst a))
theorem K6{x1}(h:PA X es t):PE X (.Tuple es x1 pos) (KI t):=by
 intro a s j H Q I k
 refine wpAny_Tuple_spliced (Gy (h pos a s j H _ I k) λl c ⟨i,d,f,r,z,q⟩=>⟨by rw[<- r.length]; exact z,?_⟩)
 have g:d c.heap.objs.size=none:=f.hok.fresh (Au _)
 refine ⟨.ref c.heap.objs.size,upd d c.heap.objs.size (.tup i),f.laid (t':=c.toks) (λb u e=>Aq _ e) (Au _) ?_,rfl,q _ g⟩
 exact ⟨z,l,r,⟨_,Be _ rfl,rfl,_,rfl⟩⟩
theorem Yi(h:PA X es t):PE X (.List es pos) (LY t):=by
 intro a s j H Q I k
 refine wpAny_List_spliced (Gy (h pos a s j H _ I k) λl c ⟨i,d,f,r,z,q⟩=>⟨by rw[<- r.length]; exact z,?_⟩)
 have g:d c.heap.objs.size=none:=f.hok.fresh (Au _)
 refine ⟨.ref c.heap.objs.size,upd d c.heap.objs.size (.lst i),f.laid (t':=c.toks) (λb u e=>Aq _ e) (Au _) ?_,rfl,q _ g⟩
 exact ⟨z,l,0,r,Be _ rfl⟩
end
abbrev Sp:=List V->Hp->VK->XK->Prop
abbrev eL:=List Env->Hp->Ak->XK->Value->Ak->Prop
structure Env0(P:Bk)(w:World)(K:PySem.W.Frag)(mg:Str->Option Value)(base:Heap)(A:Cf)(outer:List Env)(s:Ak)(H:Hp):Prop where
 frames:A.frames=some outer
 mod:Mod K mg base
 bs:∀b o,base.get? b=some o->s.heap.get? b=some o/\H b=none
 bsz:base.objs.size<=s.heap.objs.size
 funs:s.heap.FunFrames base outer
 frf:∀b∈Ws outer,H b=none
 hok:Zw P w H s.heap
 bare:Qp s.gens
 tab:G3 K mg base H
def CE(outer:List Env)(P:Bk)(w:World)(H:Hp)(s:Ak)(Q:VK)(u:Value)(s':Ak):Prop :=
 ∃v a,s'.os=s.os/\Qp s'.gens/\Un (Ws outer) [] H a s.heap s'.heap/\Zw P w a s'.heap/\RelV v u/\Q v a
def CR(CX:eL)(outer:List Env)(P:Bk)(w:World)(H:Hp)(s:Ak)(Q:VK)(E:XK)(r:Result)(s':Ak):Prop :=
 match r with
 | .ok (.ret u)=>CE outer P w H s Q u s'
 | .ok _=>False
 | .error e=>CX outer H s E e s'
structure FnOk(P:Bk)(w:World)(K:PySem.W.Frag)(mg:Str->Option Value)(base:Heap)(CX:eL)(k:Nat)(f:Addr)(fd:Bj)(ps:List Str)(sp:Sp):Prop where
 len:∀vs H Q E,sp vs H Q E->vs.length=ps.length
 run:∀(A:Cf) (outer:List Env) (s:Ak) (H:Hp) (args:Args) (us:List Value) (vs:List V) (Q:VK) (E:XK),Room k A->Env0 P w K mg base A outer s H->BindsTo s fd args (ps.zip us)->Fj vs us->sp vs H Q E ->
  Gw (model P w) A (.call (.ref f) args) (CR CX outer P w H s Q E) s
theorem FnOk.imp{P:Bk}{w:World}{K:PySem.W.Frag}{mg:Str->Option Value}{base:Heap}{CX:eL}{k:Nat}{f:Addr}{d:Bj}{ps:List Str}{sp b:Sp}(F:FnOk P w K mg base CX k f d ps sp)(h:∀vs H Q E,b vs H Q E->sp vs H Q E):FnOk P w K mg base CX k f d ps b :=
 ⟨λvs H Q E q=>F.len vs H Q E (h _ _ _ _ q),λA a s H c l vs Q E i e g m j=>F.run A a s H c l vs Q E i e g m (h _ _ _ _ j)⟩
theorem Env0.make{P:Bk}{w:World}{K:PySem.W.Frag}{mg:Str->Option Value}{base:Heap}{A:Cf}{outer:List Env}{s:Ak}{H:Hp}(e:Env0 P w K mg base A outer s H)(C:Addr)(us:List Value)(a:List (Str×Value)):Env0 P w K mg base (A.under (.builtin "type.__call__" ⟨.ref C::us,a⟩)) outer s H:=⟨by first | exact e.frames | (simpa [Ys,Code.envs,Code.isFrame,pushEnvs] using e.frames),e.mod,e.bs,e.bsz,e.funs,e.frf,e.hok,e.bare,e.tab⟩
section
variable{X:Cx}{a:List (Addr×Obj)}{c:St}{H:Hp}{s s':Ak}
theorem Inv.env0(I:Inv X a c H s):Env0 X.prog X.w X.K X.mg X.base X.A X.stack s H :=
 ⟨I.ok.frames,I.ok.mod,I.bs,Bw I.ok.bsz I.sz,I.stack,I.stkFree,I.hok,I.bare,I.ok.tab.un I.base⟩
theorem Inv.after{Q:VK}{u:Value}(I:Inv X a c H s)(h:CE X.stack X.prog X.w H s Q u s'):EP X a c Q u s':=by
 obtain ⟨v,k,os,e,un,f,r,q⟩:=h
 obtain ⟨j,g,d,t,i⟩:=s'
 obtain rfl:i=s.os:=os
 exact ⟨v,k,I.call (h':=j) (g':=g) (d':=d) (t':=t) (ch:=[]) un f e (λb z=>absurd z (by simp)),r,q⟩
end
def IJ(sp:Sp)(a:List V)(E:XK)(t:TA):TE:=λb H Q=>t b H λvs c=>sp (vs++a) c Q E
def x9(C:Addr)(m:Str)(sp:Sp)(b:List V)(E:XK)(g:TE)(t:TA):TE:=λd H Q=>g d H λx c=>∃a e fs,x=.ref a/\c a=some (.ins C e fs)/\fs.lookup m=none /\
 t d c λvs f=>sp (x::(vs++b)) f Q E
def AG(C:Addr)(sp:Sp)(c:List V)(E:XK)(t:TA):TE:=λe H Q=>t e H λvs b=>∀x a,b x=none->b a=none->a≠x ->
 sp (.ref x::(vs++c)) (upd (upd b a (.own x)) x (.ins C a [])) (λv d=>v=.non/\Q (.ref x) d) E
def Binds(K:PySem.W.Frag)(b:Bj)(ps:List Str)(ds:List Value):Prop :=
 ∀(s:Ak) (a:List Value),K.In s.heap->(a++ds).length=ps.length->BindsTo s b ⟨a,[]⟩ (ps.zip (a++ds))
theorem Binds.all{K:PySem.W.Frag}{a:Bj}{ps:List Str}(h:∀us:List Value,us.length=ps.length->bindArgs a ⟨us,[]⟩=pure (ps.zip us)):Binds K a ps []:=λs us _ b=>by
 rw[Bo] at b ⊢
 exact .of_eq (h us b)
def Fu(CX:eL)(X:Cx)(E:XK):Prop:=∀(a:List (Addr×Obj)) (c:St) (H:Hp) (s:Ak) (e:Value) (b:Ak),Inv X a c H s->CX X.stack H s E e b->X.xe e b
section
variable{X:Cx}{CX:eL}{k:Nat}{f C:Addr}{g:Bj}{ps:List Str}{sp:Sp}{b:List V}{ds:List Value}{E:XK}{x m:Str}{p pos d:Pos}{e o:Expr}{es:List Expr}{i:TE}{t:TA}
theorem rW{a:List (Addr×Obj)}{d:St}{H:Hp}{s:Ak}{Q:VK}{us:List Value}{vs:List V}(F:FnOk X.prog X.w X.K X.mg X.base CX k f g ps sp)(n:Room k X.A)(hb:Binds X.K g ps ds)(hd:Fj b ds)(o:Fu CX X E)(I:Inv X a d H s)(r:Fj vs us)(h:sp (vs++b) H Q E):wpAny (model X.prog X.w) X.A (call (.ref f) us) (EP X a d Q) X.xe s:=by
 have i:Fj (vs++b) (us++ds):=r.append hd
 have l:(us++ds).length=ps.length:=by rw[<- i.length]; exact F.len _ _ _ _ h
 refine Vo (Il (F.run X.A X.stack s H ⟨us,[]⟩ (us++ds) (vs++b) Q E n I.env0 (hb s us I.kIn l) i h) λr j c=>?_)
 cases r with
 | error e=>exact o a d H s e j I c
 | ok m =>
  cases m with
  | ret u=>exact I.after c
  | next=>exact Di c
  | brk=>exact Di c
  | cont=>exact Di c
theorem Os(F:FnOk X.prog X.w X.K X.mg X.base CX k f g ps sp)(m:Room k X.A)(y:Gl X x)(n:X.mg x=some (.ref f))(u:PySem.W.keepIn X.K (.ref f)=true)(hb:Binds X.K g ps ds)(hd:Fj b ds)(v:Fu CX X E)(l:PA X (e::es) t)(c:(x == ("__debug__" : Str))=false:=by decide)(j:An (e::es) X.env=(false,eval e X.env)::An es X.env:=by rfl)(d:(Cq pos (An es X.env)).any (·.1)=false:=by rfl):PE X (.Call (.Name x p) (e::es) [] pos) (IJ sp b E t):=by
 intro a s o H Q I h
 refine Jx (Rh I y n ?_ c)
 refine PySem.W.callWith_K (h₀:=X.base) I.ok.mod.kin u (Gy (l pos a s o H _ I h) λC B ⟨vs,z,i,r,q⟩=>⟨i.kIn,?_⟩) j d
 exact rW F m hb hd v i r q
theorem R5{pl:Sem Bool}(D:PE X o i)(c:Cls X.K C)(B:Meth X.K C m f)(F:FnOk X.prog X.w X.K X.mg X.base CX k f g ps sp)(J:Room k X.A)(hb:Binds X.K g ps ds)(hd:Fj b ds)(O:Fu CX X E)(L:PA X (e::es) t)
  (n:An (e::es) X.env=(false,eval e X.env)::An es X.env:=by rfl) (p:(Cq pos (An es X.env)).any (·.1)=false:=by rfl)
  (R:eval (.Call (.Attribute o m d) (e::es) [] pos) X.env=(do
   let ov <- eval o X.env
   Gp d.atName
   let (f,first) <- Gf [ov] (Hr ov m pl)
   Lc pos f first (Cq pos (An (e::es) X.env)) (Hu pos (Fd [] X.env))):=by rfl) :
  PE X (.Call (.Attribute o m d) (e::es) [] pos) (x9 C m sp b E i t):=by
 intro j s z H Q I h
 refine PySem.W.methodCall_KW (pl:=pl) (Gy (D j s z H _ I h) λu S ⟨x,G,y,N,a,V,fs,ex,P,l,q⟩=>?_) R
 subst ex
 obtain rfl:u=Co a:=N
 refine Um y P c B l ?_
 refine PySem.W.callWith_K (first:=[.ref a]) (h₀:=X.base) I.ok.mod.kin B.kp (Gy (L pos j S z G _ y q) λus U ⟨vs,T,v,r,M⟩=>⟨v.kIn,?_⟩) n p
 exact rW (us:=.ref a::us) (vs:=.ref a::vs) F J hb hd O v (.cons rfl r) M
theorem zE{pl:Sem Bool}(p:PE X o i)(c:Cls X.K C)(n:Meth X.K C m f)(F:FnOk X.prog X.w X.K X.mg X.base CX k f g ps sp)(r:Room k X.A)(hb:Binds X.K g ps ds)(hd:Fj b ds)(z:Fu CX X E)
  (v:eval (.Call (.Attribute o m d) [] [] pos) X.env=(do
   let ov <- eval o X.env
   Gp d.atName
   let (f,first) <- Gf [ov] (Hr ov m pl)
   Lc pos f first (Cq pos (An [] X.env)) (Hu pos (Fd [] X.env))):=by rfl) :
  PE X (.Call (.Attribute o m d) [] [] pos) (x9 C m sp b E i HM):=by
 intro e s t H Q I h
 refine PySem.W.methodCall_KW (pl:=pl) (Gy (p e s t H _ I h) λu J ⟨x,G,j,y,a,D,fs,ex,B,l,q⟩=>?_) v
 subst ex
 obtain rfl:u=Co a:=y
 refine Um j B c n l ?_
 exact PySem.W.callWith_K0 (first:=[.ref a]) j.kIn n.kp (rW (us:=[.ref a]) (vs:=[.ref a]) F r hb hd z j (.cons rfl .nil) q)
structure Mk(K:PySem.W.Frag)(C f:Addr):Prop where
 makes:PySem.W.makesIn K C=true
 init:PySem.W.findIn K (.ref C) "__init__" = some (some (.ref f))
 fn:PySem.W.isFn K (.ref f)=true
 kp:PySem.W.keepIn K (.ref C)=true
theorem i6{a:List (Addr×Obj)}{j:St}{H:Hp}{s:Ak}{Q:VK}{us:List Value}{vs:List V}(M:Mk X.K C f)(F:FnOk X.prog X.w X.K X.mg X.base CX k f g ps sp)(z:Room (k+1) X.A)(hb:Binds X.K g ps ds)(hd:Fj b ds)(D:Fu CX X E)(I:Inv X a j H s)(r:Fj vs us)(h:∀x i,H x=none->H i=none->i≠x->sp (.ref x::(vs++b)) (upd (upd H i (.own x)) x (.ins C i [])) (λv o=>v=.non/\Q (.ref x) o) E):wpAny (model X.prog X.w) X.A (call (.ref C) us) (EP X a j Q) X.xe s:=by
 have l:=h (s.heap.objs.size+1) s.heap.objs.size (I.hok.fresh (Vt _)) (I.hok.fresh (Au _)) (Cj (Nf _))
 have d:=Inv.made (C:=C) I
 have m:Fj (V.ref (s.heap.objs.size+1)::(vs++b)) (Co (s.heap.objs.size+1)::(us++ds)):=.cons rfl (r.append hd)
 have q:(Co (s.heap.objs.size+1)::us++ds).length=ps.length:=by
  have e:=m.length
  rw[F.len _ _ _ _ l] at e
  exact e.symm
 refine Vo (nZ (f:=f) I.kIn M.makes M.init (beq_iff_eq.mp M.fn) (Il (F.run _ X.stack _ _ ⟨Co (s.heap.objs.size+1)::us,[]⟩ (Co (s.heap.objs.size+1)::(us++ds)) _ _ E (z.make C us [])
  (d.env0.make C us []) (hb _ (Co (s.heap.objs.size+1)::us) d.kIn q) m l) λr n c=>?_))
 cases r with
 | error e=>exact D a j _ _ e n d c
 | ok t =>
  cases t with
  | ret u =>
   obtain ⟨v,J,y,p,G,B⟩:=d.after c
   subst G
   exact ⟨p,⟨V.ref (s.heap.objs.size+1),J,y,rfl,B⟩⟩
  | next=>exact Di c
  | brk=>exact Di c
  | cont=>exact Di c
theorem P7(M:Mk X.K C f)(F:FnOk X.prog X.w X.K X.mg X.base CX k f g ps sp)(m:Room (k+1) X.A)(v:Gl X x)(n:X.mg x=some (.ref C))(hb:Binds X.K g ps ds)(hd:Fj b ds)(u:Fu CX X E)(l:PA X (e::es) t)(c:(x == ("__debug__" : Str))=false:=by decide)(j:An (e::es) X.env=(false,eval e X.env)::An es X.env:=by rfl)(d:(Cq pos (An es X.env)).any (·.1)=false:=by rfl):PE X (.Call (.Name x p) (e::es) [] pos) (AG C sp b E t):=by
 intro a s o H Q I h
 refine Jx (Rh I v n ?_ c)
 refine PySem.W.callWith_K (h₀:=X.base) I.ok.mod.kin M.kp (Gy (l pos a s o H _ I h) λB z ⟨vs,y,i,r,q⟩=>⟨i.kIn,?_⟩) j d
 exact i6 M F m hb hd u i r q
end
structure FnScope(N P:List Str)(sc:Scope):Prop where
 kind:sc.kind=.function
 co:sc.isCoroutine=false
 gen:sc.isGenerator=false
 nd:N.Nodup
 pre:N.take P.length=P
 par:∀x∈P,sc.names.lookup x=some .local\/sc.names.lookup x=some .cell
 nofree:∀y∈sc.names,y.2≠.free
theorem fW{kindOf:Str->Option Pa}{x:Str}:∀{binds:List (Str×Value)} {m:Str->Option Value},(∀v,(x,v)∉binds)->bindL kindOf binds m x=m x
 | [],_,_=>rfl
 | (n,v)::r,m,h=>by
  unfold bindL
  rw[fW λw a=>h w (Ah _ a)]
  split
  ·have : x≠n:=by rintro rfl; exact h v Ab
   simp [this]
  ·rfl
theorem gW{kindOf:Str->Option Pa}{x:Str}:∀{binds:List (Str×Value)} {m:Str->Option Value},(∀v,(x,v)∉binds)->bindC kindOf binds m x=m x
 | [],_,_=>rfl
 | (n,v)::r,m,h=>by
  unfold bindC
  rw[gW λw a=>h w (Ah _ a)]
  split
  ·rfl
  ·have : x≠n:=by rintro rfl; exact h v Ab
   simp [this]
theorem gH{kindOf:Str->Option Pa}{x:Str}{v:Value}:∀{P:List Str} {vs:List Value} {i:Nat} {m:Str->Option Value},P.Nodup->P[i]? = some x->vs[i]? = some v->kindOf x=some .local->bindL kindOf (P.zip vs) m x=some v
 | [],_,_,_,_,h,_,_=>by simp at h
 | _::_,[],_,_,_,_,h,_=>by simp at h
 | p::P,w::vs,0,m,nd,h1,h2,hk=>by
  simp at h1 h2; subst h1; subst h2
  show bindL kindOf ((p,w)::P.zip vs) m p=_
  unfold bindL
  rw[fW λv a=>(Da.mp nd).1 (List.of_mem_zip a).1,if_pos hk]
  simp
 | p::P,w::vs,i+1,m,nd,h1,h2,hk=>by
  show bindL kindOf ((p,w)::P.zip vs) m x=_
  unfold bindL
  exact gH (i:=i) (Da.mp nd).2 (by simpa using h1) (by simpa using h2) hk
theorem fV{kindOf:Str->Option Pa}{x:Str}{v:Value}:∀{P:List Str} {vs:List Value} {i:Nat} {m:Str->Option Value},P.Nodup->P[i]? = some x->vs[i]? = some v->kindOf x≠some .local->bindC kindOf (P.zip vs) m x=some v
 | [],_,_,_,_,h,_,_=>by simp at h
 | _::_,[],_,_,_,_,h,_=>by simp at h
 | p::P,w::vs,0,m,nd,h1,h2,hk=>by
  simp at h1 h2; subst h1; subst h2
  show bindC kindOf ((p,w)::P.zip vs) m p=_
  unfold bindC
  rw[gW λv a=>(Da.mp nd).1 (List.of_mem_zip a).1,if_neg hk]
  simp
 | p::P,w::vs,i+1,m,nd,h1,h2,hk=>by
  show bindC kindOf ((p,w)::P.zip vs) m x=_
  unfold bindC
  exact fV (i:=i) (Da.mp nd).2 (by simpa using h1) (by simpa using h2) hk
def start(N:List Str)(vs:List V):St:=vs.map some++Cb (N.length - vs.length) none
def Kb(CX:eL)(P:Bk)(w:World)(K:PySem.W.Frag)(mg:Str->Option Value)(base:Heap)(N:List Str)(b:Str)(a:Scope)(f:Addr)(d:Value)(A:Cf)(outer:List Env)(s:Ak)(H:Hp)(E:XK):Cx where
 prog:=P
 w:=w
 K:=K
 mg:=mg
 base:=base
 A:=A.deeper (Fe b a s.heap.objs.size f d)
 N:=N
 s₀:=s
 H₀:=H
 env:=Fe b a s.heap.objs.size f d
 outer:=outer
 stack:=Fe b a s.heap.objs.size f d::outer
 ex:=[]
 calm:=true
 fn:=λ_=>true
 pn:=[]
 xe:=λe g=>wpAny (model P w) (A.deeper (Fe b a s.heap.objs.size f d)) (leaving (Fe b a s.heap.objs.size f d) e) (λ_ c=>CX outer H s E e c) (λh c=>CX outer H s E h c) g
theorem lV{a:Scope}{n:Nat}{x:Str}(h:a.names.lookup x=some .cell):∃c,(Ew n a.names []).lookup x=some c:=by
 have q:=PySem.W.cellsFrom_some a.names n [] (.inl h)
 exact Qh.mp q
theorem xW{CX:eL}{P:Bk}{w:World}{K:PySem.W.Frag}{mg:Str->Option Value}{base:Heap}{N ps:List Str}{g:Str}{d:Scope}{f:Addr}{C:Value}{A:Cf}{outer:List Env}{s I:Ak}{H:Hp}{E:XK}{us:List Value}{vs:List V}(S:FnScope N ps d)(hd:A.handled=none)(l:Env0 P w K mg base A outer s H)(R:vs.length=ps.length)(r:Fj vs us)(x:InCallC s s.heap.objs.size (bindL (Fe g d s.heap.objs.size f C).kindOf (ps.zip us) λ_=>none) (Ew (s.heap.objs.size+1) d.names []) (bindC (Fe g d s.heap.objs.size f C).kindOf (ps.zip us) λ_=>none) I):Inv (Kb CX P w K mg base N g d f C A outer s H E) [] (start N vs) H I:=by
 have M:ps.length<=N.length:=by have:=congrArg Ei S.pre; rw[My] at this; omega
 obtain ⟨B,Q,rfl,G⟩:=x.done
 have m:∀b:Addr,b∉(Kb CX P w K mg base N g d f C A outer s H E).ex:=λb z=>absurd (show b∈([]:List Addr) from z) (by simp)
 refine ⟨⟨l.mod,S.kind,rfl,rfl,Au _,λy z c B j=>?_,λy hy=>?_,λy c _ h=>?_,λ_=>hd,Around.frames_deeper l.frames,.inr ⟨rfl,rfl⟩,λb z=>absurd z (m b),l.bs,l.bsz,λb _ _=>m b,λb z=>absurd z (m b),l.funs,l.frf,l.tab⟩,
  rfl,l.bare,Un.kept G,⟨_,x.toInCall.ns,λi y v B j O=>?_⟩,λy c h=>⟨_,x.cell y c h⟩,l.hok.fresh (Au _),λy c h=>?_,λp t=>absurd (show p∈([]:List (Addr×Obj)) from t) (by simp),l.hok.kept G,?_⟩
 ·exact name_of_addr x.apart (PySem.mem_of_lookup B) (PySem.mem_of_lookup j)
 ·have hy:d.names.lookup y=some .cell\/d.names.lookup y=some .free:=hy
  rcases hy with hy | hy
  ·exact lV hy
  ·exact absurd rfl (S.nofree _ (PySem.mem_of_lookup hy))
 ·exact Kw (x.above y c (PySem.mem_of_lookup h))
 ·have D:i<vs.length:=by
   unfold start at j
   by_cases D:i<vs.length
   ·exact D
   ·rw[Kk (by simpa using D)] at j
    rw[List.getElem?_replicate] at j
    split at j <;> cases j
  have J:vs[i]? = some v:=by
   unfold start at j
   rw[lC (by simpa using D),Bu] at j
   cases e:vs[i]? with
   | none=>rw[e] at j; cases j
   | some a=>rw[e] at j; cases j; rfl
  obtain ⟨u,F,L⟩:=r.get J
  have t:ps[i]? = some y:=by
   rw[<- S.pre,List.getElem?_take_of_lt (by omega)]; exact B
  have o:ps.Nodup:=by rw[<- S.pre]; exact S.nd.sublist (Dr _ _)
  refine ⟨u,L,?_⟩
  rcases S.par y (Bf t) with k | k
  ·exact .inl ⟨k,gH o t F k⟩
  ·obtain ⟨c,e⟩:=lV (n:=s.heap.objs.size+1) k
   refine .inr ⟨.inl k,c,e,?_⟩
   have q:=x.cell y c e
   rw[fV o t F (by show d.names.lookup y≠_; rw[k]; decide)] at q
   exact q
 ·exact l.hok.fresh (Kw (x.above y c (PySem.mem_of_lookup h)))
 ·unfold start
  show _=N.length
  rw[Bn,Af,List.length_replicate]
  omega
theorem Z0{CX:eL}{P:Bk}{w:World}{K:PySem.W.Frag}{mg:Str->Option Value}{base:Heap}{k:Nat}{f:Addr}{name c:Str}{g:Arguments}{h:List Stmt}{a:Scope}{dV kV B X d ct oc:Value}{R od:Option Addr}{O:Array (Option Value)}{N ps:List Str}{sp:Sp}(lk:K.lookup f=some ⟨oc,od,.func (PySem.W.fnOf name c g h a dV kV B X R d ct),O⟩)(F:PySem.W.codeIn K d c=true)(S:FnScope N ps a)(len:∀vs H Q E,sp vs H Q E->vs.length=ps.length)(l:∀(A:Cf) (outer:List Env) (s:Ak) (H:Hp) (vs:List V) (Q:VK) (E:XK),Room k (A.deeper (Fe c a s.heap.objs.size f d))->sp vs H Q E->∃t,Uo (Kb CX P w K mg base N c a f d A outer s H E) h t/\t { nx:=λ_ H'=>Q .non H',rt:=Q } (start N vs) H):FnOk P w K mg base CX (k+1) f (PySem.W.fnOf name c g h a dV kV B X R d ct) ps sp:=by
 refine ⟨len,λA outer s H Y us vs Q E D z hb r p=>?_⟩
 have hl:=len _ _ _ _ p
 have T:K.In s.heap:=z.mod.kin.keeps λb o e=>(z.bs b o e).1
 have M:s.heap.NoLimit:=z.mod.nolimit.keeps λb o e=>(z.bs b o e).1
 have j:∀y∈ps.zip us,a.names.lookup y.1=some .local\/(a.names.lookup y.1=some .cell/\((Ew (s.heap.objs.size+1) a.names []).lookup y.1).isSome=true):=λ⟨n,v⟩ Z=>by
  rcases S.par n (List.of_mem_zip Z).1 with q | q
  ·exact .inl q
  ·exact .inr ⟨q,PySem.W.cellsFrom_some _ _ _ (.inl q)⟩
 refine codeAny_call_function D.depth (T _ _ lk) rfl S.co S.gen rfl (PySem.W.codeRec_of T F) (hb _ _ _ _ ?_)
 refine wpAny_newFunctionEnv_cells S.kind j λh0 he U x=>?_
 subst he
 refine ⟨M.keeps x.toInCall.keep,codeAny_func ?_⟩
 obtain ⟨t,ht,hq⟩:=l A outer s H vs Q E (D.deeper _) p
 have I:Inv (Kb CX P w K mg base N c a f d A outer s H E) [] (start N vs) H U:=xW S D.hd z hl r x
 refine Cv (ht [] U (start N vs) H _ I hq) (λfl G m=>?_) λe G m=>m
 have C:∀{i:St} {H':Hp} {v:V} {u:Value},Inv (Kb CX P w K mg base N c a f d A outer s H E) [] i H' G->RelV v u->Q v H'->CE outer P w H s Q u G :=
  λ{i H' v u} J L q=>⟨v,H',J.os,J.bare,J.base,J.hok,L,q⟩
 cases fl with
 | ret u =>
  obtain ⟨v,i,H',J,L,q⟩:=m
  exact C J L q
 | next =>
  obtain ⟨i,H',J,q⟩:=m
  exact C (v:=V.non) (u:=Ib) J rfl q
 | brk =>
  obtain ⟨_,_,_,q⟩:=m
  exact Di q
 | cont =>
  obtain ⟨_,_,_,q⟩:=m
  exact Di q
section
variable{X:Cx}{x:Str}{p pos:Pos}{e:Expr}{es:List Expr}{t:TA}{id T:String}{r:List V->Hp->VK->Prop}
def MC(r:List V->Hp->VK->Prop)(t:TA):TE:=λa H Q=>t a H λvs b=>r vs b Q
theorem bS(k:Na X (.builtin id) r)(v:Gl X x)(l:X.mg x=none)(hv:Jz x=some (.builtin id))(g:PA X (e::es) t)(o:x ≠ "__name__" := by decide)(b:(x == ("__debug__" : Str))=false:=by decide)(f:An (e::es) X.env=(false,eval e X.env)::An es X.env:=by rfl)(c:(Cq pos (An es X.env)).any (·.1)=false:=by rfl):PE X (.Call (.Name x p) (e::es) [] pos) (MC r t):=by
 intro a s d H Q I h
 refine Jx (Yc I v l hv ?_ o b)
 exact PyProof.Rows.callWith_builtin1 (Gy (g pos a s d H _ I h) λn u ⟨vs,i,m,q,j⟩=>k a u d i vs n Q m q j) f c
theorem Tn(k:Na X (.type T) r)(v:Gl X x)(l:X.mg x=none)(hv:Jz x=some (.type T))(g:PA X (e::es) t)(o:x ≠ "__name__" := by decide)(b:(x == ("__debug__" : Str))=false:=by decide)(f:An (e::es) X.env=(false,eval e X.env)::An es X.env:=by rfl)(c:(Cq pos (An es X.env)).any (·.1)=false:=by rfl):PE X (.Call (.Name x p) (e::es) [] pos) (MC r t):=by
 intro a s d H Q I h
 refine Jx (Yc I v l hv ?_ o b)
 exact Iz (Gy (g pos a s d H _ I h) λn u ⟨vs,i,m,q,j⟩=>k a u d i vs n Q m q j) f c
end
end L2
namespace HT
open PySem PyProof.Rows
section
variable{prog:Bk}{w:World}{A:Cf}{E:Value->Ak->Prop}{s:Ak}
def sIx(n d:Nat):Option Int->Nat
 | none=>d
 | some v=>if v<0 then (v+(n:Int)).toNat else min v.toNat n
theorem sIx_none(n d:Nat):sIx n d none=d:=rfl
theorem sIx_nat(n d k:Nat):sIx n d (some (k:Int))=min k n:=by
 show (if (k:Int)<0 then ((k:Int)+(n:Int)).toNat else min (k:Int).toNat n)=min k n
 rw[if_neg (by omega),Mh]
theorem BF(n d:Nat)(hd:d<=n)(o:Option Int):sIx n d o<=n:=by
 cases o with
 | none=>exact hd
 | some v =>
  show (if v<0 then (v+(n:Int)).toNat else min v.toNat n)<=n
  by_cases a:v<0
  ·rw[if_pos a]; omega
  ·rw[if_neg a]; exact Nat.min_le_right _ _
theorem vF(v:Int)(n d:Nat):(if v<0 then max (v+(n:Int)) 0 else min v (n:Int))=((sIx n d (some v):Nat):Int):=by
 show (if v<0 then max (v+(n:Int)) 0 else min v (n:Int))=(((if v<0 then (v+(n:Int)).toNat else min v.toNat n):Nat):Int)
 by_cases a:v<0
 ·simp only[if_pos a]; omega
 ·simp only[if_neg a]; omega
theorem qK(lo a:Option Int)(n:Nat):Nh lo a 1 (n:Int)=(((sIx n 0 lo:Nat):Int),((sIx n n a:Nat):Int)):=by
 have b:¬ ((1:Int)<0):=by omega
 unfold Nh
 simp only[b,if_false]
 refine Prod.ext ?_ ?_
 ·cases lo with
  | none=>rfl
  | some v=>exact vF v n 0
 ·cases a with
  | none=>rfl
  | some v=>exact vF v n n
theorem sL(i j:Nat):Jp (i:Int) (j:Int) 1=j - i:=by
 unfold Jp
 have a:(1:Int) > 0:=by omega
 simp only[a,if_true,Int.ediv_one]
 split <;> omega
theorem cV{v:Value}{o:Option Int}{Q:Option Int->Ak->Prop}(p:Zm v o)(h:Q o s):wpAny (model prog w) A (Builtin.Slice.slicePartIndex v) Q E s:=by
 cases p with
 | none=>exact slicePart_none h
 | int i t=>exact slicePart_int h
theorem sliceApplied_gen{f:Addr}{e d:Value}{lo b:Option Int}{n:Nat}{Q:Int×Int×Nat->Ak->Prop}(i:s.heap.IsSliceOf f e d .none)(pl:Zm e lo)(g:Zm d b)(h:Q (((sIx n 0 lo:Nat):Int),1,sIx n n b - sIx n 0 lo) s):wpAny (model prog w) A (Xd (.ref f) (pure (n:Int))) Q E s:=by
 obtain ⟨os,a,j,c⟩:=id i
 unfold Xd Builtin.Slice.sliceFields
 refine Aa (Aa (Ft a c (x:=e) rfl (Aa (Ft a c (x:=d) rfl (Aa (Ft a c (x:=.none) rfl (Am ?_)))))))
 refine Aa (slicePart_none ?_)
 show wpAny _ _ (if ((1:Int) == 0)=true then _ else _) _ _ s
 rw[if_neg (by decide)]
 refine Aa (cV pl (Aa (cV g (Aa (Am ?_)))))
 show wpAny _ _ (match Nh lo b 1 (n:Int) with | (lo,b)=>pure (lo,(1:Int),Jp lo b 1)) _ _ s
 rw[qK lo b n]
 show wpAny _ _ (pure (((sIx n 0 lo:Nat):Int),(1:Int),Jp ((sIx n 0 lo:Nat):Int) ((sIx n n b:Nat):Int) 1)) _ _ s
 rw[sL]
 exact Am h
theorem B5(xs:Array Value)(i k:Nat):((Ci k).filterMap λ(m:Nat)=>xs[((i:Int)+(m:Int) * 1).toNat]?).toArray=((xs.toList.drop i).take k).toArray:=by
 have e:(λ(m:Nat)=>xs[((i:Int)+(m:Int) * 1).toNat]?)=λm=>xs[i+m]?:=by
  funext m
  have : ((i:Int)+(m:Int) * 1).toNat=i+m:=by omega
  rw[this]
 rw[e]
 have:=pick_run xs i k
 rw[List.filterMap_map] at this
 have a:((λx=>xs[x]?) ∘ λx=>i+x)=λm=>xs[i+m]?:=rfl
 rw[a] at this
 rw[this]
theorem getItem_tuple_cut{t j:Addr}{a:Array Value}{l k:Value}{lo c:Option Int}{Q:Value->Ak->Prop}(d:IsTup s.heap t a)(n:s.heap.IsSliceOf j l k .none)(pl:Zm l lo)(p:Zm k c)(hw:¬ (sIx a.size 0 lo=0/\sIx a.size a.size c=a.size))(h:Q (.ref s.heap.objs.size) { s with heap:=s.heap.push { cls:=.type "tuple",data:=.seq ((a.toList.drop (sIx a.size 0 lo)).take (sIx a.size a.size c - sIx a.size 0 lo)).toArray } })(o:a.size<=Ba):wpAny (model prog w) A (getItem (.ref t) (.ref j)) Q E s:=by
 have b:sizeOk (.seq ((a.toList.drop (sIx a.size 0 lo)).take (sIx a.size a.size c - sIx a.size 0 lo)).toArray):=by
  show ((a.toList.drop (sIx a.size 0 lo)).take (sIx a.size a.size c - sIx a.size 0 lo)).toArray.size<=Ba
  rw[Av,My,List.length_drop,Bg]
  omega
 have x:sIx a.size a.size c<=a.size:=BF _ _ (Au _) c
 obtain ⟨os,e,i,r⟩:=id n
 have f:s.TypeIs (.ref j) "slice" := ⟨os,e,i⟩
 unfold getItem
 try with_reducible refine Dx ?_
 first | refine Aa (Am ?_) | skip
 refine Aa (wpAny_sequenceKey d.typeIs (by decide) ?_)
 refine Aa (Eu (name:=Kv "__getitem__") d.typeIs Eh
  (Ek Eh d.typeIs entry_tuple_getitem ?_ (args_tuple_getitem _ _)))
 show wpAny _ _ (Xb (.ref t) >>= _) _ _ s
 refine Aa (tupleItemsOf_ d ?_)
 refine Aa (iB f ?_)
 rw[if_pos (by decide)]
 refine Aa (sliceApplied_gen n pl p ?_)
 have g:¬ ((((sIx a.size 0 lo:Nat):Int) == 0 && (1:Int) == 1 && (sIx a.size a.size c - sIx a.size 0 lo) == a.size)=true):=by
  intro q
  rw[Cz,Cz] at q
  have u:((sIx a.size 0 lo:Nat):Int)=0:=aC q.1.1
  have v:sIx a.size a.size c - sIx a.size 0 lo=a.size:=aC q.2
  exact hw ⟨by omega,by omega⟩
 show wpAny _ _ (if (((sIx a.size 0 lo:Nat):Int) == 0 && (1:Int) == 1 && (sIx a.size a.size c - sIx a.size 0 lo) == a.size)=true then _ else _) _ _ s
 rw[if_neg g,B5]
 first
  | exact Aa (m:=Ka _) (Eo (Am ⟨_,rfl,Am h⟩) b)
  | exact Aa (m:=Ka _) (Eo (Aa (Am (Am ⟨_,rfl,Am h⟩))) b)
  | exact Aa (Aa (m:=Ka _) (Eo (Am (Am ⟨_,rfl,Am h⟩)) b))
  | exact Aa (Aa (m:=Ka _) (Eo (Am ⟨_,rfl,Am h⟩) b))
end
end HT
namespace L2
open PySem PySem.Spec PyProof.Rows
abbrev TO:=St->Hp->(Option Int->Hp->Prop)->Prop
def PO(X:Cx)(e:Option Expr)(t:TO):Prop :=
 ∀(a:List (Addr×Obj)) (s:Ak) (b:St) (H:Hp) (Q:Option Int->Hp->Prop),Inv X a b H s->t b H Q ->
  wpAny (model X.prog X.w) X.A (evalPart e X.env) (λu d=>∃o c,Inv X a b c d/\Zm u o/\Q o c) X.xe s
def N5:TO:=λ_ H Q=>Q none H
def HY(t:TE):TO:=λa H Q=>t a H λx b=>∃i,x=.int i/\Q (some i) b
theorem intsAre_of{ns:List Int}:∀{us:List Value},Fj (ns.map V.int) us->Om us ns:=by
 induction ns with
 | nil=>intro us r; rw[Ol] at r; cases r; exact .nil
 | cons n ns a =>
  intro us r
  rw[Ap] at r
  cases r with
  | cons c b =>
   obtain ⟨t,e⟩:=c
   subst e
   exact .cons n t (a b)
section
variable{X:Cx}{e:Expr}{d:TE}{lo c:Option Expr}{f g:TO}{pos j:Pos}
theorem O9:PO X none N5:=by
 intro a s b H Q I h
 rw[evalPart_none]
 exact Am ⟨none,H,I,.none,h⟩
theorem P9(h:PE X e d):PO X (some e) (HY d):=by
 intro a s k H Q I c
 rw[evalPart_some]
 refine Gy (h a s k H _ I c) λu m b => ?_
 obtain ⟨x,f,j,l,g⟩ := b
 obtain ⟨i,rfl,q⟩:=g
 obtain ⟨t,rfl⟩:=l
 exact ⟨some i,f,j,.int i t,q⟩
def ET(X:Cx)(r:V->Option Int->Option Int->Hp->VK->Prop):Prop :=
 ∀(a:List (Addr×Obj)) (s:Ak) (d:St) (H:Hp) (x:V) (v e b:Value) (lo c:Option Int) (f:Addr) (Q:VK),Inv X a d H s->RelV x v->s.heap.IsSliceOf f e b .none->Zm e lo->Zm b c->r x lo c H Q ->
  ∃T id,typeLookup (.type T) "__getitem__" = pure (some (.builtin id))/\s.TypeIs v T/\wpAny (model X.prog X.w) X.A (getItem v (.ref f)) (EP X a d Q) X.xe s
theorem ET.or{r g:V->Option Int->Option Int->Hp->VK->Prop}(h:ET X r)(h':ET X g):ET X (λx lo c H Q=>r x lo c H Q\/g x lo c H Q):=by
 intro a s e H x v f d lo c l Q I j i k b q
 rcases q with q | q
 ·exact h a s e H x v f d lo c l Q I j i k b q
 ·exact h' a s e H x v f d lo c l Q I j i k b q
def NU(r:V->Option Int->Option Int->Hp->VK->Prop)(d:TE)(f g:TO):TE:=λa H Q=>d a H λx e=>f a e λl b=>g a b λu c=>r x l u c Q
theorem oX{r:V->Option Int->Option Int->Hp->VK->Prop}(C:ET X r)(y:PE X e d)(R:PO X lo f)(E:PO X c g):PE X (.Subscript e (.Slice lo c none j) pos) (NU r d f g):=by
 intro a s m H Q I h
 refine Subscript_ (Gy (y a s m H _ I h) λv Y k => ?_)
 obtain ⟨x,z,D,N,K⟩ := k
 refine wpAny_Slice (Gy (R a Y m z _ D K) λn M ⟨l,J,t,F,L⟩=>Gy (E a M m J _ t L) λo i k => ?_)
 obtain ⟨u,p,S,B,U⟩ := k
 rw[evalPart_none]
 refine Am ?_
 have P:Inv X a m p { i with heap:=i.heap.push { cls:=.type "slice",data:=.fields #[n,o,.none] } }:=S.kept (t':=i.toks) λb Z q=>Aq _ q
 obtain ⟨T,id,O,W,G⟩:=C a { i with heap:=i.heap.push { cls:=.type "slice",data:=.fields #[n,o,.none] } } m p x v n o l u i.heap.objs.size Q P N (Heap.IsSliceOf.new ..) F B U
 show wpAny (model X.prog X.w) X.A (subscriptTail e (.Slice lo c none j) v (.ref i.heap.objs.size)) (EP X a m Q) X.xe { i with heap:=i.heap.push { cls:=.type "slice",data:=.fields #[n,o,.none] } }
 exact tail_any (ops:=[.ref i.heap.objs.size,v]) W O G (by with_unfolding_all rfl)
def cE(xs:List V)(lo c:Option Int):List V:=(xs.drop (HT.sIx xs.length 0 lo)).take (HT.sIx xs.length xs.length c - HT.sIx xs.length 0 lo)
theorem Yt(xs:List V)(lo c:Option Int):(cE xs lo c).length<=xs.length:=by
 unfold cE
 rw[My,List.length_drop]
 omega
def LN(K:PySem.W.Frag):V->Option Int->Option Int->Hp->VK->Prop:=λx lo c H Q=>∃a b,x=.ref a/\Tr K H a b /\
 ¬ (HT.sIx b.length 0 lo=0/\HT.sIx b.length b.length c=b.length)/\∀p,H p=none->Q (.ref p) (upd H p (.tup (cE b lo c)))
theorem AS:ET X (LN X.K):=by
 intro i s y H x v z w lo c A Q I n m t l h
 obtain ⟨a,e,rfl,p,k,q⟩:=h
 cases n
 obtain ⟨f,r,j,g⟩:=I.tuple p
 have d:f.toArray.size=e.length:=by rw[Av]; exact r.length.symm
 refine ⟨"tuple",_,Eh.lookup,j.typeIs,?_⟩
 refine HT.getItem_tuple_cut j m t l (by rw[d]; exact k) ?_ (by rw[d]; exact g)
 rw[d]
 refine ⟨.ref s.heap.objs.size,_,I.laid (t':=s.toks) (o:=.tup (cE e lo c)) (λb u q=>Aq _ q) (Au _) ?_,rfl,q _ (I.hok.fresh (Au _))⟩
 exact ⟨Bw (Yt e lo c) g,_,(r.drop (HT.sIx e.length 0 lo)).take (HT.sIx e.length e.length c - HT.sIx e.length 0 lo),IsTup.new _ _⟩
end
def X3(n:Nat)(i:Int):Option Nat:=if 0<=i then (if i<n then some i.toNat else none) else if -(n:Int)<=i then some (i+n).toNat else none
def Yw{a:Type}(xs:List a)(i:Int):Option a:=(X3 xs.length i).bind λj=>xs[j]?
theorem uT{n:Nat}{i:Int}{j:Nat}(h:X3 n i=some j):seqIndex? i n=some j/\j<n /\ -(n:Int)<=i/\i<n:=by
 unfold X3 at h
 by_cases b:0<=i
 ·rw[if_pos b] at h
  by_cases a:i<n
  ·rw[if_pos a] at h
   have e:i.toNat=j:=Br h
   exact ⟨by rw[seqIndex_of b a,e],by omega,by omega,a⟩
  ·rw[if_neg a] at h; cases h
 ·rw[if_neg b] at h
  by_cases a:-(n:Int)<=i
  ·rw[if_pos a] at h
   have e:(i+n).toNat=j:=Br h
   exact ⟨by rw[seqIndex_neg (by omega) a,e],by omega,a,by omega⟩
  ·rw[if_neg a] at h; cases h
theorem iY{a:Type}{xs:List a}{i:Int}{v:a}(h:Yw xs i=some v):∃j,seqIndex? i xs.length=some j/\xs[j]? = some v/\j<xs.length /\ -(xs.length:Int)<=i/\i<xs.length:=by
 unfold Yw at h
 cases e:X3 xs.length i with
 | none=>rw[e] at h; cases h
 | some j =>
  rw[e] at h
  obtain ⟨b,c,d,f⟩:=uT e
  exact ⟨j,b,h,c,d,f⟩
theorem V1{a:Type}{xs:List a}{j:Nat}{v:a}(h:xs[j]? = some v):Yw xs (j:Int)=some v:=by
 have b:j<xs.length:=(Aw.mp h).1
 have e:X3 xs.length (j:Int)=some j:=by
  unfold X3
  rw[if_pos (by omega),if_pos (by omega)]; simp
 unfold Yw; rw[e]; exact h
def kB(b:Expr):Prop:=∀o i,subscripted b false o i=operate [o,i] (getItem o i)
def R7(X:Cx)(r:R2):Prop :=
 ∀(c a:Expr) (b:List (Addr×Obj)) (s:Ak) (d:St) (H:Hp) (x y:V) (v u:Value) (Q:VK),Inv X b d H s->RelV x v->RelV y u->r x y H Q ->
  subscripted a false v u=operate [v,u] (getItem v u)->wpAny (model X.prog X.w) X.A (subscriptTail c a v u) (EP X b d Q) X.xe s
def MG(X:Cx)(id:String)(r:V->List V->Hp->VK->Prop):Prop :=
 ∀(a:List (Addr×Obj)) (s:Ak) (c:St) (H:Hp) (x:V) (b:List V) (v:Value) (d:List Value) (Q:VK),Inv X a c H s->RelV x v->Fj b d->r x b H Q ->
  wpAny (model X.prog X.w) X.A (call (.builtin id) (v::d)) (EP X a c Q) X.xe s
section
variable{X:Cx}{a b:Expr}{B A:TE}{pos:Pos}
theorem R7.or{r d:R2}(h:R7 X r)(h':R7 X d):R7 X (λx y H Q=>r x y H Q\/d x y H Q):=by
 intro b a c s e H x y v u Q I i f q g
 rcases q with q | q
 ·exact h b a c s e H x y v u Q I i f q g
 ·exact h' b a c s e H x y v u Q I i f q g
theorem cS{r:R2}(g:R7 X r)(f:PE X a B)(hb:PE X b A)(k:kB b):PE X (.Subscript a b pos) (HI r B A):=by
 intro c s i H Q I h
 exact Subscript_ (EN f hb I h λv u l x y e d m j q=>g a b c l i e x y v u Q d m j q (k _ _))
def IU(K:PySem.W.Frag):R2:=λx y H Q=>∃p a i v,x=.ref p/\y=.int i/\Ua K H p a/\Yw a i=some v/\Q v H
def GM(K:PySem.W.Frag):R2:=λx y H Q=>∃p a i v,x=.ref p/\y=.int i/\Tr K H p a/\Yw a i=some v/\Q v H
def GK:R2:=λx y H Q=>∃z i c,x=.str z/\y=.int i/\z.length<=Ba/\Yw z.cps.toList i=some c/\Q (.str ⟨#[c]⟩) H
theorem Ti:R7 X (IU X.K):=by
 intro k g a s n H x y v u Q I F M h o
 obtain ⟨p,O,i,z,rfl,rfl,E,B,q⟩:=h
 cases F
 obtain ⟨t,rfl⟩:=M
 obtain ⟨f,r,e,P⟩:=I.list E
 obtain ⟨j,c,J,N,G,C⟩:=iY B
 obtain ⟨w,A,l⟩:=r.get J
 have L:=r.length
 have R:=Xx
 have b:EP X a n Q w s:=⟨z,H,I,l,q⟩
 by_cases m:0<=i
 ·have d:i.toNat=j:=by
   rw[seqIndex_of m C] at c
   exact Br c
  exact item_listR e.isList m (by omega) (by rw[d]; simpa using A) b o
 ·have d:(i+(f.toArray.size:Int)).toNat=j:=by
   rw[seqIndex_neg (by omega) G] at c
   rw[Av,<- L]
   exact Br c
  exact N3 (x:=w) e.isList.typeIs IY.lookup
   (wpAny_getItem_list_neg (Q:=λr D=>r=w/\EP X a n Q r D) e.isList (by omega) (by rw[Av] <;> omega) (by omega) (by rw[d]; simpa using A) ⟨rfl,b⟩) o
theorem KW:R7 X (GM X.K):=by
 intro c b a s f H x y v u Q I A F h l
 obtain ⟨p,M,i,z,rfl,rfl,o,k,q⟩:=h
 cases A
 obtain ⟨t,rfl⟩:=F
 obtain ⟨m,r,g,N⟩:=I.tuple o
 obtain ⟨j,D,B,J,L,G⟩:=iY k
 obtain ⟨w,C,e⟩:=r.get B
 have E:=r.length
 have O:=Xx
 have d:EP X a f Q w s:=⟨z,H,I,e,q⟩
 exact N3 (x:=w) g.typeIs slot_tuple_getitem.lookup
  (getItem_tuple (j:=j) (Q:=λr n=>r=w/\EP X a f Q r n) g (by omega) (by omega) (by rw[Av,<- E]; exact D) (by simpa using C) ⟨rfl,d⟩) l
theorem BV:R7 X GK:=by
 intro b a d s A H x y v u Q I n r h k
 obtain ⟨z,i,c,rfl,rfl,C,f,q⟩:=h
 obtain ⟨t,rfl⟩:=n
 obtain ⟨D,rfl⟩:=r
 obtain ⟨j,e,o,B,w,g⟩:=iY f
 have p:z.cps.toList.length=z.length:=by simp [Str.length]
 rw[p] at e w g
 have E:=Xx
 exact tail_any (typeIs_str s z t) slot_str_getitem.lookup (getItem_str (c:=c) (by
  have l:decide (i < -(2 ^ 63:Int))=false:=decide_eq_false (by omega)
  have m:decide (i ≥ 2 ^ 63)=false:=decide_eq_false (by omega)
  rw[l,m,Xf]) (by rw[e]; simpa using o) ⟨.str ⟨#[c]⟩,H,I.tok _,⟨_,rfl⟩,q⟩) k
def ML(K:PySem.W.Frag):R2:=λx y H Q=>IU K x y H Q\/GM K x y H Q\/GK x y H Q
theorem BA:R7 X (ML X.K):=Ti.or (KW.or BV)
theorem qV(a:List Value)(n j:Nat)(u:Value):Zl (·.setIfInBounds j u) { cls:=.type "list",data:=.seq a.toArray n }={ cls:=.type "list",data:=.seq (a.set j u).toArray n }:=by
 simp [Zl]
theorem Inv.lst{b:List (Addr×Obj)}{c:St}{H:Hp}{s:Ak}{p:Addr}{xs:List V}(I:Inv X b c H s)(h:H p=some (.lst xs)):∃(a:List Value) (n:Nat),Fj xs a/\s.heap.get? p=some { cls:=.type "list",data:=.seq a.toArray n }/\xs.length<=Ba:=by
 obtain ⟨z,a,n,r,e⟩:=I.hok p _ h
 exact ⟨a,n,r,e,z⟩
theorem Inv.lstUpd{a:List (Addr×Obj)}{g:St}{H:Hp}{s:Ak}{p:Addr}{xs ys:List V}{c its':List Value}{n n':Nat}{f:Obj->Obj}(I:Inv X a g H s)(h:H p=some (.lst xs))(k:s.heap.get? p=some { cls:=.type "list",data:=.seq c.toArray n })(d:f { cls:=.type "list",data:=.seq c.toArray n }={ cls:=.type "list",data:=.seq its'.toArray n' })(r:Fj ys its')(i:ys.length<=Ba)(t:Nat):Inv X a g (upd H p (.lst ys)) { s with heap:=s.heap.update p f,toks:=t }:=by
 have e:(s.heap.update p f).get? p=some { cls:=.type "list",data:=.seq its'.toArray n' }:=by
  rw[Jv f k (by rw[d] <;> rfl),d]
 refine I.write (x:=p) (e:=p) (by rw[h]; trivial) (.inl rfl) (λb u j q=>(sO _ _ (Lq j)).trans q) ⟨_,e⟩ ?_
 exact ⟨i,its',n',r,e⟩
def FT:V->V->V->Hp->(Hp->Prop)->Prop:=λo i v H Q=>∃p a k j,o=.ref p/\i=.int k/\H p=some (.lst a)/\X3 a.length k=some j/\Q (upd H p (.lst (a.set j v)))
theorem mK:IF X FT:=by
 intro a s z H o i v G K u Q I y E D h
 obtain ⟨p,B,k,j,rfl,rfl,w,A,q⟩:=h
 cases y
 obtain ⟨t,rfl⟩:=E
 obtain ⟨b,n,r,f,C⟩:=I.lst w
 obtain ⟨c,F,l,x⟩:=uT A
 have e:=r.length
 have J:=Xx
 have m:Inv X a z (upd H p (.lst (B.set j v))) { s with heap:=s.heap.update p (Zl (·.setIfInBounds j u)) } :=
  I.lstUpd w f (qV b n j u) (r.set D j) (by rw[List.length_set]; exact C) s.toks
 by_cases g:0<=k
 ·have d:k.toNat=j:=by
   rw[seqIndex_of g x] at c
   exact Br c
  exact PySem.W.ki_setAt f g (by omega) (by rw[Av,<- e]; exact x) (by rw[d]; exact ⟨_,m,q⟩)
 ·have d:(k+(b.toArray.size:Int)).toNat=j:=by
   rw[seqIndex_neg (by omega) l] at c
   rw[Av,<- e]
   exact Br c
  exact PySem.W.ki_setBack f (by omega) (by rw[Av,<- e]; exact l) (by omega) (by rw[d]; exact ⟨_,m,q⟩)
theorem kC(lo a:Option Int)(n:Nat):(Ow lo a none n).1=((HT.sIx n 0 lo:Nat):Int)/\(Ow lo a none n).2.1=((HT.sIx n n a:Nat):Int)/\(Ow lo a none n).2.2=1:=by
 refine ⟨?_,?_,rfl⟩
 ·cases lo with
  | none=>simp [Ow,HT.sIx]
  | some i =>
   simp only[Ow,HT.sIx,Option.getD_none,show (1:Int) > 0 by decide,if_true]
   by_cases h:i<0
   ·simp only[h,if_true] <;> omega
   ·simp only[h,if_false] <;> omega
 ·cases a with
  | none=>simp [Ow,HT.sIx]
  | some i =>
   simp only[Ow,HT.sIx,Option.getD_none,show (1:Int) > 0 by decide,if_true]
   by_cases h:i<0
   ·simp only[h,if_true] <;> omega
   ·simp only[h,if_false] <;> omega
theorem fF(a:List Value)(lo b:Option Int):slicePick a.toArray lo b none=((a.drop (HT.sIx a.length 0 lo)).take (HT.sIx a.length a.length b - HT.sIx a.length 0 lo)).toArray:=by
 obtain ⟨c,d,e⟩:=kC lo b a.toArray.size
 unfold slicePick
 rw[c,d,e]
 simp only[sliceRange_one,pick_run,Av] <;> rfl
def EH(K:PySem.W.Frag):V->Option Int->Option Int->Hp->VK->Prop:=λx lo c H Q=>∃a b,x=.ref a/\Ua K H a b/\∀p,H p=none->Q (.ref p) (upd H p (.lst (cE b lo c)))
theorem Q6:ET X (EH X.K):=by
 intro f s w H x v y u lo e z Q I l k n j h
 obtain ⟨a,c,rfl,m,q⟩:=h
 cases l
 obtain ⟨p,r,g,i⟩:=I.list m
 have d:=r.length
 refine ⟨"list",_,IY.lookup,g.isList.typeIs,?_⟩
 refine wpAny_getItem_list_slice g.isList k n j .none (by simp) ?_ (by rw[Av] <;> omega)
 rw[fF,<- d]
 refine ⟨.ref s.heap.objs.size,_,I.laid (t':=s.toks) (o:=.lst (cE c lo e)) (λb t q=>Aq _ q) (Au _) ?_,rfl,q _ (I.hok.fresh (Au _))⟩
 exact ⟨Bw (Yt c lo e) i,_,0,(r.drop (HT.sIx c.length 0 lo)).take (HT.sIx c.length c.length e - HT.sIx c.length 0 lo),Be _ rfl⟩
theorem iU:Na X (.type "list") (λxs H Q=>∃p ys,xs=[.ref p]/\(Ua X.K H p ys\/Tr X.K H p ys)/\∀l,H l=none->Q (.ref l) (upd H l (.lst ys))):=by
 intro k s z H xs B Q I r h
 obtain ⟨p,ys,rfl,hq,q⟩:=h
 obtain ⟨u,rfl,A⟩:=vals1 r
 cases A
 have i:∀(a:List Value),Fj ys a->ys.length<=Ba->∀(c:Heap) (f:Nat),(∀b y,s.heap.get? b=some y->c.get? b=some y) ->
   c.get? s.heap.objs.size=some { cls:=.type "list",dict:=none,data:=.seq a.toArray f,slots:=#[] }->EP X k z Q (.ref s.heap.objs.size) { s with heap:=c }:=λa d j c f kp e =>
  ⟨.ref s.heap.objs.size,_,I.laid (t':=s.toks) kp (Au _) (show Jt X.prog X.w _ c _ (.lst ys) from ⟨j,a,f,d,e⟩),rfl,q _ (I.hok.fresh (Au _))⟩
 rcases hq with hq | hq
 ·obtain ⟨a,d,x,j⟩:=I.list hq
  have g:=d.length
  obtain ⟨o,v,m,n,t⟩:=x.isList
  exact call_list_seq p (.inl rfl) v m t (λc f kp e=>i a d j c f kp e) (by simp only[Av] <;> omega)
 ·obtain ⟨a,d,x,j⟩:=I.tuple hq
  have g:=d.length
  obtain ⟨o,v,m,n,t⟩:=x
  exact call_list_seq p (.inr rfl) v m t (λc f kp e=>i a d j c f kp e) (by simp only[Av] <;> omega)
theorem Uh:Na X (.type "tuple") (λxs H Q=>∃p ys,xs=[.ref p]/\((Ua X.K H p ys/\∀l,H l=none->Q (.ref l) (upd H l (.tup ys)))\/(Tr X.K H p ys/\Q (.ref p) H))):=by
 intro a s n H xs x Q I r h
 obtain ⟨p,ys,rfl,h⟩:=h
 obtain ⟨u,rfl,v⟩:=vals1 r
 cases v
 rcases h with ⟨g,q⟩ | ⟨g,q⟩
 ·obtain ⟨c,f,i,k⟩:=I.list g
  have j:=f.length
  refine call_tuple_list i.isList (λd kp=>?_) (by simp only[Av] <;> omega)
  have m:Inv X a n H { s with heap:=d }:=I.kept (t':=s.toks) kp
  have t:Inv X a n (upd H d.objs.size (.tup ys)) { s with heap:=d.push { cls:=.type "tuple",data:=.seq c.toArray } } :=
   m.laid (t':=s.toks) (λb o e=>Aq _ e) (Au _) (show Jt X.prog X.w _ _ _ (.tup ys) from ⟨k,c,f,IsTup.new _ _⟩)
  exact ⟨.ref d.objs.size,_,t,rfl,q _ (m.hok.fresh (Au _))⟩
 ·obtain ⟨c,f,i,k⟩:=I.tuple g
  exact call_tuple_same i ⟨.ref p,H,I,rfl,q⟩
def KF(K:PySem.W.Frag)(T:String)(x:V)(H:Hp):Prop:=match x with
 | .str _=>T = "str"
 | .int _=>T = "int"
 | .ref p=>(T = "list" /\ ∃b,Ua K H p b)\/(T = "tuple" /\ ∃o,K.lookup p=some o/\o.cls=.type "tuple" /\ o.dict=none) \/
   (T = "dict" /\ ((∃a,H p=some (.dK a))\/∃a,H p=some (.dT a)))\/(T = "set" /\ ∃S n,H p=some (.set S n))
 | _=>False
theorem t6{d:List (Addr×Obj)}{m:St}{H:Hp}{s:Ak}{T:String}{x:V}{v:Value}(I:Inv X d m H s)(r:RelV x v)(ty:KF X.K T x H):s.TypeIs v T/\∀a,v=.ref a->∃j,s.heap.get? a=some j/\j.dict=none:=by
 cases x with
 | str z =>
  obtain ⟨t,rfl⟩:=r
  cases (show T = "str" from ty)
  exact ⟨typeIs_str s z t,λ_ e=>nomatch e⟩
 | int i =>
  obtain ⟨t,rfl⟩:=r
  cases (show T = "int" from ty)
  exact ⟨typeIs_int s i t,λ_ e=>nomatch e⟩
 | ref p =>
  cases r
  rcases ty with ⟨rfl,w,q⟩ | ⟨rfl,o,b,l,h⟩ | ⟨rfl,b⟩ | ⟨rfl,S,n,b⟩
  ·obtain ⟨u,_,k,_⟩:=I.list q
   refine ⟨k.isList.typeIs,λa e=>?_⟩
   cases e
   obtain ⟨o,n,e,c,h,_⟩:=k
   exact ⟨o,e,h⟩
  ·refine ⟨⟨o,I.kIn p o b,l⟩,λa e=>?_⟩
   cases e
   exact ⟨o,I.kIn _ o b,h⟩
  ·have z:∃o,s.heap.get? p=some o/\o.ExactDict:=by
    rcases b with ⟨g,b⟩ | ⟨g,b⟩
    ·obtain ⟨_,_,_,_,o,_,_,e,ex,_⟩:=I.hok p _ b
     exact ⟨o,e,ex⟩
    ·obtain ⟨_,_,_,_,o,_,_,e,ex,_⟩:=I.hok p _ b
     exact ⟨o,e,ex⟩
   obtain ⟨o,e,ex⟩:=z
   refine ⟨⟨o,e,ex.1⟩,λa f=>?_⟩
   cases f
   exact ⟨o,e,ex.2.1⟩
  ·obtain ⟨o,_,_,_,e,ex,_⟩:=I.hok p _ b
   refine ⟨⟨o,e,ex.1⟩,λa f=>?_⟩
   cases f
   exact ⟨o,e,ex.2.1⟩
 | _=>exact Di ty
def ME(K:PySem.W.Frag)(T:String)(r:V->List V->Hp->VK->Prop)(m:TE):TE:=λb H Q=>m b H λx a=>KF K T x a/\r x [] a Q
def NK(K:PySem.W.Frag)(T:String)(r:V->List V->Hp->VK->Prop)(m:TE)(t:TA):TE:=λa H Q=>m a H λx b=>KF K T x b/\t a b λc d=>r x c d Q
variable{o e:Expr}{es:List Expr}{m:TE}{t:TA}{name:Str}{g d:Pos}{T id:String}{r:V->List V->Hp->VK->Prop}
theorem CJ(w:PlainAttrs T)(slot:Slot T name id)(f:typeOf (.builtin id)=pure (.type "method_descriptor"))(q:MG X id r)(u:PE X o m)(b:Ff o name X.env (eval o X.env)=eval o X.env:=by rfl)(c:(g.endLine == d.line)=true:=by rfl):PE X (.Call (.Attribute o name g) [] [] d) (ME X.K T r m):=by
 intro a s j H Q I h
 refine wpAny_Call_method0_late b c (Gy (u a s j H _ I h) λv y e => ?_)
 obtain ⟨x,n,i,k,ty,p⟩ := e
 obtain ⟨l,t⟩:=t6 i k ty
 exact ⟨T,id,w,slot,f,l,t,pH rfl (PySem.evalArgs_none (q a y j n x [] v [] Q i k .nil p))⟩
theorem AJ(A:PlainAttrs T)(slot:Slot T name id)(l:typeOf (.builtin id)=pure (.type "method_descriptor"))(E:MG X id r)(N:PE X o m)(C:PA X (e::es) t)
  (c:Ff o name X.env (eval o X.env)=eval o X.env:=by rfl)
  (i:((Cq d (An (e::es) X.env)).all (λx=>!x.1) && (Hu d (Fd [] X.env)).all (λx=>x.1.isSome)
   && decide ((e::es).length+([]:List aI).length+(if ([]:List aI).isEmpty then 0 else 1)<30))=true:=by rfl)
  (f:(g.endLine == d.line)=true:=by rfl) (z:An (e::es) X.env=(false,eval e X.env)::An es X.env:=by rfl) (b:(Cq d (An es X.env)).any (·.1)=false:=by rfl) :
  PE X (.Call (.Attribute o name g) (e::es) [] d) (NK X.K T r m t):=by
 intro a s k H Q I h
 refine wpAny_Call_method_late c i f rfl (Gy (N a s k H _ I h) λv O j => ?_)
 obtain ⟨x,w,n,p,ty,D⟩ := j
 obtain ⟨L,J⟩:=t6 n p ty
 refine ⟨T,id,A,slot,l,L,J,?_⟩
 have q:=C d a O k w _ n D
 rw[z] at q ⊢
 refine pH (by show (false || (Cq d (An es X.env)).any (·.1))=false; rw[b] <;> rfl) (Calls.evalArgs_plain ?_)
 exact Gy q λy G ⟨vs,B,u,M,F⟩=>E a G k B x vs v y Q u p M F
end
def MI(X:Cx)(id:String)(r:V->List V->Hp->VK->Prop):Prop :=
 ∀(a:List (Addr×Obj)) (s:Ak) (c:St) (H:Hp) (x:V) (b:List V) (v:Value) (d:List Value) (Q:VK),Inv X a c H s->RelV x v->Fj b d->r x b H Q ->
  wpAny (model X.prog X.w) X.A (call (.builtin id) (v::d)) (EP X a c Q) X.xe s
theorem Fj.one:∀{x:V} {us:List Value},Fj [x] us->∃u,us=[u]/\RelV x u
 | _,_,.cons r .nil=>⟨_,rfl,r⟩
theorem Fj.zero:∀{us:List Value},Fj [] us->us=[]
 | _,.nil=>rfl
theorem Fj.dropLast{xs:List V}{us:List Value}(h:Fj xs us):Fj xs.dropLast us.dropLast:=by
 induction h with
 | nil=>exact .nil
 | cons r t a =>
  cases t with
  | nil=>exact .nil
  | cons q b=>exact .cons r a
theorem Fj.rep{xs:List V}{us:List Value}(h:Fj xs us):∀k:Nat,Fj (Cb k xs).flatten (Cb k us).flatten
 | 0=>.nil
 | k+1=>by
  rw[Gu,Gu,Gq,Gq]
  exact Fj.append h (Fj.rep h k)
theorem pX{c:Type}(l:List c):l.eraseIdx (l.length - 1)=l.dropLast:=by
 induction l with
 | nil=>rfl
 | cons a r d =>
  cases r with
  | nil=>rfl
  | cons b r =>
   have e:(a::b::r).length - 1=((b::r).length - 1)+1:=by
    have f:(a::b::r).length=r.length+2:=rfl
    have g:(b::r).length=r.length+1:=rfl
    omega
   rw[e,pG,d]
   all_goals rfl
theorem foldl_rep(b:List Value):∀(k:Nat) (a:List Value),List.foldl (λf d=>f++d) a.toArray (Cb k b.toArray)=(a++(Cb k b).flatten).toArray
 | 0,a=>by simp
 | k+1,a=>by
  have e:a.toArray++b.toArray=(a++b).toArray:=by simp
  have c:(a++b)++(Cb k b).flatten=a++(Cb (k+1) b).flatten:=by
   rw[Gu,Gq,Az]
  rw[<- c,<- foldl_rep b k (a++b),<- e,Gu,List.foldl_cons]
section
variable{X:Cx}{a:List (Addr×Obj)}{c:St}{H:Hp}{s:Ak}{l b:Addr}{xs ys d:List V}
theorem Inv.lset{b its':List Value}{n:Nat}{f:Array Value->Array Value}{t':Nat}(I:Inv X a c H s)(i:H l=some (.lst xs))(e:s.heap.get? l=some { cls:=.type "list",data:=.seq b.toArray n })(d:f b.toArray=its'.toArray)(hv:Fj ys its')(g:ys.length<=Ba):Inv X a c (upd H l (.lst ys)) { s with heap:=s.heap.update l (Zl f),toks:=t' }:=by
 have q:=PySem.IsL.update e f
 rw[d] at q
 refine I.write (x:=l) (e:=l) (by rw[i]; exact trivial) (.inl rfl) (λk u h j=>(sO s.heap (Zl f) (Lq h)).trans j) ⟨_,q⟩ ?_
 exact ⟨g,its',_,hv,q⟩
theorem Inv.lnew{b:List Value}{t':Nat}(I:Inv X a c H s)(hv:Fj ys b)(d:ys.length<=Ba):Inv X a c (upd H s.heap.objs.size (.lst ys)) { s with heap:=s.heap.push { cls:=.type "list",data:=.seq b.toArray },toks:=t' } :=
 I.laid (λ_ _ q=>Aq _ q) (Au _) ⟨d,b,0,hv,Be _ rfl⟩
theorem Inv.fresh(I:Inv X a c H s):H s.heap.objs.size=none:=I.hok.fresh (Au _)
theorem Inv.lstM(I:Inv X a c H s)(d:H l=some (.lst xs)):xs.length<=Ba/\∃(b:List Value) (n:Nat),Fj xs b/\xs.length=b.length/\s.heap.get? l=some { cls:=.type "list",data:=.seq b.toArray n }:=by
 obtain ⟨z,b,n,r,e⟩:=I.hok l _ d
 exact ⟨z,b,n,r,r.length,e⟩
theorem b0{n:Nat}(h:n<=Ba):Of n=false:=by
 unfold Of
 exact decide_eq_false (by omega)
end
section
variable{X:Cx}
def V7:V->List V->Hp->VK->Prop:=λx vs H Q=>∃l a y,x=.ref l/\vs=[y]/\H l=some (.lst a)/\a.length<Ba/\Q .non (upd H l (.lst (a++[y])))
theorem Tg:MI X "list.append" V7:=by
 intro b s m H x vs v o Q I g d h
 obtain ⟨l,i,y,rfl,rfl,c,j,q⟩:=h
 cases g
 obtain ⟨u,rfl,f⟩:=d.one
 obtain ⟨z,a,n,r,k,e⟩:=I.lstM c
 refine call_meets F.slot_list_append ⟨_,e,rfl⟩ F.entry_list_append (F.args_list_append_2 _ _) (PySem.list_append l a.toArray n u (by rw[Av]; omega)) ⟨e,?_⟩
 refine ⟨.non,_,I.lset (its':=a++[u]) c e (by simp) (r.append (.cons f .nil)) ?_,rfl,q⟩
 rw[Bn,Mr]
 omega
def LF:V->List V->Hp->VK->Prop:=λx vs H Q=>∃l a y,x=.ref l/\vs=[]/\H l=some (.lst a)/\a[a.length - 1]? = some y/\Q y (upd H l (.lst a.dropLast))
theorem EW:MI X "list.pop" LF:=by
 intro d s w H x vs v t Q I o i h
 obtain ⟨l,p,y,rfl,rfl,f,g,q⟩:=h
 cases o
 have c:=i.zero
 subst c
 obtain ⟨z,a,n,r,j,e⟩:=I.lstM f
 obtain ⟨u,m,k⟩:=r.get g
 have b:a.toArray[a.toArray.size - 1]? = some u:=by
  show a.toArray[a.length - 1]? = some u
  rw[<- Hi,<- j]
  exact m
 refine call_meets F.slot_list_pop ⟨_,e,rfl⟩ F.entry_list_pop (F.args_list_pop_1 _) (MeetsSeq.list_pop_last l a.toArray n u b (by rw[Av]; omega)) ⟨e,?_⟩
 refine ⟨y,_,I.lset (its':=a.dropLast) f e ?_ r.dropLast ?_,k,q⟩
 ·show a.toArray.eraseIdxIfInBounds (a.toArray.size - 1)=a.dropLast.toArray
  rw[Av,List.eraseIdxIfInBounds_toArray,pX]
 ·rw[List.length_dropLast]
  omega
def FI:R2:=λx y H Q=>∃l b a c,x=.ref l/\y=.ref b/\H l=some (.lst a)/\H b=some (.lst c)/\a.length+c.length<=Ba/\∀p,H p=none->Q (.ref p) (upd H p (.lst (a++c)))
theorem yZ:Xa X (Lw .Add) FI:=by
 intro d s D H x y v u Q I o k h
 obtain ⟨l,b,w,E,rfl,rfl,j,g,A,q⟩:=h
 cases o
 cases k
 obtain ⟨z,c,n,r,B,e⟩:=I.lstM j
 obtain ⟨C,a,t,m,i,f⟩:=I.lstM g
 refine PySem.P.add_list e f ?_ (by rw[Av,Av]; omega)
 have p:c.toArray++a.toArray=(c++a).toArray:=by simp
 rw[p]
 exact ⟨.ref _,_,I.lnew (t':=s.toks) (r.append m) (by rw[Bn]; omega),rfl,q _ I.fresh⟩
def GU:R2:=λx y H Q=>∃l k a,x=.ref l/\y=.int k/\H l=some (.lst a) /\ -(2 ^ 63)<=k/\k<2 ^ 63/\a.length * k.toNat<=Ba /\
 ∀p,H p=none->Q (.ref p) (upd H p (.lst (Cb k.toNat a).flatten))
theorem tL{b:Type}(xs:List b)(k:Nat):(Cb k xs).flatten.length=k * xs.length:=by
 induction k with
 | zero=>simp
 | succ k a=>rw[Gu,Gq,Bn,a,Nat.succ_mul,Nat.add_comm]
theorem EX:Xa X (Lw .Mult) GU:=by
 intro p s L H x y v u Q I B K h
 obtain ⟨l,k,M,rfl,rfl,C,G,D,w,q⟩:=h
 cases B
 obtain ⟨t,rfl⟩:=K
 obtain ⟨z,b,n,r,J,e⟩:=I.lstM C
 have d:b.toArray.size * k.toNat<=Ba:=by rw[Av,<- J]; exact w
 have g:¬ b.toArray.size * k.toNat > (2 ^ 63 - 1) / 8:=by
  have : (Ba:Nat)<=(2 ^ 63 - 1) / 8:=by decide
  omega
 have i:¬ (!Builtin.List.listFitsIndex k)=true:=by
  rw[fitsIndex_both G D]
  exact Hh
 have c:¬ Of (b.toArray.size * k.toNat)=true:=by
  rw[b0 d]
  exact Hh
 have f:List.foldl (λo j=>o++j) #[] (Cb (if b.toArray.isEmpty=true then 0 else k.toNat) b.toArray)=(Cb k.toNat b).flatten.toArray:=by
  have E:∀m:Nat,List.foldl (λo j=>o++j) #[] (Cb m b.toArray)=(Cb m b).flatten.toArray:=λm=>by
   have:=foldl_rep b m []
   rw[Gs] at this
   exact this
  rw[E]
  cases b with
  | nil=>simp
  | cons a N=>rw[if_neg (by simp)]
 refine wpAny_binaryOp_repeat_ref (T := "list") (U := "int") (by decide) ⟨_,e,rfl⟩ (λA=>typeIs_int A k t) noFill_list_mul F.fills_int_mul F.slot_int_rmul repeat_list F.slot_int_index.lookup
  (call_meets F.slot_int_rmul (typeIs_int s k t) F.entry_int_rmul (F.args_int_rmul_2 _ _) (int___rmul___int_list k t l b.toArray n)
   ⟨e,rfl,⟨_,e,rfl⟩,call_meets F.slot_list_mul ⟨_,e,rfl⟩ F.entry_list_mul (F.args_list_mul_2 _ _) (AutoListH.list___mul___list_int_3 l b.toArray n k t i g c) ⟨e,?_⟩⟩)
 rw[f]
 exact ⟨.ref _,_,I.lnew (t':=s.toks) (r.rep k.toNat) (by rw[tL,Nat.mul_comm]; exact w),rfl,q _ I.fresh⟩
end
end L2
namespace Att
open PySem PySem.W PySem.Calls PyProof.Rows
theorem Zs{P:Params}{h:Heap}:∀(ns:List Int) (vs:List Value),WellAll P h vs (ns.map WData.int)->Om vs ns:=by
 intro ns
 induction ns with
 | nil =>
  intro vs w
  rw[Ol] at w
  cases w
  exact .nil
 | cons n ns c =>
  intro vs w
  rw[Ap] at w
  cases w with
  | cons a b =>
   cases a
   exact .cons _ _ (c _ b)
theorem vT{l:OpenLaw}{n:Nat}(u:l.most=some n){P:Params}{h:Heap}{args:List WData}{b:List Value}(c:l.row.toRowW.claim.pre args=true)(k:WellAll P h b args):∃a vs ns,b=[Co a]/\args=[WData.list (ns.map WData.int)]/\h.get? a=some { cls:=.type "list",data:=.seq vs.toArray }/\Om vs ns/\ns.length<=n:=by
 have j:WShape.hasAll [] args [.list .int]=true:=(pre_splitW c).1
 have m:l.pre.holds [] { args:=args }=true:=(pre_splitW c).2
 obtain ⟨d,r,rfl,o,s⟩:=hasAllW_cons j
 obtain rfl:=hasAllW_nil s
 obtain ⟨y,rfl,w⟩:=hasW_list o
 obtain ⟨ns,rfl⟩:=items_int w
 have e:ns.length<=n:=by
  unfold OpenLaw.pre at m
  have i:(WTm.not (.lt (.lit (.int (n:Int))) (.len (.arg 0)))).holds [] { args:=[.list (ns.map .int)] }=true:=by
   have i:=(holds_andW m).1
   rw[u] at i
   exact i
  have g:=condW_of i (w_not (w_lt w_lit (w_len_list (w_arg rfl))))
  rw[Af] at g
  refine Nat.le_of_not_lt λq=>?_
  have t:(n:Int)<((ns.length:Nat):Int):=by omega
  first
   | (rw[decide_eq_true t] at g; exact absurd g (by decide))
   | (simp at g; omega)
 cases k with
 | cons x p =>
  cases p
  cases x with
  | list v f=>exact ⟨_,_,ns,rfl,rfl,v,Zs ns _ f,e⟩
theorem vY(l:OpenLaw)(args:List WData):l.row.toRowW.claim.post args (.bool true) args=true :=
 postW_of (r:=l.row.toRowW) (X:=(true == true))
  (show WShape.has [] (.bool true) .bool=true by first | rfl | decide | simp [WShape.has,WShape.arms,WShape.armsAll])
  (show (WTm.eq .res (.lit (.bool true))).value [] { args:=args,res:=some (.bool true),after:=args }=some (.bool (true == true)) from w_eq_bool (w_res rfl) w_lit) rfl
theorem attach_call{l:OpenLaw}{n:Nat}{q:Bk}{c:List Str}{A:(Str->Option Value)->Heap->Prop}{y:World->Heap->Prop}{d:DefRec}(N:l.most=some n)(t:d.params.defaults=[])(call:∀(w:World) (s₀ b:Ak) (mg u:Str->Option Value) (k:Addr) (o:Obj) (v m g:Value) (a:Addr) (vs:List Value) (ns:List Int),Ground q c [] A w s₀ mg u b.heap->y w b.heap->b.heap.get? k=some o->o.data=.func (docDef d.name d.params d.body d.scope v m g)->b.heap.CodeRec m d.name->mg d.name=some (.ref k)->b.heap.get? a=some { cls:=.type "list",data:=.seq vs.toArray }->Om vs ns->ns.length<=n->b.gens=#[]->Gw (model l.prog w) aD (.call (.ref k) ⟨[.ref a],[]⟩) (λr s'=>r=.ok (.ret (.bool true))/\OldK b.heap s'.heap/\s'.os=b.os/\Qp s'.gens) b):WalkO q c A y l.row.toRowW d [] (λf vs=>PySem.call f vs):=by
 intro w s₀ b mg u G Y k o v m g dV kV O H p B x F D C Q i z M s L
 obtain rfl:dV=.none:=Dflts.none B t
 obtain rfl:kV=.none:=Dflts.noKw B
 obtain ⟨a,vs,ns,rfl,rfl,j,e,h⟩:=vT N i s
 refine enter_call (Il (call w s₀ b mg u k o v m g a vs ns G Y O (fd_plain H) p x j e h F) λr s' J=>?_)
 obtain ⟨rfl,K,E,P⟩:=J
 exact ⟨.inl ⟨.bool true,.bool true,[],rfl,λ_=>rfl,.bool true,vY l _,λ_=>⟨Es,λ_ I=>(nomatch I)⟩⟩,K,E,P⟩
end Att
namespace L2
open PySem PySem.Spec PyProof.Rows
theorem fS:∀{vs:List Value} {ns:List Int},Om vs ns->Fj (ns.map V.int) vs
 | _,_,.nil=>.nil
 | _,_,.cons n t h=>.cons ⟨t,rfl⟩ (fS h)
def Jk(s:Stmt)(j:Nat):Stmt:=match s with
 | .ClassDef _ _ _ a _ _ _ _ _ _ _=>a.getD j (.Pass ⟨0,0,0,0⟩)
 | _=>.Pass ⟨0,0,0,0⟩
def Me(s:Stmt):Arguments:=match s with
 | .FunctionDef _ a _ _ _ _ _ _ _ _=>a
 | _=>{ posonlyargs:=[],args:=[],vararg:=none,kwonlyargs:=[],kw_defaults:=[],kwarg:=none,defaults:=[] }
def Gr(s:Stmt):List Stmt:=match s with
 | .FunctionDef _ _ b _ _ _ _ _ _ _=>b
 | _=>[]
def Bi(s:Stmt):Scope:=match s with
 | .FunctionDef _ _ _ _ _ _ a _ _ _=>a
 | _=>{ kind:=.function,names:=[],isGenerator:=false,isCoroutine:=false }
abbrev Hq:eL:=λ_ _ _ _ _ _=>False
abbrev E0:XK:=λ_ _ _=>False
theorem Du{X:Cx}:Fu Hq X E0:=λ_ _ _ _ _ _ _ h=>h.elim
structure Fun(K:PySem.W.Frag)(x qual:Str)(st:Stmt)(f:Addr)(fd:Bj):Prop where
 ex:∃(oc:Value) (od:Option Addr) (kV doc pm:Value) (an:Option Addr) (cdv ct:Value) (osl:Array (Option Value)),
  fd=PySem.W.fnOf x qual (Me st) (Gr st) (Bi st) .none kV doc pm an cdv ct/\K.lookup f=some ⟨oc,od,.func fd,osl⟩/\PySem.W.codeIn K cdv qual=true
 kp:PySem.W.keepIn K (.ref f)=true
section
variable{P:Bk}{w:World}{K:PySem.W.Frag}{mg:Str->Option Value}{base:Heap}
theorem Fun.ok{x a:Str}{st:Stmt}{f:Addr}{g:Bj}{N ps:List Str}{k:Nat}{sp:Sp}(F:Fun K x a st f g)(S:FnScope N ps (Bi st))(len:∀vs H Q E,sp vs H Q E->vs.length=ps.length)(c:∀(b:Value) (A:Cf) (outer:List Env) (s:Ak) (H:Hp) (vs:List V) (Q:VK) (E:XK),Room k (A.deeper (Fe a (Bi st) s.heap.objs.size f b))->sp vs H Q E->∃t,Uo (Kb Hq P w K mg base N a (Bi st) f b A outer s H E).nox (Gr st) t/\t { nx:=λ_ H'=>Q .non H',rt:=Q } (start N vs) H):FnOk P w K mg base Hq (k+1) f g ps sp:=by
 obtain ⟨n,r,kV,m,u,p,b,o,i,rfl,l,e⟩:=F.ex
 refine Z0 l e S len λA outer s H vs Q E j d=>?_
 obtain ⟨t,h,q⟩:=c b A outer s H vs Q E j d
 exact ⟨t,h.nox,q⟩
theorem Fun.binds{x a:Str}{st:Stmt}{f:Addr}{g:Bj}{ps:List Str}(F:Fun K x a st f g)(h:∀(kV c e:Value) (d:Option Addr) (b ct:Value) (us:List Value),us.length=ps.length->bindArgs (PySem.W.fnOf x a (Me st) (Gr st) (Bi st) .none kV c e d b ct) ⟨us,[]⟩=pure (ps.zip us)):Binds K g ps []:=by
 obtain ⟨k,l,kV,c,e,d,b,ct,i,rfl,m,j⟩:=F.ex
 exact .all (h kV c e d b ct)
theorem pU{x a:Str}{st:Stmt}{f:Addr}{i:Value}{j g:Option Addr}{e:Array (Option Value)}{kV d h b ct:Value}(l:K.lookup f=some ⟨i,j,.func (PySem.W.fnOf x a (Me st) (Gr st) (Bi st) .none kV d h g b ct),e⟩)(c:PySem.W.codeIn K b a=true)(k:PySem.W.keepIn K (.ref f)=true):Fun K x a st f (PySem.W.fnOf x a (Me st) (Gr st) (Bi st) .none kV d h g b ct):=⟨⟨i,j,kV,d,h,g,b,ct,e,rfl,l,c⟩,k⟩
end
theorem xH{n:Nat}(h:n<=1000):n<Ba:=Nat.lt_of_le_of_lt h (by decide)
section
variable{X:Cx}
theorem pv(i:Nat){x:Str}{pos:Pos}(b:X.N[i]? = some x:=by rfl)(hv:JI X.env.scope x:=by first | exact By rfl | exact Or.inr (By rfl) | exact Or.inr (Or.inr rfl))(hd:(x == ("__debug__" : Str))=false:=by decide)(a:(x == ("__classdict__" : Str))=false:=by decide):PE X (.Name x pos) (Kc i):=E7 b hv hd a
end
theorem nU{A B:Prop}(h:B):if false=true then A else B:=by
 rw[if_neg Hh]
 exact h
theorem oF{A B:Prop}(h:A):if true=true then A else B:=by
 rw[if_pos rfl]
 exact h
theorem LW{c A B:Prop}[Decidable c](a:c->A)(b:¬ c->B):if c then A else B:=by
 by_cases h:c
 ·rw[if_pos h]
  exact a h
 ·rw[if_neg h]
  exact b h
def Lu(H H':Hp):Prop:=∀b o,H b=some o->H' b=some o
theorem Lu.refl(H:Hp):Lu H H:=λ_ _ h=>h
theorem Lu.trans{H e d:Hp}(a:Lu H e)(b:Lu e d):Lu H d:=λc o h=>b c o (a c o h)
theorem Lu.free{H H':Hp}(e:Lu H H'){l:Addr}(h:H' l=Option.none):H l=Option.none:=by
 cases q:H l with
 | none=>rfl
 | some o =>
  rw[e l o q] at h
  cases h
end L2
namespace Nd
open PySem PySem.Spec PyProof.Rows L2
def Dw(X:Cx)(a:Scope)(b:List (Str×Addr))(N:List Str)(fp:List Addr)(s:Ak)(H:Hp):Cx where
 prog:=X.prog
 w:=X.w
 K:=X.K
 mg:=X.mg
 base:=X.base
 A:=X.A
 N:=N
 s₀:=s
 H₀:=H
 env:=compEnvC a (Ew (s.heap.objs.size+1) a.names b) s.heap.objs.size X.env
 outer:=X.stack
 stack:=X.stack
 ex:=fp
 fn:=λy=>decide (a.names.lookup y=some Dy)
 calm:=X.calm
 pn:=[]
 xe:=λ_ _=>False
section
variable{prog:Bk}{w:World}{A:Cf}{R:Result->Ak->Prop}{s:Ak}
theorem rB{d g iter:Expr}{b:List Expr}{a:Scope}{pos:Pos}{it e:Value}{env:Env}(J:Nat->Ak->Prop) (f:∀n s,J n s->wpAny (model prog w) A (Mg it) (λr j=>match r with
    | none=>R (.ok .next) j
    | some v=>wpAny (model prog w) A (Ih g it v) (λ_ l=>wpAny (model prog w) A (Po g env v) (λ_ p =>
      wpAny (model prog w) A (forIn b true λc r=>if r=true then (do
        let ok <- isTrue c env (eval c env)
        pure (Ms ok)) else pure (Ms r)) (λok i =>
       if ok=true then
        wpAny (model prog w) A (eval d env) (λx o=>wpAny (model prog w) A (call (.builtin "list.append") [e,x]) (λ_ k=>∃m,m<n/\J m k) (λ_ _=>False) o) (λ_ _=>False) i
       else ∃m,m<n/\J m i) (λ_ _=>False) p) (λ_ _=>False) l) (λ_ _=>False) j) (λ_ _=>False) s)
  (n:Nat) (h:J n s):Gw (model prog w) A (.compLoop (.ListComp d [⟨g,iter,b,0⟩] a pos) 0 it e env) R s:=by
 refine codeAny_loop rfl J (λn s C=>?_) n h
 show wpAny _ A (Sem.onRaise (compTurn (.ListComp d [⟨g,iter,b,0⟩] a pos) 0 it e env) (λx=>do noteFrame x env; theTreesLotGoes x)) _ _ s
 refine wpAny_noted ?_
 rw[compTurn_list]
 refine Aa (Iv (Aa (Cv (f n s C) (λr j q=>?_) λ_ _ z=>z.elim)))
 cases r with
 | none=>exact Am q
 | some v =>
  refine Aa (Cv q (λ_ l D=>?_) λ_ _ z=>z.elim)
  refine Aa (Cv D (λ_ p y=>?_) λ_ _ z=>z.elim)
  refine Aa (Cv y (λok i t=>?_) λ_ _ z=>z.elim)
  cases ok with
  | false=>exact Am ⟨rfl,t⟩
  | true =>
   refine Aa (Aa (Cv t (λx o u=>?_) λ_ _ z=>z.elim))
   exact Aa (Cv u (λ_ k B=>Am (Am ⟨rfl,B⟩)) λ_ _ z=>z.elim)
end
section
variable{X:Cx}{a:List (Addr×Obj)}{b:L2.St}{H:Hp}{s:Ak}{scope:Scope}{cl:List (Str×Addr)}{fp:List Addr}{N:List Str}
def xM(scope:Scope)(x:Str):Prop:=scope.names.lookup x=some .local\/scope.names.lookup x=some .cell
structure CompScope(X:Cx)(scope:Scope)(cl:List (Str×Addr))(x:Str)(ys:List Str)(js:List Nat):Prop where
 clos:Vq scope X.env=pure cl
 oc:(∀y∈scope.names,y.2≠.cell)\/∃z:Str,(∀n,Ew n scope.names []=[(z,n)])/\scope.names.lookup z=some .cell/\∀y∈scope.names,y.2=.cell->y.1=z
 kind:scope.kind=.function
 locs:∀y∈scope.names,y.2=.local->scope.names.lookup y.1=some .local
 own:xM scope x
 sub:∀y c,cl.lookup y=some c->X.env.cells.lookup y=some c
 has_:(scope.names.all λy=>!(y.2 == Ef) || (cl.lookup y.1).isSome)=true
 nd:(x::ys).Nodup
 len:ys.length=js.length
 at_:∀(k:Nat) (y:Str) (j:Nat),ys[k]? = some y->js[k]? = some j->X.N[j]? = some y/\scope.names.lookup y=some .free/\(X.env.kindOf y=some .cell\/X.env.kindOf y=some .free)
theorem CompScope.has{x:Str}{ys:List Str}{b:List Nat}(C:CompScope X scope cl x ys b):∀y∈scope.names,y.2=.free->(cl.lookup y.1).isSome=true:=λy a e=>by
 have h:=eI.mp C.has_ y a
 rw[e] at h
 simpa using h
theorem Rz{env:Env}{y:Str}{k:Pa}:∀{names:List (Str×Pa)},
  (names.map λ(n,k)=>if (k == Ef && env.scope.kind == .function && env.kindOf n == some .cell) then (n,Dy) else (n,k)).lookup y=some k ->
  ∃k0,names.lookup y=some k0/\(k=k0\/(k0=.free/\k=.cell))
 | [],h=>by simp at h
 | (n,k0)::r,h=>by
  have g:=@Rz env y k r
  rw[Ap] at h
  by_cases c:(k0 == Ef && env.scope.kind == .function && env.kindOf n == some .cell)=true
  ·have b:Ec y ((n,Dy)::(r.map λ(n,k)=>if (k == Ef && env.scope.kind == .function && env.kindOf n == some .cell) then (n,Dy) else (n,k)))=some k:=by
    simpa [c] using h
   cases a:y == n with
   | true =>
    rw[Bx,a] at b
    have e:k=Dy:=by simpa using b.symm
    refine ⟨k0,by rw[Bx,a],.inr ⟨?_,e⟩⟩
    rw[Cz,Cz] at c
    exact aC c.1.1
   | false =>
    rw[Bx,a] at b
    obtain ⟨q,f,d⟩:=g b
    exact ⟨q,by rw[Bx,a]; exact f,d⟩
  ·have b:Ec y ((n,k0)::(r.map λ(n,k)=>if (k == Ef && env.scope.kind == .function && env.kindOf n == some .cell) then (n,Dy) else (n,k)))=some k:=by
    simpa [c] using h
   cases a:y == n with
   | true =>
    rw[Bx,a] at b
    exact ⟨k0,by rw[Bx,a],.inl (by simpa using b.symm)⟩
   | false =>
    rw[Bx,a] at b
    obtain ⟨q,f,d⟩:=g b
    exact ⟨q,by rw[Bx,a]; exact f,d⟩
theorem Wc{env:Env}{y:Str}:∀{names:List (Str×Pa)},names.lookup y=some .free ->
  (names.map λ(n,k)=>if (k == Ef && env.scope.kind == .function && env.kindOf n == some .cell) then (n,Dy) else (n,k)).lookup y=some .cell \/
  (names.map λ(n,k)=>if (k == Ef && env.scope.kind == .function && env.kindOf n == some .cell) then (n,Dy) else (n,k)).lookup y=some .free
 | [],h=>by simp at h
 | (n,k0)::r,h=>by
  have c:=@Wc env y r
  show Ec y ((if (k0 == Ef && env.scope.kind == .function && env.kindOf n == some .cell)=true then (n,Dy) else (n,k0))::_)=_\/Ec y ((if (k0 == Ef && env.scope.kind == .function && env.kindOf n == some .cell)=true then (n,Dy) else (n,k0))::_)=_
  by_cases b:(k0 == Ef && env.scope.kind == .function && env.kindOf n == some .cell)=true
  ·rw[if_pos b]
   cases a:y == n with
   | true=>exact .inl (by rw[Bx,a])
   | false =>
    rw[Bx,a] at h
    simp only[Bx,a]
    exact c h
  ·rw[if_neg b]
   cases a:y == n with
   | true =>
    rw[Bx,a] at h
    exact .inr (by rw[Bx,a]; exact h)
   | false =>
    rw[Bx,a] at h
    simp only[Bx,a]
    exact c h
theorem Nz{a c:Type}[BEq a][LawfulBEq a]{y:a}{k:c}:∀{l:List (a×c)},l.lookup y=some k->(y,k)∈l
 | [],h=>by simp at h
 | (n,v)::r,h=>by
  cases b:y == n with
  | true =>
   rw[Bx,b] at h
   have e:=aC b
   subst e
   have : v=k:=by simpa using h
   subst this
   exact Ab
  | false =>
   rw[Bx,b] at h
   exact Ah _ (Nz h)
end
theorem jV{a c:Nat}(h:c<a)(e:c=a+1):False:=by omega
theorem Je:∀(names:List (Str×Pa)) (n:Nat) (a:List (Str×Addr)),Ew n names a=Ew n names []++a
 | [],_,_=>rfl
 | (x,k)::r,n,a=>by
  unfold Ew
  by_cases h:(k == Dy)=true
  ·rw[if_pos h,if_pos h,Je r _ ((x,n)::a),Je r _ [(x,n)],Az]; rfl
  ·rw[if_neg h,if_neg h]; exact Je r n a
theorem Nt:∀(names:List (Str×Pa)) (n:Nat) (a:List (Str×Addr)),(∀y∈names,y.2≠.cell)->Ew n names a=a
 | [],_,_,_=>rfl
 | (x,k)::r,n,a,h=>by
  unfold Ew
  rw[if_neg (by have:=h (x,k) Ab; simpa using this)]
  exact Nt r n a λy b=>h y (Ah _ b)
theorem Vx{env:Env}{y:Str}:∀{names:List (Str×Pa)},names.lookup y=some .cell->(names.map λ(n,k)=>if (k == Ef && env.scope.kind == .function && env.kindOf n == some .cell) then (n,Dy) else (n,k)).lookup y=some .cell
 | [],h=>by simp at h
 | (n,k0)::r,h=>by
  have c:=@Vx env y r
  show Ec y ((if (k0 == Ef && env.scope.kind == .function && env.kindOf n == some .cell)=true then (n,Dy) else (n,k0))::_)=_
  by_cases b:(k0 == Ef && env.scope.kind == .function && env.kindOf n == some .cell)=true
  ·rw[if_pos b]
   cases a:y == n with
   | true=>rw[Bx,a]
   | false=>rw[Bx,a] at h ⊢; exact c h
  ·rw[if_neg b]
   cases a:y == n with
   | true=>rw[Bx,a] at h ⊢; exact h
   | false=>rw[Bx,a] at h ⊢; exact c h
theorem Tf{env:Env}{a:Scope}{x:Str}(o:xM a x):Loc (relabel a env) x:=o.imp lookup_relabel_local Vx
section
variable{X:Cx}{a:Scope}{d:List (Str×Addr)}{x y:Str}{ys:List Str}{f:List Nat}{n c:Nat}{N:List Str}{fp:List Addr}{s:Ak}{H:Hp}
theorem Xs(o:xM a x):(Dw X a d N fp s H).fn x=true\/(Dw X a d N fp s H).env.scope.names.lookup x=some .local:=by
 rcases o with o | o
 ·exact .inr (lookup_relabel_local o)
 ·exact .inl (decide_eq_true o)
theorem CompScope.split(C:CompScope X a d x ys f)(h:(Ew n a.names d).lookup y=some c):d.lookup y=some c\/(c=n/\Ew 0 a.names []=[(y,0)]/\Ew n a.names []=[(y,n)]/\a.names.lookup y=some .cell):=by
 rcases C.oc with o | ⟨z,g,i,_⟩
 ·rw[Nt _ _ _ o] at h; exact .inl h
 ·rw[Je,g] at h
  have b:Ec y ((z,n)::d)=some c:=h
  rw[Bx] at b
  cases e:y == z with
  | true =>
   rw[e] at b
   have k:c=n:=(Br b).symm
   have j:=aC e
   subst j
   exact .inr ⟨k,g 0,g n,i⟩
  | false=>rw[e] at b; exact .inl b
theorem CompScope.find(C:CompScope X a d x ys f)(h:d.lookup y=some c)(b:a.names.lookup y=some .free):(Ew n a.names d).lookup y=some c:=by
 rcases C.oc with o | ⟨z,i,g,_⟩
 ·rw[Nt _ _ _ o]; exact h
 ·rw[Je,i]
  show Ec y ((z,n)::d)=some c
  rw[Bx]
  cases e:y == z with
  | true=>rw[aC e,g] at b; cases b
  | false=>exact h
theorem CompScope.cellAt(C:CompScope X a d x ys f)(b:(y,Dy)∈a.names):(Ew n a.names d).lookup y=some n:=by
 rcases C.oc with o | ⟨z,g,h,c⟩
 ·exact absurd rfl (o _ b)
 ·have e:y=z:=c _ b rfl
  subst e
  rw[Je,g]
  show Ec y ((y,n)::d)=some n
  rw[Bx,beq_self_eq_true]
theorem gJ{M:Model}{A:Cf}{E:Value->Ak->Prop}{Q:Env->Ak->Prop}(C:CompScope X a d x ys f)(h:∀h4,h4.Ns s.heap.objs.size (λ_=>none)->(∀b u,s.heap.get? b=some u->h4.get? b=some u)->(∀z n,Ew (s.heap.objs.size+1) a.names []=[(z,n)]->h4.IsCell n none)->Q (newEnv a s.heap.objs.size X.env.globals (Ew (s.heap.objs.size+1) a.names d) X.env.qual none .none (some X.env) Vr) { s with heap:=h4,toks:=s.toks+([]:List (Str×Value)).length }):wpAny M A (Zi a X.env.globals d [] X.env.qual none .none (some X.env)) Q E s:=by
 simp only[Zi,Option.isSome_some,if_true]
 refine Aa (wpAny_alloc (Aa (wpAny_layCells _ (λx k cs=>by cases e:k == Dy <;> simp [e]) _ _ _ _ ?_)))
 have c:({ s with heap:=s.heap.push { cls:=.type "dict",data:=.dict #[] } }:Ak).heap.objs.size=s.heap.objs.size+1:=Gz ..
 rw[c]
 refine Aa (Am (Am (h _ ((Heap.Ns.new s.heap (.type "dict")).keeps (pushCells_keeps _ _)) (λb u e=>pushCells_keeps _ _ b u (Aq _ e)) λz n e=>?_)))
 have ok:=(cellsFrom_ok a.names (s.heap.push { cls:=.type "dict",data:=.dict #[] }) 0 [] ⟨λ_ _ g=>(nomatch g),Es⟩ (Cw _)).empty z n
 rw[show (s.heap.push { cls:=.type "dict",data:=.dict #[] }).objs.size=s.heap.objs.size+1 from c,e] at ok
 exact (ok (List.mem_singleton.mpr rfl)).1
end
section
variable{X:Cx}{f:List (Addr×Obj)}{g:L2.St}{H:Hp}{s:Ak}{a:Scope}{t:List (Str×Addr)}{fp:List Addr}{N:List Str}
theorem W7{x:Str}{ys:List Str}{G:List Nat}(C:CompScope X a t x ys G)(I:Inv X f g H s)(u:∀b∈fp,Nj X f H b)(E:∀b∈fp,∃o,s.heap.get? b=some o):(Dw X a t N fp s H).Ok where
 mod:=I.ok.mod
 kind:=C.kind
 glob:=I.ok.glob
 blt:=I.ok.blt
 above:=Au _
 inj:=λy z c v l=>by
  have lt:∀y,t.lookup y=some c->c<s.heap.objs.size:=λy e=>let ⟨_,q⟩:=I.cell y c (C.sub y c e); q.lt
  rcases C.split v with v | ⟨e1,F,_⟩
  ·rcases C.split l with l | ⟨w,_⟩
   ·exact I.ok.inj y z c (C.sub y c v) (C.sub z c l)
   ·exact (jV (lt y v) w).elim
  ·rcases C.split l with l | ⟨w,A,_⟩
   ·exact (jV (lt z l) e1).elim
   ·rw[F] at A
    simpa using A
 has:=λy hy=>by
  have p:∀k,(k=Dy\/k=Ef)->(compEnvC a t s.heap.objs.size X.env).kindOf y=some k->∃c,(Ew (s.heap.objs.size+1) a.names t).lookup y=some c:=by
   intro k hk e
   obtain ⟨B,D,e1⟩:=Rz (names:=a.names) (env:=X.env) (y:=y) (k:=k) e
   have m:=Nz D
   by_cases r:B=.cell
   ·exact ⟨_,C.cellAt (r▸m)⟩
   have d:B=.free:=by
    rcases e1 with e1 | e1
    ·subst e1
     rcases hk with hk | hk
     ·exact absurd hk r
     ·exact hk
    ·exact e1.1
   obtain ⟨c,j⟩:=Qh.mp (C.has _ m d)
   exact ⟨c,C.find j (d▸D)⟩
  rcases hy with hy | hy
  ·exact p _ (.inl rfl) hy
  ·exact p _ (.inr rfl) hy
 cab:=λy c h e=>by
  have h:a.names.lookup y=some .cell:=of_decide_eq_true h
  have:=(C.cellAt (n:=s.heap.objs.size+1) (Nz h)).symm.trans e
  show s.heap.objs.size<=c
  have:=Br this
  omega
 hd:=I.ok.hd
 frames:=I.ok.frames
 stk:=.inl rfl
 exf:=λb i=>by
  obtain ⟨o,e⟩:=E b i
  refine ⟨Cj (Bb e),λy c j=>?_⟩
  rcases C.split j with j | ⟨j,_⟩
  ·exact (u b i).2.2.2.2.1 y c (C.sub y c j)
  ·exact λz=>jV (Bb e) (z.symm.trans j)
 bs:=I.bs
 bsz:=Bw I.ok.bsz I.sz
 noex:=λb o e i=>by
  rcases (u b i).2.2.2.1 with z | z
  ·exact I.ok.noex b o e z
  ·exact absurd (Ca (Bb (I.ok.bs b o e).1) z) (Fm _)
 exfs:=λb i z=>by
  rcases Ai.mp (I.stkSub b z) with e | e
  ·exact (u b i).2.1 e
  ·exact (u b i).2.2.1 e
 funs:=I.stack
 frf:=I.stkFree
 tab:=I.ok.tab.un I.base
def Gk(g:L2.St)(a:List Nat):L2.St:=a.map λj=>(g[j]?).join
theorem bW{x:Str}{pre ys:List Str}{E:List Nat}{F:Heap}{W:Nat}{O:Str->Option Value}(C:CompScope X a t x ys E)(I:Inv X f g H s)(Z:∀b∈fp,Nj X f H b)(ho:∀b∈fp,∃o,s.heap.get? b=some o)(L:F.Ns s.heap.objs.size O)(keep:∀b u,s.heap.get? b=some u->F.get? b=some u)(new:∀z n,Ew (s.heap.objs.size+1) a.names []=[(z,n)]->F.IsCell n none):Inv (Dw X a t (pre++ys) fp s H) [] (pre.map (λ_=>none)++Gk g E) H { s with heap:=F,toks:=W }:=by
 have w:∀y c,t.lookup y=some c->∃v,s.heap.IsCell c v/\F.IsCell c v:=λy c e=>by
  obtain ⟨v,o,q,d⟩:=I.cell y c (C.sub y c e)
  exact ⟨v,⟨o,q,d⟩,o,keep c o q,d⟩
 refine ⟨W7 C I Z ho,rfl,I.bare,Un.kept keep,⟨O,L,λi y v G m _=>?_⟩,λy c e=>?_,I.hok.fresh (Au _),λy c e=>?_,λp Y=>?_,I.hok.kept keep,?_⟩
 ·have m:(pre.map (λ_=>(none:Option V))++Gk g E)[i]? = some (some v):=m
  have G:(pre++ys)[i]? = some y:=G
  by_cases hi:i<pre.length
  ·rw[lC (by rw[Af]; exact hi),Bu] at m
   cases q:pre[i]? with
   | none=>rw[q] at m; cases m
   | some z=>rw[q] at m; cases m
  ·rw[Kk (by rw[Af]; omega),Af] at m
   rw[Kk (by omega)] at G
   have B:=G
   have h:=m
   generalize i - pre.length=k at B h
   unfold Gk at h
   rw[Bu] at h
   cases M:E[k]? with
   | none=>rw[M] at h; simp at h
   | some j =>
    rw[M] at h
    have A:(g[j]?).join=some v:=by simpa using h
    have Q:g[j]? = some (some v):=by
     cases q:g[j]? with
     | none=>rw[q] at A; simp at A
     | some z=>rw[q] at A; simp at A; rw[A]
    obtain ⟨T,K,a3⟩:=C.at_ k y j B M
    obtain ⟨m0,_,hl⟩:=I.loc
    have N:JI X.env.scope y:=a3.elim (λa3=>.inr (.inl a3)) λa3=>.inr (.inr a3)
    obtain ⟨u,r,l⟩:=hl j y v T Q N
    refine ⟨u,r,?_⟩
    rcases l with ⟨R,_⟩ | ⟨_,c,P,U⟩
    ·rcases a3 with a3 | a3 <;> rw[R] at a3 <;> cases a3
    ·obtain ⟨J,D⟩:=Qh.mp (C.has _ (Nz K) rfl)
     have ec:J=c:=by
      have:=C.sub y J D
      rw[P] at this
      exact (Br this).symm
     subst ec
     obtain ⟨o,q,d⟩:=U
     exact .inr ⟨Wc K,J,C.find D K,o,keep J o q,d⟩
 ·rcases C.split e with e | ⟨e,_,S,_⟩
  ·obtain ⟨v,_,z⟩:=w y c e
   exact ⟨v,z⟩
  ·exact ⟨_,e▸new _ _ S⟩
 ·rcases C.split e with e | ⟨e,_⟩
  ·exact I.freeC y c (C.sub y c e)
  ·exact I.hok.fresh (by omega)
 ·cases (show p∈([]:List (Addr×Obj)) from Y)
 ·show (pre.map (λ_=>(none:Option V))++Gk g E).length=(pre++ys).length
  simp [Gk,C.len]
end
section
variable{X:Cx}
def X0(J:It)(j:List Nat)(o:TT)(n:TE)(k:L2.St)(h:Hp)(Q:VK):Prop:=∀D,h D=none->∃W:Nat->Nat->Hp->Prop,(∃m,W 0 m (upd h D (.lst [])))/\∀i m H,W i m H ->
 (J.stop i H/\Q (.ref D) H)\/(J.go i H/\∀x l,J.yld i H x l->∃(g:Hp->Prop) (f:VK),(∀b,g b->∃d,d<m/\W (i+1) d b) /\
  (∀y e,f y e->∃a,e D=some (.lst a)/\a.length<Ba/\∃d,d<m/\W (i+1) d (upd e D (.lst (a++[y])))) /\
  o (some x::Gk k j) l λc b=>if c=true then n (some x::Gk k j) b f else g b)
def uD(c:TI)(f:List Nat)(e:TT)(d:TE):TE:=λa H Q=>c a H λJ b=>X0 J f e d a b Q
def Wp:TT:=λ_ H Q=>Q true H
def wK(X:Cx)(b:List Expr)(t:TT):Prop :=
 ∀(a:List (Addr×Obj)) (s:Ak) (d:L2.St) (H:Hp) (Q:Bool->Hp->Prop),Inv X a d H s->t d H Q ->
  wpAny (model X.prog X.w) X.A (forIn b true λc r=>if r=true then (do
   let ok <- isTrue c X.env (eval c X.env)
   pure (Ms ok)) else pure (Ms r)) (TP X a d Q) X.xe s
theorem t7:wK X [] Wp:=λa s b H Q I h=>wpAny_tests_nil ⟨H,I,h⟩
theorem Q5{c:Expr}{t:TT}(h:PT X c t):wK X [c] t:=λa s b H Q I q=>wpAny_tests_one (h a s b H Q I q)
theorem dJ{X A:Cx}{d:List (Addr×Obj)}{F D:L2.St}{v m:Hp}{f h:Ak}{l:Scope}{H:List (Str×Addr)}{N:List Str}{fp:List Addr}(a:Dw X l H N fp f v=A)(L:Inv X d F v f)(B:∀b∈fp,Nj X d v b)(p:Inv A [] D m h):∃C,h.heap.Ns f.heap.objs.size C/\∀h8,Dd f.heap.objs.size h.heap h8->Inv X d F m { h with heap:=h8 }:=by
 have G:A.prog=X.prog:=by rw[<- a]; rfl
 have O:A.w=X.w:=by rw[<- a]; rfl
 obtain ⟨C,s,_⟩:=p.loc
 have r:h.heap.Ns f.heap.objs.size C:=by rw[<- a] at s; exact s
 refine ⟨C,r,λh8 g=>?_⟩
 have x:m f.heap.objs.size=none:=by have:=p.free; rw[<- a] at this; exact this
 have k:Un (Ws X.stack) fp v m f.heap h.heap:=by have:=p.base; rw[<- a] at this; exact this
 have j:∀b o,f.heap.get? b=some o->b≠f.heap.objs.size:=λb o q=>Cj (Bb q)
 have I:Un (Ws X.stack) fp v m f.heap h8:=by
  refine ⟨λb o q n i u=>(g.2 b (j b o q)).trans (k.keep b o q n i u),λb o q n i u=>?_,k.free,λb o q u=>?_,k.tups,k.frzs,k.tbls⟩
  ·obtain ⟨M,z⟩:=k.slot b o q n i u
   exact ⟨M,(g.2 b (j b o q)).trans z⟩
  ·obtain ⟨K,z⟩:=k.there b o q u
   exact ⟨K,(g.2 b (j b o q)).trans z⟩
 have y:Zw X.prog X.w m h8:=λb J e=>by
  have t:=p.hok
  rw[G,O] at t
  refine (t b J e).stay (λc P hcc q=>(g.2 c ?_).trans q) (λ_ q=>q) λ_ _ q=>q
  rintro rfl
  rcases hcc with rfl | hcc
  ·rw[x] at e; cases e
  ·rw[x] at hcc; cases hcc
 have E:h.os=f.os:=by have:=p.os; rw[<- a] at this; exact this
 exact L.call' (s':={ h with heap:=h8 }) (ch:=fp) E I y p.bare (λb i=>⟨(B b i).2.2.2.1,(B b i).2.1,(B b i).2.2.2.2.1,(B b i).2.2.2.2.2⟩)
theorem gK{X e:Cx}{f:L2.St}{m l:Hp}{o i:Ak}{c:Scope}{n:List (Str×Addr)}{N:List Str}{fp:List Addr}(d:Dw X c n N fp o m=e)(j:Inv e [] f l i){H':Hp}(k:∀b∈fp,H' b=none):∀b∈fp,Nj e [] H' b:=λb g=>by
 have ok:=j.ok
 have a:b∈e.ex:=by rw[<- d]; exact g
 exact ⟨k b g,(ok.exf b a).1,ok.exfs b a,.inl a,(ok.exf b a).2,λp h=>by rw[<- d] at h; cases (show p∈([]:List (Addr×Obj)) from h)⟩
theorem oM{X b:Cx}{e:Hp}{g:Ak}{a:Scope}{f:List (Str×Addr)}{N:List Str}{fp:List Addr}(d:X.calm=true)(c:Dw X a f N fp g e=b):b.prog=X.prog/\b.w=X.w/\b.K=X.K/\b.A=X.A/\b.calm=true:=by
 subst c
 exact ⟨rfl,rfl,rfl,rfl,d⟩
theorem vN{X p:Cx}{a:List (Addr×Obj)}{o j:L2.St}{l k:Hp}{h e:Ak}{c:Scope}{r:List (Str×Addr)}{N:List Str}{fp:List Addr}(i:Dw X c r N fp h l=p)(q:Inv X a o l h)(g:∀b∈fp,Nj X a l b)(d:Inv p [] j k e):(∃n,e.heap.Ns h.heap.objs.size n)/\k h.heap.objs.size=none/\Inv X a o k e:=by
 subst i
 obtain ⟨n,m,_⟩:=d.loc
 exact ⟨⟨n,m⟩,d.free,q.call' (s':=e) (ch:=fp) d.os d.base d.hok d.bare (λb f=>⟨(g b f).2.2.2.1,(g b f).2.1,(g b f).2.2.2.2.1,(g b f).2.2.2.2.2⟩)⟩
theorem mL{X:Cx}{a:List (Addr×Obj)}{j:L2.St}{h:Hp}{c:Ak}{l:Expr}{J:It}{fp:List Addr}{it:Addr}{i:Nat->Heap->Prop}(m:Inv X a j h c)(T:Turn X.prog X.w X.K l J fp it i)(e:i 0 c.heap)(f2:∀b∈fp,Nj X a h b){g:Obj}{k:HO}(n:Inv X a j (upd h c.heap.objs.size k) { c with heap:=c.heap.push g }):(∀b∈fp,Nj X a (upd h c.heap.objs.size k) b)/\i 0 (c.heap.push g)/\∀b∈fp,∃o,(c.heap.push g).get? b=some o:=by
 have f:i 0 (c.heap.push g):=T.keep 0 _ _ e λb d o q=>Aq _ q
 refine ⟨λb d=>⟨?_,(f2 b d).2⟩,f,λb d=>?_⟩
 ·rw[Cn ?_]
  ·exact (f2 b d).1
  ·intro z
   obtain ⟨o,q,_⟩:=T.obj _ _ e b d
   have:=Bb q
   rw[z] at this
   exact absurd this (Fm _)
 ·obtain ⟨o,q,_⟩:=T.obj _ _ f b d
  exact ⟨o,q⟩
end
theorem Et{H:Hp}{p:Addr}(h:H p=none)(o:HO):Lu H (upd H p o):=λb u q=>by rw[Cn (Ea q h)]; exact q
theorem Ly{a:Type}{xs:List a}{i:Nat}{x:a}(h:xs[i]? = some x):xs.take (i+1)=xs.take i++[x]:=by
 rw[List.take_succ,h]; rfl
mutual
inductive RdV (K:PySem.W.Frag) (H:Hp):V->Ad->Prop
 | non:RdV K H .non .none
 | bl (b:Bool):RdV K H (.bl b) (.bool b)
 | int (i:Int):RdV K H (.int i) (.int i)
 | str (x:Str):RdV K H (.str x) (.str x)
 | lst {a:Addr} {xs:List V} {ds:List Ad}:Ua K H a xs->RdVs K H xs ds->RdV K H (.ref a) (.list ds)
 | tup {a:Addr} {xs:List V} {ds:List Ad}:Tr K H a xs->RdVs K H xs ds->RdV K H (.ref a) (.tuple ds)
inductive RdVs (K:PySem.W.Frag) (H:Hp):List V->List Ad->Prop
 | nil:RdVs K H [] []
 | cons {x:V} {d:Ad} {xs:List V} {ds:List Ad}:RdV K H x d->RdVs K H xs ds->RdVs K H (x::xs) (d::ds)
end
theorem pV(ns:List Int):Bl (ns.map Bz)=0:=by
 induction ns with
 | nil=>rfl
 | cons n ns a=>simp only[Ap,Bl,Cu,a,Nat.max_self]
theorem Sw{m:Nat}:∀{xs:List Ad},(∀x∈xs,x.depth<=m)->Bl xs<=m
 | [],_=>by simp [Bl]
 | x::xs,h=>by
  have b:=h x (Ab ..)
  have c:=Sw (xs:=xs) λy a=>h y (Ah _ a)
  simp only[Bl]
  omega
theorem Fj.at'{xs:List V}{us:List Value}(r:Fj xs us){j:Nat}(h:j<us.length):∃x,xs[j]? = some x/\RelV x us[j]:=by
 have d:=r.length
 have a:j<xs.length:=by omega
 obtain ⟨u,b,c⟩:=r.get (i:=j) (x:=xs[j]) (by simp [a])
 rw[Lg h] at b
 cases b
 exact ⟨xs[j],by simp [a],c⟩
section
variable{X:Cx}{a:List (Addr×Obj)}{c:L2.St}{H:Hp}{s:Ak}{A:Cf}
theorem Xq(A:Cf):A.in1.units<=A.units+1:=by
 first | exact Au _ | (simp [Around.in1]; done) | (unfold Around.in1; simp)
theorem nR:Na X (.builtin "isinstance") (λxs H Q=>∃x n t b,xs=[x,.ty n]/\TyOf X.K H x t/\PySem.W.kitOne X.K t (.type n)=some b/\Q (.bl b) H):=by
 intro a s c H xs i Q I r h
 obtain ⟨x,n,t,b,rfl,ty,e,q⟩:=h
 obtain ⟨u,v,rfl,f,d⟩:=vals2 r
 cases d
 exact yC I f ty e λg=>⟨.bl b,H,I.tok _,rfl,q⟩
theorem mY(F:X.calm=true):Na X (.builtin "all") (λxs H Q=>∃(p:Addr) (bs:List Bool),xs=[.ref p]/\Ua X.K H p (bs.map V.bl)/\Q (.bl (bs.all id)) H):=by
 intro a s c H xs U Q I r h
 obtain ⟨p,bs,rfl,T,q⟩:=h
 obtain ⟨u,rfl,G⟩:=vals1 r
 cases G
 obtain ⟨d,C,n,_⟩:=I.list T
 have g:d.toArray.size=bs.length:=by
  have:=C.length
  rw[Af] at this
  rw[Av]; omega
 refine call_all_walk (Nb n.isList ?_)
 have N:X.A.in1.handled=none:=I.ok.hd F
 have P:p≠s.heap.objs.size:=Cj (let ⟨o,q,_⟩:=n.isList; Bb q)
 refine ⟨s.heap.objs.size,_,_,_,_,_,λi=>bs.getD i false,rfl,Walks.list N s.heap.objs.size p P d.toArray,⟨⟨_,Be _ rfl,rfl,rfl⟩,n.isList.push _⟩,?_,?_⟩
 ·intro i v L E W R O
  have f:d[i]? = some v:=by simpa using R
  have D:i<d.length:=(Aw.mp f).1
  obtain ⟨x,l,y⟩:=Fj.at' C D
  rw[Lg D] at f
  have k:d[i]=v:=Br f
  rw[k] at y
  rw[Bu] at l
  cases t:bs[i]? with
  | none=>rw[t] at l; cases l
  | some b =>
   rw[t] at l
   cases l
   cases y
   have : bs.getD i false=b:=by simp [kX,t]
   have m:E (bs.getD i false) L:=O
   rw[this] at m
   exact Ij m
 ·intro h' S J
  have e:((Ci d.toArray.size).all λi=>bs.getD i false)=bs.all id:=by
   rw[g]
   have : bs=(Ci bs.length).map (λj=>bs.getD j false):=(range_getD bs false).symm
   conv=>rhs; rw[this]
   rw[aH]
   rfl
  rw[e]
  refine ⟨.bl _,H,I.kept (h':=h') (t':=S) (λb o B=>J b o ?_ (Aq _ B)),rfl,q⟩
  intro z
  have M:b=s.heap.objs.size:=by simpa using z
  have w:=Bb B
  rw[M] at w
  exact absurd w (Fm _)
end
section
variable{prog:Bk}{w:World}{A:Cf}{E:Value->Ak->Prop}{s:Ak}
theorem Tz{t i:Addr}{a:Array Value}{k j:Value}{lo m:Option Int}{Q:Value->Ak->Prop}(c:IsTup s.heap t a)(l:s.heap.IsSliceOf i k j .none)(pl:Zm k lo)(n:Zm j m)(hw:HT.sIx a.size 0 lo=0/\HT.sIx a.size a.size m=a.size)(h:Q (.ref t) s):wpAny (model prog w) A (getItem (.ref t) (.ref i)) Q E s:=by
 obtain ⟨os,d,g,p⟩:=id l
 have e:s.TypeIs (.ref i) "slice" := ⟨os,d,g⟩
 unfold getItem
 try with_reducible refine Dx ?_
 first | refine Aa (Am ?_) | skip
 refine Aa (wpAny_sequenceKey c.typeIs (by decide) ?_)
 refine Aa (Eu (name:=Kv "__getitem__") c.typeIs Eh
  (Ek Eh c.typeIs entry_tuple_getitem ?_ (args_tuple_getitem _ _)))
 show wpAny _ _ (Xb (.ref t) >>= _) _ _ s
 refine Aa (tupleItemsOf_ c ?_)
 refine Aa (iB e ?_)
 rw[if_pos (by decide)]
 refine Aa (HT.sliceApplied_gen l pl n ?_)
 rw[hw.1,hw.2]
 have b:(((0:Nat):Int) == 0 && (1:Int) == 1 && (a.size - 0) == a.size)=true:=by simp
 show wpAny _ _ (if (((0:Nat):Int) == 0 && (1:Int) == 1 && (a.size - 0) == a.size)=true then _ else _) _ _ s
 rw[if_pos b]
 have f:∀{R:Bool->Ak->Prop},R true s->wpAny (model prog w) A.in1 (Xc (.ref t)) R E s:=λ{R} o=>by
  unfold Xc
  refine Aa (iB c.typeIs (Am ?_))
  rw[beq_self_eq_true]
  exact o
 refine Aa (f ?_)
 rw[if_pos rfl]
 exact Aa (Rr (Am ⟨_,rfl,Am h⟩))
end
mutual
def Dt:Ad->Ad->Bool
 | .none,.none=>true
 | .bool a,.bool b=>a == b
 | .bool a,.int b=>(if a then 1 else 0) == b
 | .int a,.bool b=>a == (if b then 1 else 0)
 | .int a,.int b=>a == b
 | .str a,.str b=>a == b
 | .list xs,.list ys=>Jb xs ys
 | .tuple xs,.tuple ys=>Jb xs ys
 | _,_=>false
def Jb:List Ad->List Ad->Bool
 | [],[]=>true
 | x::xs,y::ys=>Dt x y && Jb xs ys
 | _,_=>false
end
theorem Nu:∀ds es:List Ad,(((Ci (min ds.length es.length)).all λj=>Dt (ds.getD j .none) (es.getD j .none)) && ds.length == es.length)=Jb ds es
 | [],[]=>by simp [Jb]
 | [],_::_=>by simp [Jb]
 | _::_,[]=>by simp [Jb]
 | d::ds,e::es=>by
  have c:=Nu ds es
  rw[Jb,<- c]
  have a:min (d::ds).length (e::es).length=min ds.length es.length+1:=by simp only[Bp]; omega
  rw[a,List.range_succ_eq_map,List.all_cons,aH]
  have b:((d::ds).length == (e::es).length)=(ds.length == es.length):=by
   rw[Bool.eq_iff_iff]; simp
  rw[b,Bool.and_assoc]
  rfl
section
variable{X:Cx}{a:List (Addr×Obj)}{c:L2.St}{H:Hp}{s:Ak}{K:PySem.W.Frag}
mutual
theorem RdV.eqD_self:∀{v:V} {d:Ad},RdV K H v d->Dt d d=true
 | _,_,.non=>by simp [Dt]
 | _,_,.bl b=>by simp [Dt]
 | _,_,.int i=>by simp [Dt]
 | _,_,.str x=>by simp [Dt]
 | _,_,.lst _ h=>by rw[Dt]; exact RdVs.eqDs_self h
 | _,_,.tup _ h=>by rw[Dt]; exact RdVs.eqDs_self h
theorem RdVs.eqDs_self:∀{vs:List V} {ds:List Ad},RdVs K H vs ds->Jb ds ds=true
 | _,_,.nil=>by simp [Jb]
 | _,_,.cons h t=>by rw[Jb,RdV.eqD_self h,RdVs.eqDs_self t]; rfl
end
theorem oU(I:Inv X pins σ H s){a:Addr}{xs ys:List V}(b:Ua X.K H a xs)(c:Tr X.K H a ys):False:=by
 obtain ⟨f,_,d,_⟩:=I.list b
 obtain ⟨vs,_,e,_⟩:=I.tuple c
 exact SeqAt.ne_of_list_tuple d.isList e rfl
mutual
theorem RdV.det(I:Inv X pins σ H s):∀{v:V} {d e:Ad},RdV X.K H v d->RdV X.K H v e->d=e
 | _,_,_,.non,h=>by cases h; rfl
 | _,_,_,.bl b,h=>by cases h; rfl
 | _,_,_,.int i,h=>by cases h; rfl
 | _,_,_,.str x,h=>by cases h; rfl
 | _,_,_,.lst q r,h=>by
  cases h with
  | lst a c =>
   have e:=I.list_inj q a
   subst e
   rw[RdVs.det I r c]
  | tup a c=>exact (oU I q a).elim
 | _,_,_,.tup q r,h=>by
  cases h with
  | lst a c=>exact (oU I a q).elim
  | tup a c =>
   have e:=I.tuple_inj q a
   subst e
   rw[RdVs.det I r c]
theorem RdVs.det(I:Inv X pins σ H s):∀{vs:List V} {ds es:List Ad},RdVs X.K H vs ds->RdVs X.K H vs es->ds=es
 | _,_,_,.nil,h=>by cases h; rfl
 | _,_,_,.cons r t,h=>by
  cases h with
  | cons b a=>rw[RdV.det I r b,RdVs.det I t a]
end
theorem RdVs.length:∀{vs:List V} {ds:List Ad},RdVs K H vs ds->vs.length=ds.length
 | _,_,.nil=>rfl
 | _,_,.cons _ t=>by rw[Bp,Bp,RdVs.length t]
theorem Xg{A:Cf}{n:Nat}(h:A.units+(n+1)<cLine):A.in1.units+n<cLine:=by
 have:=Xq A
 omega
theorem lN{A:Cf}{a b:Addr}{us vs:List Value}{ds es:List Ad}(i:PlainL s.heap a us.toArray)(g:PlainL s.heap b vs.toArray)(l1:us.length=ds.length)(l2:vs.length=es.length)(k:A.units<cLine)(m:∀j (f:j<us.length) (l:j<vs.length),Oy A.in1 s us[j] vs[j] (Dt (ds.getD j .none) (es.getD j .none))):SeqAt.RcAt A s (.ref a) (.ref b) (Jb ds es):=by
 rw[<- Nu]
 by_cases c:ds.length=es.length
 ·have d:us.toArray.size=vs.toArray.size:=by rw[Av,Av,l1,l2,c]
  have h:=SeqAt.RcAt.lists (A:=A) (e:=λj=>Dt (ds.getD j .none) (es.getD j .none)) i.isList g.isList d k (λj f l=>by simpa using m j (by simpa using f) (by simpa using l))
  rw[Av,l1] at h
  rw[c,Nat.min_self,beq_self_eq_true,Bool.and_true,<- c]
  exact h
 ·have d:(us.toArray.size != vs.toArray.size)=true:=by rw[Av,Av,l1,l2]; simpa using c
  have h:=SeqAt.RcAt.lists_lengths (A:=A) i.isList g.isList d k
  have n:(ds.length == es.length)=false:=by simpa using c
  rw[n,Vn]
  exact h
theorem gA{A:Cf}{a b:Addr}{us vs:List Value}{ds es:List Ad}(i:IsTup s.heap a us.toArray)(g:IsTup s.heap b vs.toArray)(l1:us.length=ds.length)(l2:vs.length=es.length)(k:A.units<cLine)(f:∀j (c:j<us.length) (d:j<vs.length),Oy A.in1 s us[j] vs[j] (Dt (ds.getD j .none) (es.getD j .none))):SeqAt.RcAt A s (.ref a) (.ref b) (Jb ds es):=by
 rw[<- Nu]
 have h:=SeqAt.RcAt.tuples (A:=A) (e:=λj=>Dt (ds.getD j .none) (es.getD j .none)) (show s.heap.IsTuple a us.toArray from i) (show s.heap.IsTuple b vs.toArray from g) k (λj c d=>by simpa using f j (by simpa using c) (by simpa using d))
 rw[Av,Av,l1,l2] at h
 exact h
mutual
theorem zV(I:Inv X pins σ H s):∀{A:Cf} {x y:V} {d e:Ad} {u v:Value},RdV X.K H x d->RdV X.K H y e->RelV x u->RelV y v->A.units+d.depth<cLine->Oy A s u v (Dt d e)
 | A,_,_,_,_,_,_,.non,h,ru,rv,hu=>by
  cases ru
  have c:A.units<cLine:=by omega
  cases h with
  | non=>cases rv; rw[Dt]; exact SeqAt.EqAt.same _
  | bl b=>cases rv; rw[Dt]; exact SeqAt.EqAt.none_bool b; all_goals simp
  | int b=>obtain ⟨t,rfl⟩:=rv; rw[Dt]; exact SeqAt.EqAt.none_int b t; all_goals simp
  | str b=>obtain ⟨t,rfl⟩:=rv; rw[Dt]; exact SeqAt.EqAt.none_str b t; all_goals simp
  | lst q r=>cases rv; obtain ⟨k,_,p,_⟩:=I.list q; rw[Dt]; exact SeqAt.EqAt.none_list p.isList c; all_goals simp
  | tup q r=>cases rv; obtain ⟨k,_,p,_⟩:=I.tuple q; rw[Dt]; exact SeqAt.EqAt.none_tuple p c; all_goals simp
 | A,_,_,_,_,_,_,.bl a,h,ru,rv,hu=>by
  cases ru
  have c:A.units<cLine:=by omega
  cases h with
  | non=>cases rv; rw[Dt]; exact SeqAt.EqAt.bool_none a; all_goals simp
  | bl b=>cases rv; rw[Dt]; exact SeqAt.EqAt.bool_bool a b
  | int b=>obtain ⟨t,rfl⟩:=rv; rw[Dt]; exact SeqAt.EqAt.bool_int a b t
  | str b=>obtain ⟨t,rfl⟩:=rv; rw[Dt]; exact SeqAt.EqAt.bool_str a b t; all_goals simp
  | lst q r=>cases rv; obtain ⟨k,_,p,_⟩:=I.list q; rw[Dt]; exact SeqAt.EqAt.bool_list a p.isList c; all_goals simp
  | tup q r=>cases rv; obtain ⟨k,_,p,_⟩:=I.tuple q; rw[Dt]; exact SeqAt.EqAt.bool_tuple a p c; all_goals simp
 | A,_,_,_,_,_,_,.int a,h,ru,rv,hu=>by
  obtain ⟨g,rfl⟩:=ru
  have c:A.units<cLine:=by omega
  cases h with
  | non=>cases rv; rw[Dt]; exact SeqAt.EqAt.int_none a g; all_goals simp
  | bl b=>cases rv; rw[Dt]; exact SeqAt.EqAt.int_bool a g b
  | int b=>obtain ⟨t,rfl⟩:=rv; rw[Dt]; exact SeqAt.EqAt.int_int a g b t
  | str b=>obtain ⟨t,rfl⟩:=rv; rw[Dt]; exact SeqAt.EqAt.int_str a g b t; all_goals simp
  | lst q r=>cases rv; obtain ⟨k,_,p,_⟩:=I.list q; rw[Dt]; exact SeqAt.EqAt.int_list a g p.isList c; all_goals simp
  | tup q r=>cases rv; obtain ⟨k,_,p,_⟩:=I.tuple q; rw[Dt]; exact SeqAt.EqAt.int_tuple a g p c; all_goals simp
 | A,_,_,_,_,_,_,.str a,h,ru,rv,hu=>by
  obtain ⟨g,rfl⟩:=ru
  have c:A.units<cLine:=by omega
  cases h with
  | non=>cases rv; rw[Dt]; exact SeqAt.EqAt.str_none a g; all_goals simp
  | bl b=>cases rv; rw[Dt]; exact SeqAt.EqAt.str_bool a g b; all_goals simp
  | int b=>obtain ⟨t,rfl⟩:=rv; rw[Dt]; exact SeqAt.EqAt.str_int a g b t; all_goals simp
  | str b=>obtain ⟨t,rfl⟩:=rv; rw[Dt]; exact SeqAt.EqAt.str_str a g b t
  | lst q r=>cases rv; obtain ⟨k,_,p,_⟩:=I.list q; rw[Dt]; exact SeqAt.EqAt.str_list a g p.isList c; all_goals simp
  | tup q r=>cases rv; obtain ⟨k,_,p,_⟩:=I.tuple q; rw[Dt]; exact SeqAt.EqAt.str_tuple a g p c; all_goals simp
 | A,_,_,_,_,_,_,@RdV.lst _ _ a xs ds q r,h,ru,rv,hu=>by
  cases ru
  have c:A.units<cLine:=by omega
  obtain ⟨k,o,p,_⟩:=I.list q
  cases h with
  | non=>cases rv; rw[Dt]; exact SeqAt.EqAt.list_none p.isList c; all_goals simp
  | bl b=>cases rv; rw[Dt]; exact SeqAt.EqAt.list_bool b p.isList c; all_goals simp
  | int b=>obtain ⟨t,rfl⟩:=rv; rw[Dt]; exact SeqAt.EqAt.list_int b t p.isList c; all_goals simp
  | str b=>obtain ⟨t,rfl⟩:=rv; rw[Dt]; exact SeqAt.EqAt.list_str b t p.isList c; all_goals simp
  | @lst b B C l f =>
   cases rv
   obtain ⟨vs,n,m,_⟩:=I.list l
   rw[Dt]
   by_cases i:a=b
   ·subst i
    have e:=I.list_inj q l
    subst e
    rw[<- RdVs.det I r f,RdVs.eqDs_self r]
    exact SeqAt.EqAt.same _
   ·refine SeqAt.EqAt.of_refs i (lN p m (o.length.symm.trans r.length) (n.length.symm.trans f.length) c λj w z=>?_)
    exact Qz I r f o n (Xg (by simpa only [Cu] using hu)) j w z
  | tup l f=>cases rv; obtain ⟨vs,_,m,_⟩:=I.tuple l; rw[Dt]; exact SeqAt.EqAt.list_tuple p.isList m c; all_goals simp
 | A,_,_,_,_,_,_,@RdV.tup _ _ a xs ds q r,h,ru,rv,hu=>by
  cases ru
  have c:A.units<cLine:=by omega
  obtain ⟨k,o,p,_⟩:=I.tuple q
  cases h with
  | non=>cases rv; rw[Dt]; exact SeqAt.EqAt.tuple_none p c; all_goals simp
  | bl b=>cases rv; rw[Dt]; exact SeqAt.EqAt.tuple_bool b p c; all_goals simp
  | int b=>obtain ⟨t,rfl⟩:=rv; rw[Dt]; exact SeqAt.EqAt.tuple_int b t p c; all_goals simp
  | str b=>obtain ⟨t,rfl⟩:=rv; rw[Dt]; exact SeqAt.EqAt.tuple_str b t p c; all_goals simp
  | lst l f=>cases rv; obtain ⟨vs,_,m,_⟩:=I.list l; rw[Dt]; exact SeqAt.EqAt.tuple_list p m.isList c; all_goals simp
  | @tup b B C l f =>
   cases rv
   obtain ⟨vs,n,m,_⟩:=I.tuple l
   rw[Dt]
   by_cases i:a=b
   ·subst i
    have e:=I.tuple_inj q l
    subst e
    rw[<- RdVs.det I r f,RdVs.eqDs_self r]
    exact SeqAt.EqAt.same _
   ·refine SeqAt.EqAt.of_refs i (gA p m (o.length.symm.trans r.length) (n.length.symm.trans f.length) c λj w z=>?_)
    exact Qz I r f o n (Xg (by simpa only [Cu] using hu)) j w z
theorem Qz(I:Inv X pins σ H s):∀{A:Cf} {xs ys:List V} {ds es:List Ad} {us vs:List Value},RdVs X.K H xs ds->RdVs X.K H ys es->Fj xs us->Fj ys vs->A.units+Bl ds<cLine->∀j (a:j<us.length) (b:j<vs.length),Oy A s us[j] vs[j] (Dt (ds.getD j .none) (es.getD j .none))
 | _,_,_,_,_,_,_,.nil,_,r1,_,_=>λj a b=>by cases r1; exact absurd a (Lp _)
 | A,_,_,_,_,_,_,@RdVs.cons _ _ x d xs ds r t,h,r1,r2,hu=>λj a b=>by
  cases h with
  | nil=>cases r2; exact absurd b (Lp _)
  | cons f k =>
   cases r1 with
   | cons l g =>
    cases r2 with
    | cons i e =>
     have c:A.units+d.depth<cLine/\A.units+Bl ds<cLine:=by
      simp only[Bl] at hu
      omega
     cases j with
     | zero=>simpa using zV I r f l i c.1
     | succ j=>simpa using Qz I t k g e c.2 j (by simpa using a) (by simpa using b)
end
end
section
variable{X:Cx}{c:List (Addr×Obj)}{d:L2.St}{H:Hp}{s:Ak}{K:PySem.W.Frag}
theorem xG{A:Cf}{a b:Addr}{us vs:List Value}{ds es:List Ad}(i:PlainL s.heap a us.toArray)(g:PlainL s.heap b vs.toArray)(l1:us.length=ds.length)(l2:vs.length=es.length)(k:A.units<cLine)(m:∀j (f:j<us.length) (l:j<vs.length),Oy A.in1 s us[j] vs[j] (Dt (ds.getD j .none) (es.getD j .none))):SeqAt.RcNeAt A s (.ref a) (.ref b) (!Jb ds es):=by
 rw[<- Nu]
 by_cases c:ds.length=es.length
 ·have d:us.toArray.size=vs.toArray.size:=by rw[Av,Av,l1,l2,c]
  have h:=SeqAt.RcNeAt.lists (A:=A) (e:=λj=>Dt (ds.getD j .none) (es.getD j .none)) i.isList g.isList d k (λj f l=>by simpa using m j (by simpa using f) (by simpa using l))
  rw[Av,l1] at h
  rw[c,Nat.min_self,beq_self_eq_true,Bool.and_true,<- c]
  exact h
 ·have d:(us.toArray.size != vs.toArray.size)=true:=by rw[Av,Av,l1,l2]; simpa using c
  have h:=SeqAt.RcNeAt.lists_lengths (A:=A) i.isList g.isList d k
  have n:(ds.length == es.length)=false:=by simpa using c
  rw[n,Vn]
  exact h
theorem qM{A:Cf}{a b:Addr}{us vs:List Value}{ds es:List Ad}(i:IsTup s.heap a us.toArray)(g:IsTup s.heap b vs.toArray)(l1:us.length=ds.length)(l2:vs.length=es.length)(k:A.units<cLine)(f:∀j (c:j<us.length) (d:j<vs.length),Oy A.in1 s us[j] vs[j] (Dt (ds.getD j .none) (es.getD j .none))):SeqAt.RcNeAt A s (.ref a) (.ref b) (!Jb ds es):=by
 rw[<- Nu]
 have h:=SeqAt.RcNeAt.tuples (A:=A) (e:=λj=>Dt (ds.getD j .none) (es.getD j .none)) (show s.heap.IsTuple a us.toArray from i) (show s.heap.IsTuple b vs.toArray from g) k (λj c d=>by simpa using f j (by simpa using c) (by simpa using d))
 rw[Av,Av,l1,l2] at h
 exact h
end
section
variable{X:Cx}
def GR(K:PySem.W.Frag):R2:=λx y H Q=>∃d e,RdV K H x d/\RdV K H y e/\d.depth<=60/\Q (.bl (Dt d e)) H
def HZ(K:PySem.W.Frag):R2:=λx y H Q=>∃d e,RdV K H x d/\RdV K H y e/\d.depth<=60/\Q (.bl (!Dt d e)) H
theorem C0(M:X.A.units+64<cLine):Xa X (Ii .Eq) (GR X.K):=by
 intro E s N H x y v u Q I z f h
 obtain ⟨d,e,C,w,F,q⟩:=h
 have c:X.A.units<cLine:=by omega
 cases C with
 | non =>
  cases z
  cases w with
  | non=>cases f; rw[Dt] at q; exact SeqAt.RcAt.none_none _ _ _ _ ⟨.bl _,H,I,rfl,q⟩
  | bl b=>cases f; rw[Dt] at q; exact SeqAt.RcAt.none_bool b _ _ _ _ ⟨.bl _,H,I,rfl,q⟩; all_goals simp
  | int b=>obtain ⟨t,rfl⟩:=f; rw[Dt] at q; exact SeqAt.RcAt.none_int b t _ _ _ _ ⟨.bl _,H,I,rfl,q⟩; all_goals simp
  | str b=>obtain ⟨t,rfl⟩:=f; rw[Dt] at q; exact SeqAt.RcAt.none_str b t _ _ _ _ ⟨.bl _,H,I,rfl,q⟩; all_goals simp
  | @lst b o n i g=>cases f; obtain ⟨vs,l,k,_⟩:=I.list i; rw[Dt] at q; exact SeqAt.RcAt.none_list k.isList c _ _ _ _ ⟨.bl _,H,I,rfl,q⟩; all_goals simp
  | @tup b o n i g=>cases f; obtain ⟨vs,l,k,_⟩:=I.tuple i; rw[Dt] at q; exact SeqAt.RcAt.none_tuple k c _ _ _ _ ⟨.bl _,H,I,rfl,q⟩; all_goals simp
 | bl a =>
  cases z
  cases w with
  | non=>cases f; rw[Dt] at q; exact SeqAt.RcAt.bool_none a _ _ _ _ ⟨.bl _,H,I,rfl,q⟩; all_goals simp
  | bl b=>cases f; rw[Dt] at q; exact SeqAt.RcAt.bool_bool a b _ _ _ _ ⟨.bl _,H,I,rfl,q⟩
  | int b=>obtain ⟨t,rfl⟩:=f; rw[Dt] at q; exact SeqAt.RcAt.bool_int a b t _ _ _ _ ⟨.bl _,H,I,rfl,q⟩
  | str b=>obtain ⟨t,rfl⟩:=f; rw[Dt] at q; exact SeqAt.RcAt.bool_str a b t _ _ _ _ ⟨.bl _,H,I,rfl,q⟩; all_goals simp
  | @lst b o n i g=>cases f; obtain ⟨vs,l,k,_⟩:=I.list i; rw[Dt] at q; exact SeqAt.RcAt.bool_list a k.isList c _ _ _ _ ⟨.bl _,H,I,rfl,q⟩; all_goals simp
  | @tup b o n i g=>cases f; obtain ⟨vs,l,k,_⟩:=I.tuple i; rw[Dt] at q; exact SeqAt.RcAt.bool_tuple a k c _ _ _ _ ⟨.bl _,H,I,rfl,q⟩; all_goals simp
 | int a =>
  obtain ⟨m,rfl⟩:=z
  cases w with
  | non=>cases f; rw[Dt] at q; exact SeqAt.RcAt.int_none a m _ _ _ _ ⟨.bl _,H,I,rfl,q⟩; all_goals simp
  | bl b=>cases f; rw[Dt] at q; exact SeqAt.RcAt.int_bool a m b _ _ _ _ ⟨.bl _,H,I,rfl,q⟩
  | int b=>obtain ⟨t,rfl⟩:=f; rw[Dt] at q; exact SeqAt.RcAt.int_int a m b t _ _ _ _ ⟨.bl _,H,I,rfl,q⟩
  | str b=>obtain ⟨t,rfl⟩:=f; rw[Dt] at q; exact SeqAt.RcAt.int_str a m b t _ _ _ _ ⟨.bl _,H,I,rfl,q⟩; all_goals simp
  | @lst b o n i g=>cases f; obtain ⟨vs,l,k,_⟩:=I.list i; rw[Dt] at q; exact SeqAt.RcAt.int_list a m k.isList c _ _ _ _ ⟨.bl _,H,I,rfl,q⟩; all_goals simp
  | @tup b o n i g=>cases f; obtain ⟨vs,l,k,_⟩:=I.tuple i; rw[Dt] at q; exact SeqAt.RcAt.int_tuple a m k c _ _ _ _ ⟨.bl _,H,I,rfl,q⟩; all_goals simp
 | str a =>
  obtain ⟨m,rfl⟩:=z
  cases w with
  | non=>cases f; rw[Dt] at q; exact SeqAt.RcAt.str_none a m _ _ _ _ ⟨.bl _,H,I,rfl,q⟩; all_goals simp
  | bl b=>cases f; rw[Dt] at q; exact SeqAt.RcAt.str_bool a m b _ _ _ _ ⟨.bl _,H,I,rfl,q⟩; all_goals simp
  | int b=>obtain ⟨t,rfl⟩:=f; rw[Dt] at q; exact SeqAt.RcAt.str_int a m b t _ _ _ _ ⟨.bl _,H,I,rfl,q⟩; all_goals simp
  | str b=>obtain ⟨t,rfl⟩:=f; rw[Dt] at q; exact SeqAt.RcAt.str_str a m b t _ _ _ _ ⟨.bl _,H,I,rfl,q⟩
  | @lst b o n i g=>cases f; obtain ⟨vs,l,k,_⟩:=I.list i; rw[Dt] at q; exact SeqAt.RcAt.str_list a m k.isList c _ _ _ _ ⟨.bl _,H,I,rfl,q⟩; all_goals simp
  | @tup b o n i g=>cases f; obtain ⟨vs,l,k,_⟩:=I.tuple i; rw[Dt] at q; exact SeqAt.RcAt.str_tuple a m k c _ _ _ _ ⟨.bl _,H,I,rfl,q⟩; all_goals simp
 | @lst a J G D r =>
  cases z
  obtain ⟨L,B,p,_⟩:=I.list D
  cases w with
  | non=>cases f; rw[Dt] at q; exact SeqAt.RcAt.list_none p.isList c _ _ _ _ ⟨.bl _,H,I,rfl,q⟩; all_goals simp
  | bl b=>cases f; rw[Dt] at q; exact SeqAt.RcAt.list_bool b p.isList c _ _ _ _ ⟨.bl _,H,I,rfl,q⟩; all_goals simp
  | int b=>obtain ⟨t,rfl⟩:=f; rw[Dt] at q; exact SeqAt.RcAt.list_int b t p.isList c _ _ _ _ ⟨.bl _,H,I,rfl,q⟩; all_goals simp
  | str b=>obtain ⟨t,rfl⟩:=f; rw[Dt] at q; exact SeqAt.RcAt.list_str b t p.isList c _ _ _ _ ⟨.bl _,H,I,rfl,q⟩; all_goals simp
  | @lst b o n i g=>cases f; obtain ⟨vs,l,k,_⟩:=I.list i; rw[Dt] at q; exact lN p k (B.length.symm.trans r.length) (l.length.symm.trans g.length) c (λj C w=>Qz I r g B l (Xg (by simp only[Cu] at F; omega)) j C w) _ _ _ _ ⟨.bl _,H,I,rfl,q⟩
  | @tup b o n i g=>cases f; obtain ⟨vs,l,k,_⟩:=I.tuple i; rw[Dt] at q; exact SeqAt.RcAt.list_tuple p.isList k c _ _ _ _ ⟨.bl _,H,I,rfl,q⟩; all_goals simp
 | @tup a J G D r =>
  cases z
  obtain ⟨L,B,p,_⟩:=I.tuple D
  cases w with
  | non=>cases f; rw[Dt] at q; exact SeqAt.RcAt.tuple_none p c _ _ _ _ ⟨.bl _,H,I,rfl,q⟩; all_goals simp
  | bl b=>cases f; rw[Dt] at q; exact SeqAt.RcAt.tuple_bool b p c _ _ _ _ ⟨.bl _,H,I,rfl,q⟩; all_goals simp
  | int b=>obtain ⟨t,rfl⟩:=f; rw[Dt] at q; exact SeqAt.RcAt.tuple_int b t p c _ _ _ _ ⟨.bl _,H,I,rfl,q⟩; all_goals simp
  | str b=>obtain ⟨t,rfl⟩:=f; rw[Dt] at q; exact SeqAt.RcAt.tuple_str b t p c _ _ _ _ ⟨.bl _,H,I,rfl,q⟩; all_goals simp
  | @lst b o n i g=>cases f; obtain ⟨vs,l,k,_⟩:=I.list i; rw[Dt] at q; exact SeqAt.RcAt.tuple_list p k.isList c _ _ _ _ ⟨.bl _,H,I,rfl,q⟩; all_goals simp
  | @tup b o n i g=>cases f; obtain ⟨vs,l,k,_⟩:=I.tuple i; rw[Dt] at q; exact gA p k (B.length.symm.trans r.length) (l.length.symm.trans g.length) c (λj C w=>Qz I r g B l (Xg (by simp only[Cu] at F; omega)) j C w) _ _ _ _ ⟨.bl _,H,I,rfl,q⟩
theorem DK(M:X.A.units+64<cLine):Xa X (Ii .NotEq) (HZ X.K):=by
 intro E s N H x y v u Q I z f h
 obtain ⟨d,e,C,w,F,q⟩:=h
 have c:X.A.units<cLine:=by omega
 cases C with
 | non =>
  cases z
  cases w with
  | non=>cases f; rw[Dt] at q; exact SeqAt.RcNeAt.none_none _ _ _ _ ⟨.bl _,H,I,rfl,q⟩
  | bl b=>cases f; rw[Dt] at q; exact SeqAt.RcNeAt.none_bool b _ _ _ _ ⟨.bl _,H,I,rfl,q⟩; all_goals simp
  | int b=>obtain ⟨t,rfl⟩:=f; rw[Dt] at q; exact SeqAt.RcNeAt.none_int b t _ _ _ _ ⟨.bl _,H,I,rfl,q⟩; all_goals simp
  | str b=>obtain ⟨t,rfl⟩:=f; rw[Dt] at q; exact SeqAt.RcNeAt.none_str b t _ _ _ _ ⟨.bl _,H,I,rfl,q⟩; all_goals simp
  | @lst b o n i g=>cases f; obtain ⟨vs,l,k,_⟩:=I.list i; rw[Dt] at q; exact SeqAt.RcNeAt.none_list k.isList c _ _ _ _ ⟨.bl _,H,I,rfl,q⟩; all_goals simp
  | @tup b o n i g=>cases f; obtain ⟨vs,l,k,_⟩:=I.tuple i; rw[Dt] at q; exact SeqAt.RcNeAt.none_tuple k c _ _ _ _ ⟨.bl _,H,I,rfl,q⟩; all_goals simp
 | bl a =>
  cases z
  cases w with
  | non=>cases f; rw[Dt] at q; exact SeqAt.RcNeAt.bool_none a _ _ _ _ ⟨.bl _,H,I,rfl,q⟩; all_goals simp
  | bl b=>cases f; rw[Dt] at q; exact SeqAt.RcNeAt.bool_bool a b _ _ _ _ ⟨.bl _,H,I,rfl,q⟩
  | int b=>obtain ⟨t,rfl⟩:=f; rw[Dt] at q; exact SeqAt.RcNeAt.bool_int a b t _ _ _ _ ⟨.bl _,H,I,rfl,q⟩
  | str b=>obtain ⟨t,rfl⟩:=f; rw[Dt] at q; exact SeqAt.RcNeAt.bool_str a b t _ _ _ _ ⟨.bl _,H,I,rfl,q⟩; all_goals simp
  | @lst b o n i g=>cases f; obtain ⟨vs,l,k,_⟩:=I.list i; rw[Dt] at q; exact SeqAt.RcNeAt.bool_list a k.isList c _ _ _ _ ⟨.bl _,H,I,rfl,q⟩; all_goals simp
  | @tup b o n i g=>cases f; obtain ⟨vs,l,k,_⟩:=I.tuple i; rw[Dt] at q; exact SeqAt.RcNeAt.bool_tuple a k c _ _ _ _ ⟨.bl _,H,I,rfl,q⟩; all_goals simp
 | int a =>
  obtain ⟨m,rfl⟩:=z
  cases w with
  | non=>cases f; rw[Dt] at q; exact SeqAt.RcNeAt.int_none a m _ _ _ _ ⟨.bl _,H,I,rfl,q⟩; all_goals simp
  | bl b=>cases f; rw[Dt] at q; exact SeqAt.RcNeAt.int_bool a m b _ _ _ _ ⟨.bl _,H,I,rfl,q⟩
  | int b=>obtain ⟨t,rfl⟩:=f; rw[Dt] at q; exact SeqAt.RcNeAt.int_int a m b t _ _ _ _ ⟨.bl _,H,I,rfl,q⟩
  | str b=>obtain ⟨t,rfl⟩:=f; rw[Dt] at q; exact SeqAt.RcNeAt.int_str a m b t _ _ _ _ ⟨.bl _,H,I,rfl,q⟩; all_goals simp
  | @lst b o n i g=>cases f; obtain ⟨vs,l,k,_⟩:=I.list i; rw[Dt] at q; exact SeqAt.RcNeAt.int_list a m k.isList c _ _ _ _ ⟨.bl _,H,I,rfl,q⟩; all_goals simp
  | @tup b o n i g=>cases f; obtain ⟨vs,l,k,_⟩:=I.tuple i; rw[Dt] at q; exact SeqAt.RcNeAt.int_tuple a m k c _ _ _ _ ⟨.bl _,H,I,rfl,q⟩; all_goals simp
 | str a =>
  obtain ⟨m,rfl⟩:=z
  cases w with
  | non=>cases f; rw[Dt] at q; exact SeqAt.RcNeAt.str_none a m _ _ _ _ ⟨.bl _,H,I,rfl,q⟩; all_goals simp
  | bl b=>cases f; rw[Dt] at q; exact SeqAt.RcNeAt.str_bool a m b _ _ _ _ ⟨.bl _,H,I,rfl,q⟩; all_goals simp
  | int b=>obtain ⟨t,rfl⟩:=f; rw[Dt] at q; exact SeqAt.RcNeAt.str_int a m b t _ _ _ _ ⟨.bl _,H,I,rfl,q⟩; all_goals simp
  | str b=>obtain ⟨t,rfl⟩:=f; rw[Dt] at q; exact SeqAt.RcNeAt.str_str a m b t _ _ _ _ ⟨.bl _,H,I,rfl,q⟩
  | @lst b o n i g=>cases f; obtain ⟨vs,l,k,_⟩:=I.list i; rw[Dt] at q; exact SeqAt.RcNeAt.str_list a m k.isList c _ _ _ _ ⟨.bl _,H,I,rfl,q⟩; all_goals simp
  | @tup b o n i g=>cases f; obtain ⟨vs,l,k,_⟩:=I.tuple i; rw[Dt] at q; exact SeqAt.RcNeAt.str_tuple a m k c _ _ _ _ ⟨.bl _,H,I,rfl,q⟩; all_goals simp
 | @lst a J G D r =>
  cases z
  obtain ⟨L,B,p,_⟩:=I.list D
  cases w with
  | non=>cases f; rw[Dt] at q; exact SeqAt.RcNeAt.list_none p.isList c _ _ _ _ ⟨.bl _,H,I,rfl,q⟩; all_goals simp
  | bl b=>cases f; rw[Dt] at q; exact SeqAt.RcNeAt.list_bool b p.isList c _ _ _ _ ⟨.bl _,H,I,rfl,q⟩; all_goals simp
  | int b=>obtain ⟨t,rfl⟩:=f; rw[Dt] at q; exact SeqAt.RcNeAt.list_int b t p.isList c _ _ _ _ ⟨.bl _,H,I,rfl,q⟩; all_goals simp
  | str b=>obtain ⟨t,rfl⟩:=f; rw[Dt] at q; exact SeqAt.RcNeAt.list_str b t p.isList c _ _ _ _ ⟨.bl _,H,I,rfl,q⟩; all_goals simp
  | @lst b o n i g=>cases f; obtain ⟨vs,l,k,_⟩:=I.list i; rw[Dt] at q; exact xG p k (B.length.symm.trans r.length) (l.length.symm.trans g.length) c (λj C w=>Qz I r g B l (Xg (by simp only[Cu] at F; omega)) j C w) _ _ _ _ ⟨.bl _,H,I,rfl,q⟩
  | @tup b o n i g=>cases f; obtain ⟨vs,l,k,_⟩:=I.tuple i; rw[Dt] at q; exact SeqAt.RcNeAt.list_tuple p.isList k c _ _ _ _ ⟨.bl _,H,I,rfl,q⟩; all_goals simp
 | @tup a J G D r =>
  cases z
  obtain ⟨L,B,p,_⟩:=I.tuple D
  cases w with
  | non=>cases f; rw[Dt] at q; exact SeqAt.RcNeAt.tuple_none p c _ _ _ _ ⟨.bl _,H,I,rfl,q⟩; all_goals simp
  | bl b=>cases f; rw[Dt] at q; exact SeqAt.RcNeAt.tuple_bool b p c _ _ _ _ ⟨.bl _,H,I,rfl,q⟩; all_goals simp
  | int b=>obtain ⟨t,rfl⟩:=f; rw[Dt] at q; exact SeqAt.RcNeAt.tuple_int b t p c _ _ _ _ ⟨.bl _,H,I,rfl,q⟩; all_goals simp
  | str b=>obtain ⟨t,rfl⟩:=f; rw[Dt] at q; exact SeqAt.RcNeAt.tuple_str b t p c _ _ _ _ ⟨.bl _,H,I,rfl,q⟩; all_goals simp
  | @lst b o n i g=>cases f; obtain ⟨vs,l,k,_⟩:=I.list i; rw[Dt] at q; exact SeqAt.RcNeAt.tuple_list p k.isList c _ _ _ _ ⟨.bl _,H,I,rfl,q⟩; all_goals simp
  | @tup b o n i g=>cases f; obtain ⟨vs,l,k,_⟩:=I.tuple i; rw[Dt] at q; exact qM p k (B.length.symm.trans r.length) (l.length.symm.trans g.length) c (λj C w=>Qz I r g B l (Xg (by simp only[Cu] at F; omega)) j C w) _ _ _ _ ⟨.bl _,H,I,rfl,q⟩
theorem n9{z a:V}{v:Value}(h:RelV z v)(h':RelV a v):z=a:=by
 cases z <;> cases a <;> simp only[L2.RelV] at h h' <;> first | rfl | (subst h; cases h'; rfl) | (subst h; cases h'; done) | (obtain ⟨t,rfl⟩:=h; obtain ⟨b,e⟩:=h'; cases e; rfl) | (obtain ⟨t,rfl⟩:=h; obtain ⟨b,e⟩:=h'; cases e; done) | (obtain ⟨t,rfl⟩:=h; cases h'; done) | (subst h; obtain ⟨b,e⟩:=h'; cases e)
open Classical in
noncomputable def Mz(K:PySem.W.Frag)(H:Hp)(d:Ad)(v:Value):Bool:=if h:∃e z,RdV K H z e/\RelV z v then Dt h.choose d else false
theorem lE{a:List (Addr×Obj)}{i:L2.St}{H:Hp}{s:Ak}(I:Inv X a i H s){d e:Ad}{z:V}{v:Value}(h:RdV X.K H z e)(r:RelV z v):Mz X.K H d v=Dt e d:=by
 unfold Mz
 have b:∃e z,RdV X.K H z e/\RelV z v:=⟨e,z,h,r⟩
 rw[dif_pos b]
 obtain ⟨j,f,g⟩:=b.choose_spec
 have c:=n9 g r
 subst c
 rw[RdV.det I f h]
theorem Qb{a:List (Addr×Obj)}{c:L2.St}{H:Hp}{s:Ak}(I:Inv X a c H s){d:Ad}:∀{xs:List V} {ds:List Ad} {us:List Value},RdVs X.K H xs ds->Fj xs us->us.any (Mz X.K H d)=ds.any λe=>Dt e d
 | _,_,_,.nil,r=>by cases r; rfl
 | _,_,_,.cons h t,r=>by
  cases r with
  | cons f b=>rw[Ng,Ng,lE I h f,Qb I t b]
theorem Qa{a:List (Addr×Obj)}{i:L2.St}{H:Hp}{s:Ak}(I:Inv X a i H s){A:Cf}{x:V}{d:Ad}{u:Value}(f:RdV X.K H x d)(c:RelV x u):∀{xs:List V} {ds:List Ad} {us:List Value},RdVs X.K H xs ds->Fj xs us->A.units+Bl ds<cLine->∀v∈us,Oy A s v u (Mz X.K H d v)
 | _,_,_,.nil,r,_=>λv hv=>by cases r; cases hv
 | _,_,_,@RdVs.cons _ _ y e ys es h t,r,hu=>λv hv=>by
  have b:A.units+e.depth<cLine/\A.units+Bl es<cLine:=by
   simp only[Bl] at hu
   omega
  cases r with
  | cons g j =>
   rcases Ai.mp hv with rfl | hv
   ·rw[lE I h g]; exact zV I h f g c b.1
   ·exact Qa I f c t j b.2 v hv
def DD(K:PySem.W.Frag)(c:Bool):R2:=λx y H Q=>∃p b d a,y=.ref p/\(Ua K H p b\/Tr K H p b)/\RdV K H x d/\RdVs K H b a/\Bl a<=60/\Q (.bl (if c then !(a.any λe=>Dt e d) else a.any λe=>Dt e d)) H
theorem AO(t:X.A.units+64<cLine):Xa X (Ii .In) (DD X.K false):=by
 intro g s z H x y v u Q I i m h
 obtain ⟨p,n,d,l,rfl,hq,j,c,o,q⟩:=h
 cases m
 have b:X.A.in1.units+Bl l<cLine:=by have:=Xq X.A; omega
 rcases hq with hq | hq
 ·obtain ⟨a,r,f,k⟩:=I.list hq
  refine SeqAt.in_listAt (Mz X.K H d) f.isList (λw e=>Qa I j i c r b w (by simpa using e)) ⟨.bl _,H,I,rfl,?_⟩
  rw[show a.toArray.any (Mz X.K H d)=a.any (Mz X.K H d) by simp,Qb I c r]
  exact q
 ·obtain ⟨a,r,f,k⟩:=I.tuple hq
  refine SeqAt.in_tupleAt (Mz X.K H d) f (λw e=>Qa I j i c r b w (by simpa using e)) ⟨.bl _,H,I,rfl,?_⟩
  rw[show a.toArray.any (Mz X.K H d)=a.any (Mz X.K H d) by simp,Qb I c r]
  exact q
theorem vO(t:X.A.units+64<cLine):Xa X (Ii .NotIn) (DD X.K true):=by
 intro g s z H x y v u Q I i m h
 obtain ⟨p,n,d,l,rfl,hq,j,c,o,q⟩:=h
 cases m
 have b:X.A.in1.units+Bl l<cLine:=by have:=Xq X.A; omega
 rcases hq with hq | hq
 ·obtain ⟨a,r,f,k⟩:=I.list hq
  refine SeqAt.notIn_listAt (Mz X.K H d) f.isList (λw e=>Qa I j i c r b w (by simpa using e)) ⟨.bl _,H,I,rfl,?_⟩
  rw[show a.toArray.any (Mz X.K H d)=a.any (Mz X.K H d) by simp,Qb I c r]
  exact q
 ·obtain ⟨a,r,f,k⟩:=I.tuple hq
  refine SeqAt.notIn_tupleAt (Mz X.K H d) f (λw e=>Qa I j i c r b w (by simpa using e)) ⟨.bl _,H,I,rfl,?_⟩
  rw[show a.toArray.any (Mz X.K H d)=a.any (Mz X.K H d) by simp,Qb I c r]
  exact q
end
def KR(K:PySem.W.Frag)(a:Addr):It :=
 ⟨λi H=>∃b x,Ua K H a b/\b[i]? = some x,λi H x c=>∃p y,x=.ref p/\H p=none/\c=upd H p (.tup [.int i,y])/\∀b,Ua K H a b->b[i]? = some y,λi H=>∃b,Ua K H a b/\b.length<=i⟩
section
variable{X:Cx}{a:List (Addr×Obj)}{d:L2.St}{H:Hp}{s:Ak}{h':Heap}
theorem Wi{t':Nat}{fp:List Addr}(I:Inv X a d H s)(k:∀b o,b∉fp->s.heap.get? b=some o->h'.get? b=some o)(h:∀b∈fp,Nj X a H b):Inv X a d H { s with heap:=h',toks:=t' }:=by
 have g:∀b u,H b=some u->b∉fp:=λb u e z=>by rw[(h b z).1] at e; cases e
 refine I.step (g':=s.gens) (d':=s.drawn) (ch:=fp) (λb l=>?_) (λb o _ _ f e _=>k b o f e) (λb o _ _ f e _=>⟨o.slots,k b o f e⟩) (λ_ _ _ _ n=>n)
  (λb o f e=>⟨o,k b o f e⟩) (λ_ _ e=>e) (λ_ _ _ e=>e) (λb B e=>⟨#[],by rw[e]; simp⟩) (λm p=>?_) (λb u e=>?_) I.bare
 ·obtain ⟨_,i,_,A,j,t⟩:=h b l
  exact ⟨A,i,j,t⟩
 ·obtain ⟨o,y,x,w,r⟩:=p
  exact ⟨o,y,x,k _ o (λz=>(h _ z).2.1 rfl) w,r⟩
 ·refine (I.hok b u e).stay (λc v f q=>k c v ?_ q) (λ_ q=>q) λ_ _ q=>q
  rcases f with z | z
  ·rw[z]; exact g b u e
  ·exact g c _ z
end
theorem yF{P:Bk}{w:World}{K:PySem.W.Frag}{t:List Expr}{k:Nat}{pos:Pos}(a e it:Addr)(ne:e≠it):Turn P w K (.Tuple t k pos) (KR K a) [e,it] e (λi h=>(∃g,IsEnum h e it ((i:Nat):Int) g)/\h.IsListIter it a i) where
 mem:=Ab
 obj:=λi h st b f=>by
  obtain ⟨⟨g,j⟩,o,e1,c,d⟩:=st
  rcases Ai.mp f with z | z
  ·subst z
   exact ⟨_,j,λv z=>by cases z⟩
  ·rw[Aj.mp z]
   exact ⟨o,e1,λv z=>by rw[d] at z; cases z⟩
 keep:=λi h h' st kp=>⟨let ⟨g,j⟩:=st.1; ⟨g,kp e Ab _ j⟩,st.2.at λo q=>kp it (Ah _ Ab) o q⟩
 item:=by
  intro X R M J S i m s T H E I C st G
  subst R M J
  obtain ⟨xs,x,B,N⟩:=G
  obtain ⟨F,L,p,hz⟩:=I.list B
  obtain ⟨u,hu,ru⟩:=L.get N
  obtain ⟨⟨g,j⟩,l⟩:=st
  have el:e<s.heap.objs.size:=Bb j
  have il:it<s.heap.objs.size:=by obtain ⟨_,q,_⟩:=l; exact Bb q
  refine wpAny_pyNext_enum_item j l p.isList (x:=u) (by simpa using hu) ne λY ho y hT h0 hk=>⟨_,rfl,wpAny_letOwnedTupleGo_enum ho λV O Q=>?_⟩
  have n:Dd e Y V:=Q
  -- the pair laid,then the iterators turned
  have I1:Inv X m T (upd H s.heap.objs.size (.tup [.int i,x])) { s with heap:=s.heap.push { cls:=.type "tuple",data:=.seq #[.int i s.toks,u] } } :=
   I.laid (t':=s.toks) (λb o q=>Aq _ q) (Au _) ⟨by show 2<=Ba; decide,[.int i s.toks,u],.cons ⟨_,rfl⟩ (.cons ru .nil),_,Be _ rfl,rfl,0,rfl⟩
  have nT:∀b∈[e,it],b≠s.heap.objs.size:=λb f=>by
   rcases Ai.mp f with z | z
   ·rw[z]; exact Cj el
   ·rw[Aj.mp z]; exact Cj il
  have U:∀b∈[e,it],(upd H s.heap.objs.size (.tup [.int i,x])) b=none:=λb f=>by rw[Cn (nT b f)]; exact (C b f).1
  refine ⟨.ref s.heap.objs.size,_,Wi (fp:=[e,it]) (s:={ s with heap:=s.heap.push { cls:=.type "tuple",data:=.seq #[.int i s.toks,u] } }) (h':=V) (t':=s.toks+1) I1 (λb o f q=>?_) (λb f=>⟨U b f,(C b f).2⟩),rfl,⟨_,x,rfl,I.hok.fresh (Au _),rfl,λys Z=>by rw[I.list_inj Z B]; exact N⟩,⟨⟨u,?_⟩,?_⟩,U⟩
  ·have r:b≠e:=λz=>f (by rw[z]; exact Ab)
   have D:b≠it:=λz=>f (by rw[z]; exact Ah _ Ab)
   refine (n.2 b r).trans ?_
   by_cases A:b=s.heap.objs.size
   ·subst A
    have q':=(Be s.heap (o:={ cls:=.type "tuple",data:=.seq #[.int i s.toks,u] }) rfl).symm.trans q
    rw[hT]
    exact q'
   ·refine hk b o r D ?_
    have q0:(s.heap.push { cls:=.type "tuple",data:=.seq #[.int i s.toks,u] }).get? b=some o:=q
    rcases Heap.get?_push_cases q0 with z | z
    ·exact absurd z.1 A
    ·exact z
  ·have : ((i+1:Nat):Int)=(i:Int)+1:=by omega
   rw[this]
   exact O
  ·exact y.at λo q=>(n.2 it (Lq ne)).trans q
 done:=by
  intro X R M J S i m s T H E I C st G
  subst R M J
  obtain ⟨xs,B,N⟩:=G
  obtain ⟨F,L,p,hz⟩:=I.list B
  obtain ⟨⟨g,j⟩,l⟩:=st
  have hl:=L.length
  exact wpAny_pyNext_enum_end (I.ok.hd S) j l p.isList (by simp; omega) λY eb=>⟨rfl,Wi (fp:=[e,it]) (t':=s.toks) I (λb o f q=>eb b o (λz=>f (by rw[z]; exact Ah _ Ab)) q) C⟩
 self:=λ_ _ _ _ _ st h=>let ⟨_,j⟩:=st.1; wpAny_pyIter_enum j h
section
variable{X:Cx}
def IH(K:PySem.W.Frag)(c:TA):TI:=λe H R=>c e H λvs b=>∃a,vs=[.ref a]/\(∃d,Ua K b a d)/\R (KR K a) b
theorem O6{g:List Expr}{k:Nat}{G:Pos}{a:Expr}{n:TA}{p pos:Pos}(y:Gl X "enumerate")(C:X.mg "enumerate" = none)(A:PA X [a] n)(t:An [a] X.env=[(false,eval a X.env)]:=by rfl):PI X (.Tuple g k G) (.Call (.Name "enumerate" p) [a] [] pos) (IH X.K n):=by
 intro c s o H R I h
 refine Call_ (Yc I y C (u:=.type "enumerate") (by decide +kernel) (Iz (Gy (A pos c s o H _ I h) λQ f ⟨vs,m,d,E,B⟩=>?_) t rfl))
 obtain ⟨l,e,⟨M,D⟩,q⟩:=B
 subst e
 obtain ⟨u,rfl,r⟩:=vals1 E
 cases r
 obtain ⟨x,N,w,O⟩:=d.list D
 refine call_enumerate_list w.isList λP j i J v=>wpAny_pyIter_enum j ?_
 have F:∀b∈[f.heap.objs.size+1,f.heap.objs.size],Nj X c m b:=λb L=>by
  rcases Ai.mp L with z | z
  ·rw[z]; exact d.fpOk (Vt _) (d.hok.fresh (Vt _))
  ·rw[Aj.mp z]; exact d.fpOk (Au _) (d.hok.fresh (Au _))
 exact ⟨f.heap.objs.size+1,[f.heap.objs.size+1,f.heap.objs.size],_,_,m,rfl,d.kept (t':=f.toks) v,yF l _ _ (Nat.succ_ne_self _),⟨⟨_,j⟩,i⟩,F,q⟩
end
def q8(o:V->Hp->L2.St->Prop)(J:It)(l:List Nat)(q:TT)(p:TE)(n:L2.St)(k:Hp)(Q:VK):Prop:=∀D,k D=none->∃W:Nat->Nat->Hp->Prop,(∃m,W 0 m (upd k D (.lst [])))/\∀i m H,W i m H ->
 (J.stop i H/\Q (.ref D) H)\/(J.go i H/\∀x g,J.yld i H x g->∃e,o x g e/\∃(j:Hp->Prop) (h:VK),(∀b,j b->∃d,d<m/\W (i+1) d b) /\
  (∀y f,h y f->∃a,f D=some (.lst a)/\a.length<Ba/\∃d,d<m/\W (i+1) d (upd f D (.lst (a++[y])))) /\
  q (e++Gk n l) g λc b=>if c=true then p (e++Gk n l) b h else j b)
section
variable{X:Cx}{c:List (Addr×Obj)}{d:L2.St}{H:Hp}{s:Ak}{k iter F:Expr}{j:List Expr}{a:Scope}{f:List (Str×Addr)}{x:Str}{ys:List Str}{l:List Nat}{E:TT}{B:TE}
theorem gM{pre:List Str}{pos p2:Pos}{use:Option (Value->Sem Unit)}{Qf:Value->Ak->Prop}{Bd:V->Hp->L2.St->Prop}{Qc:VK}{g:TG}{R:It->Hp->Prop}(C:CompScope X a f x ys l)(hc:X.calm=true)(ht:∀fp s H,wK (Dw X a f (pre++ys) fp s H) j E)(he:∀fp s H,PE (Dw X a f (pre++ys) fp s H) k B)(hg:∀fp s H,PG (Dw X a f (pre++ys) fp s H) F g)(hb:∀(o ws:L2.St) (y:V) (H:Hp),o.length=pre.length->Bd y H ws->ws.length=pre.length/\g y (o++Gk d l) H λO H'=>O=ws++Gk d l/\H'=H)(hs:∀x,Cr iter X.env x=pure x)(hR:∀J H1,R J H1->q8 Bd J l E B d H1 Qc)(hi:wpAny (model X.prog X.w) X.A (eval iter X.env) (λv s1=>wpAny (model X.prog X.w) X.A (Zh v) (KU X c d F R) X.xe s1) X.xe s)(h8:∀(K:Cx) (t s7:Ak) (H3 S:Hp) (fp:List Addr) (D:Addr) (O:L2.St),Dw X a f (pre++ys) fp t H3=K->Inv X c d H3 t->(∀b∈fp,Nj X c H3 b)->Inv K [] O S s7->Qc (.ref D) S->compPost (model X.prog X.w) X.A X.xe use Qf (.ref D) t.heap.objs.size (.ok .next) s7):wpAny (model X.prog X.w) X.A (comprehension (.ListComp k [⟨F,iter,j,0⟩] a pos) a X.env p2 (newList []) false (eval iter X.env) use) Qf X.xe s:=by
 refine yS (use:=use) rfl hs C.clos C.kind C.locs (Gy hi λv s1 h1=>Gy h1 λx2 p h2=>?_)
 obtain ⟨it,fp,tn,J,H2,e,I2,T,j6,f2,q2⟩:=h2
 subst e
 have fD:H2 p.heap.objs.size=none:=I2.hok.fresh (Au _)
 obtain ⟨W,⟨m0,w0⟩,k3⟩:=hR _ _ q2 p.heap.objs.size fD
 refine Eo ?_
 have I3:Inv X c d (upd H2 p.heap.objs.size (.lst [])) { p with heap:=p.heap.push { cls:=.type "list",dict:=none,data:=.seq ([]:List Value).toArray } } :=
  I2.laid (t':=p.toks) (λb u q=>Aq _ q) (Au _) ⟨Cw _,[],0,.nil,Be _ rfl⟩
 obtain ⟨f3,Y,q5⟩:=mL I2 T j6 f2 I3
 generalize k1:({ p with heap:=p.heap.push { cls:=.type "list",dict:=none,data:=.seq ([]:List Value).toArray } }:Ak)=t at I3
 have k9:tn 0 t.heap:=by rw[<- k1]; exact Y
 have o3:∀b∈fp,∃o,t.heap.get? b=some o:=by rw[<- k1]; exact q5
 show wpAny _ _ (Zi a X.env.globals f [] X.env.qual none .none (some X.env)) _ _ _
 refine gJ C λh4 h5 I h0=>?_
 have I4:∀tk,Inv (Dw X a f (pre++ys) fp t (upd H2 p.heap.objs.size (.lst []))) [] (pre.map (λ_=>none)++Gk d l) (upd H2 p.heap.objs.size (.lst [])) { t with heap:=h4,toks:=tk }:=λtk=>bW (pre:=pre) C I3 f3 o3 h5 I h0
 have k4:tn 0 h4:=T.keep 0 _ _ k9 λb hb o q=>I b o q
 generalize M:Dw X a f (pre++ys) fp t (upd H2 p.heap.objs.size (.lst []))=K at I4
 obtain ⟨eP,eW,eK,eA,eC⟩:=oM hc M
 have G:∀{H':Hp},(∀b∈fp,H' b=none)->∀b∈fp,Nj K [] H' b:=λ{H'} hn=>gK M (I4 0) hn
 have N:∀s5:Ak,s5={ t with heap:=h4,toks:=t.toks+([]:List (Str×Value)).length } ->
   Gw (model X.prog X.w) X.A (.compLoop (.ListComp k [⟨F,iter,j,0⟩] a pos) 0 (.ref it) (.ref p.heap.objs.size) (compEnvC a (Ew (t.heap.objs.size+1) a.names f) t.heap.objs.size X.env))
    (compPost (model X.prog X.w) X.A X.xe use Qf (.ref p.heap.objs.size) t.heap.objs.size) s5:=by
  rintro s5 rfl
  refine rB (λn s'=>∃(i:Nat) (o:L2.St) (H':Hp),o.length=pre.length/\Inv K [] (o++Gk d l) H' s'/\tn i s'.heap/\(∀b∈fp,H' b=none)/\W i n H') ?_ m0
   ⟨0,_,_,Af ..,I4 _,k4,λb hb=>(f3 b hb).1,w0⟩
  (intro n s6 q_; obtain ⟨i,o,S,lo,I6,h9,h6,w6⟩ := q_)
  rcases k3 i n S w6 with ⟨k2,qn⟩ | ⟨go,step⟩
  ·have hd:=T.done K eP eW eK eC i [] s6 _ S (λ_ _=>False) I6 (G h6) h9 k2
   rw[eA] at hd
   refine Gy hd λr s7 h => ?_
   obtain ⟨hr,I7⟩ := h
   subst hr
   exact h8 _ _ _ _ _ _ _ _ M I3 f3 I7 qn
  ·have k0:=T.item K eP eW eK eC i [] s6 _ S (λ_ _=>False) I6 (G h6) h9 go
   rw[eA] at k0
   refine Gy k0 λr s7 h => ?_
   obtain ⟨u,hr,h7⟩ := h
   subst hr
   refine Gy h7 λ_ s8 h => ?_
   obtain ⟨y,H8,I8,r8,y8,P,j2⟩ := h
   have k6:=I8.pinned (G j2) (T.obj _ _ P)
   obtain ⟨ws,j5,N1,N2,j4,q4,j0⟩:=step y H8 y8
   obtain ⟨lw,q1⟩:=hb o ws y H8 lo j5
   have again:∀{H9:Hp} {Q:Ak} {U:Nat},Inv K ([]++Ry fp s8.heap) (ws++Gk d l) H9 Q->U<n->W (i+1) U H9->∃m,m<n/\∃(i:Nat) (o:L2.St) (H':Hp),o.length=pre.length/\Inv K [] (o++Gk d l) H' Q/\tn i Q.heap/\(∀b∈fp,H' b=none)/\W i m H':=λ{H9 Q U} I9 hm w9=>by
    refine ⟨U,hm,i+1,ws,H9,lw,I9.unpinned,T.keep _ _ _ P λb hb o e=>(I9.pin (b,o) (Ag _ (Ag _ (Jr hb e)))).1,λb hb=>?_,w9⟩
    obtain ⟨o,e,_⟩:=T.obj _ _ P b hb
    exact (I9.pin (b,o) (Ag _ (Ag _ (Jr hb e)))).2.1
   subst M
   refine Gy (hg _ _ _ _ s8 _ H8 y u _ k6 r8 q1) λ_ Q h => ?_
   obtain ⟨x1,H9,I9,e9,q6⟩ := h
   subst e9 q6
   refine Gy (ht fp t _ _ Q _ _ _ I9 j0) λok q3 h => ?_
   obtain ⟨j8,h3,L⟩ := h
   cases ok with
   | false =>
    rw[if_neg Hh] at L ⊢
    obtain ⟨U,hm,k8⟩:=j4 _ L
    exact again h3 hm k8
   | true =>
    rw[if_pos rfl] at L ⊢
    refine Gy (he fp t _ _ q3 _ _ _ h3 L) λz q9 h => ?_
    obtain ⟨vz,k5,j1,q0,k7⟩ := h
    obtain ⟨Z,ha,hz,U,hm,q7⟩:=q4 _ _ k7
    refine Gy (Tg _ q9 _ k5 (.ref p.heap.objs.size) [vz] (.ref p.heap.objs.size) [z] (λ_ H'=>H'=upd k5 p.heap.objs.size (.lst (Z++[vz]))) j1 rfl (.cons q0 .nil) ⟨_,Z,vz,rfl,rfl,ha,hz,rfl⟩) λ_ x0 h => ?_
    obtain ⟨_,j9,j3,_,j7⟩ := h
    subst j7
    exact again j3 hm q7
 exact N4 (N _ rfl) (T.self X.A 0 _ _ _ k4 (N _ rfl))
theorem K5{Q:VK}{N:List Str}(o:Cx)(m n:Ak)(k j:Hp)(fp:List Addr)(D:Addr)(i:L2.St)(h:Dw X a f N fp m k=o)(r:Inv X c d k m)(t:∀b∈fp,Nj X c k b)(p:Inv o [] i j n)(q:Q (.ref D) j):compPost (model X.prog X.w) X.A X.xe none (EP X c d Q) (.ref D) m.heap.objs.size (.ok .next) n:=by
 obtain ⟨u,g,e⟩:=dJ h r t p
 exact ⟨u,g,λs l=>⟨.ref D,j,e s l,rfl,q⟩⟩
theorem zQ{M:Ends}{N:List Str}{i0:Nat}{t:Str}{Q:Pos}(W:X.N.Nodup)(C:X.N[i0]? = some t)(m:X.env.scope.names.lookup t=some .local)(R:Cx)(h u:Ak)(I k:Hp)(fp:List Addr)(D:Addr)(j:L2.St)(B:Dw X a f N fp h I=R)(U:Inv X c d I h)(f3:∀b∈fp,Nj X c I b)(I7:Inv R [] j k u)(qn:M.nx (d.set i0 (some (.ref D))) k):compPost (model X.prog X.w) X.A X.xe (some (Po (.Name t Q) X.env)) (λ_ s'=>SP X c M .next s') (.ref D) h.heap.objs.size (.ok .next) u:=by
 obtain ⟨⟨m7,g⟩,n,S⟩:=vN B U f3 I7
 have E:Nj X c k h.heap.objs.size:=U.fpOk (Au _) n
 obtain ⟨H,Y,Z,s,rC⟩:=id g
 have J8:Inv X (c++[(h.heap.objs.size,H)]) d k u:=S.pins_of λp J=>by
  rcases Ar.mp J with z | z
  ·have q:=S.pin p (Ag _ z)
   exact q
  ·rw[Aj.mp z]
   exact ⟨s,n,E.2.1,E.2.2.1,λv P=>by rw[rC.1] at P; cases P⟩
 refine Gy (Ou (X:=X) (i:=i0) (x:=t) (pos:=Q) W C (.inl m) (.inr m) (c++[(h.heap.objs.size,H)]) u d k (.ref D) (.ref D) (λj H'=>j=d.set i0 (some (.ref D))/\H'=k) J8 rfl ⟨rfl,rfl⟩) λ_ T y => ?_
 obtain ⟨V,O,L,e9,G⟩ := y
 subst e9 G
 have l:=(L.pin (h.heap.objs.size,H) (Ag _ (Ag _ Ab))).1
 have F:Inv X c (d.set i0 (some (.ref D))) O T:=L.pins_of λp J=>L.pin p (Ag _ (Ae _ J))
 refine ⟨m7,g.at λo e=>by rw[s] at e; cases e; exact l,λh0 r=>?_⟩
 exact ⟨_,O,Wi (t':=T.toks) (fp:=[h.heap.objs.size]) F (λb o K e=>(r.2 b (λz=>K (by rw[z]; exact Ab))).trans e) (λb K=>by rw[Aj.mp K]; exact E),qn⟩
def b1:V->Hp->L2.St->Prop:=λx _ a=>a=[some x]
def b2(K:PySem.W.Frag):V->Hp->L2.St->Prop:=λx H c=>∃(t:Addr) (b a:V),x=.ref t/\Tr K H t [b,a]/\c=[some b,some a]
theorem AE{J:It}{a:Hp}{Q:VK}(q:X0 J l E B d a Q):q8 b1 J l E B d a Q:=λD f=>by
 obtain ⟨W,b,t⟩:=q D f
 exact ⟨W,b,λi m H w=>(t i m H w).imp id λ⟨c,st⟩=>⟨c,λx e y=>⟨_,rfl,st x e y⟩⟩⟩
theorem Y6(o ws:L2.St)(y:V)(H:Hp)(lo:o.length=1)(h:b1 y H ws):ws.length=1/\Sz 0 y (o++Gk d l) H λa H'=>a=ws++Gk d l/\H'=H:=by
 unfold b1 at h
 subst h
 match o,lo with
 | [_],_=>exact ⟨rfl,rfl,rfl⟩
theorem g2{c:Str}{h e pt:Pos}{j:Nat}(C:CompScope X a f x ys l)(b:xM a c)(d:(x::c::ys).Nodup)(g:X.calm=true)(fp:List Addr)(s:Ak)(H:Hp):PG (Dw X a f (x::c::ys) fp s H) (.Tuple [.Name x h,.Name c e] j pt) (IA X.K 2 (u0 (Sz 0) (u0 (Sz 1) HA))) :=
 A4 (X:=Dw X a f (x::c::ys) fp s H) g (bF (Ou (i:=0) (x:=x) d rfl (Tf C.own) (Xs C.own)) (bF (Ou (i:=1) (x:=c) d rfl (Tf b) (Xs b)) tH))
theorem jX{e pos:Pos}{b:TI}(C:CompScope X a f x ys l)(m:X.calm=true)(p:PI X (.Name x e) iter b)(o:∀fp s H,wK (Dw X a f (x::ys) fp s H) j E)(g:∀fp s H,PE (Dw X a f (x::ys) fp s H) k B)(n:∀x,Cr iter X.env x=pure x:=by intro _; rfl):PE X (.ListComp k [⟨.Name x e,iter,j,0⟩] a pos) (uD b l E B):=by
 intro c s d H Q I h
 rw[eval_ListComp]
 exact gM (pre:=[x]) C m o g (λ_ _ _=>Ou (i:=0) C.nd rfl (Tf C.own) (Xs C.own)) Y6 n (λ_ _=>AE) (p c s d H _ I h) K5
theorem T9{g:Str}{q n pos b:Pos}{i0:Nat}{t:TI}(w:X.N.Nodup)(p:X.N[i0]? = some g)(o:X.env.scope.names.lookup g=some .local)(C:CompScope X a f x ys l)(v:X.calm=true)(D:PI X (.Name x q) iter t)(A:∀fp s H,wK (Dw X a f (x::ys) fp s H) j E)(u:∀fp s H,PE (Dw X a f (x::ys) fp s H) k B)(z:∀x,Cr iter X.env x=pure x:=by intro _; rfl)(r:El (.ListComp k [⟨(.Name x q),iter,j,0⟩] a pos) (some (.Name g n)) b.line X.env=pure true:=by rfl):PS X (.Assign [.Name g n] (.ListComp k [⟨(.Name x q),iter,j,0⟩] a pos) b) (W6 (uD t l E B) (Sz i0)):=by
 intro c s d H G I h
 rw[exec_Assign_Name_used _ _ _ _ r]
 refine Aa (Iv (Aa ?_))
 exact Aa (m:=comprehension _ a X.env _ (newList []) false (eval iter X.env) (some (Po (.Name g n) X.env))) (Cv (gM (pre:=[x]) C v A u (λ_ _ _=>Ou (i:=0) C.nd rfl (Tf C.own) (Xs C.own)) Y6 (hR:=λ_ _=>AE) z (D c s d H _ I h) (zQ w p o)) (λ_ F y=>Am (Am y)) λ_ _ e=>e)
end
end Nd
namespace Nd
open PySem L2
theorem fU:∀{l:List Int},l.Nodup->l.Pairwise (·<=·)->l.Pairwise (· < ·)
 | [],_,_=>.nil
 | a::l,n,p=>by
  obtain ⟨d,f⟩:=Ax.mp p
  obtain ⟨g,e⟩:=Da.mp n
  refine Ax.mpr ⟨λb c=>?_,fU e f⟩
  have:=d b c
  have : a≠b:=λz=>g (by rw[z]; exact c)
  omega
end Nd
namespace Nd
open PySem PySem.Spec PyProof.Rows L2
end Nd
namespace Nd
open PySem L2
def MO(K:PySem.W.Frag):List V->Hp->VK->Prop:=λa H Q=>∃x n t b,a=[x,.ty n]/\TyOf K H x t/\PySem.W.kitOne K t (.type n)=some b/\Q (.bl b) H
theorem bP{X:Cx}:Na X (.builtin "isinstance") (MO X.K):=nR
theorem AY{K:PySem.W.Frag}{T:String}:PySem.W.kitOne K (.type T) (.type T)=some true:=by
 unfold PySem.W.kitOne
 rw[if_pos (by simp)]
theorem sz{n:Nat}(h:n<=1000:=by first | decide | simp | (simp; omega)):n<=Ba:=Kw (xH h)
end Nd
namespace DL
open PySem PySem.Spec PyProof.Rows L2 Nd
def FK(a:Scope)(x:Str)(ys:List Str):Bool:=a.names.all (λy=>decide (y.2≠.cell)) && decide (a.kind=.function) && a.names.all (λy=>decide (y.2=.local->a.names.lookup y.1=some .local)) &&
 decide (a.names.lookup x=some .local) && decide (x::ys).Nodup && ys.all (λy=>decide (a.names.lookup y=some .free)) && a.names.all (λy=>decide (y.2=.free->y.1∈ys))
section
variable{X:Cx}{b:Scope}{x:Str}
theorem uP:∀{ys:List Str} {as:List Addr} {f:Str->Option Addr},ys.map f=as.map some->∀p∈ys.zip as,f p.1=some p.2
 | [],_,_,_=>λp h=>by simp at h
 | y::ys,[],_,h=>λp q=>by simp at q
 | y::ys,a::as,f,h=>λp q=>by
  rw[Ap,Ap,List.cons.injEq] at h
  rw[List.zip_cons_cons] at q
  rcases Ai.mp q with rfl | q
  ·exact h.1
  ·exact uP h.2 p q
theorem vB:∀{l:List (Str×Addr)} {y:Str},y∈l.map (·.1)->(l.lookup y).isSome=true
 | [],y,h=>by simp at h
 | p::l,y,h=>by
  rw[Bx]
  split
  ·rfl
  ·rename_i a
   rcases Ai.mp h with rfl | h
   ·simp at a
   ·exact vB h
theorem cs{ys:List Str}{as:List Addr}{d:List Nat}{f:List (Str×Addr)}(e:f=(ys.zip as).reverse)(r:Vq b X.env=pure f)(g:FK b x ys=true)(n:ys.map (λy=>X.env.cells.lookup y)=as.map some)(o:d.map (λj=>X.N[j]?)=ys.map some)(h4:ys.all (λy=>decide (X.env.kindOf y=some .cell\/X.env.kindOf y=some .free))=true):CompScope X b f x ys d:=by
 unfold FK at g
 simp only[Cz,List.all_eq_true,decide_eq_true_eq] at g
 obtain ⟨⟨⟨⟨⟨⟨c1,c2⟩,c3⟩,c4⟩,c5⟩,c6⟩,c7⟩:=g
 have s:ys.length=d.length:=by
  have:=congrArg Ei o
  rw[Af,Af] at this
  exact this.symm
 have t:ys.length=as.length:=by
  have:=congrArg Ei n
  rwa [Af,Af] at this
 refine ⟨r,.inl c1,c2,c3,.inl c4,λy c h=>?_,List.all_eq_true.mpr λy p=>?_,c5,s,λk y j i q=>⟨?_,c6 y (Bf i),?_⟩⟩
 ·have m:=Nz h
  rw[e] at m
  exact uP n _ (List.mem_reverse.mp m)
 ·by_cases l:y.2=.free
  ·have : (f.lookup y.1).isSome=true:=by
    refine vB ?_
    rw[e,List.map_reverse,List.mem_reverse,List.map_fst_zip (by omega)]
    exact c7 y p l
   rw[this,Bool.or_true]
  ·have : (y.2 == Ef)=false:=by simpa using l
   rw[this]; rfl
 ·have a:(d.map (λj=>X.N[j]?))[k]? = some (X.N[j]?):=by rw[Bu,q]; rfl
  rw[o,Bu,i] at a
  exact (Br a).symm
 ·have:=eI.mp h4 y (Bf i)
  exact of_decide_eq_true this
theorem NS(a:Vq b X.env=pure [])(c:FK b x []=true):CompScope X b [] x [] []:=cs (as:=[]) rfl a c rfl rfl rfl
theorem BB(a:Str)(j0:Nat){c:Addr}(d:Vq b X.env=pure [(a,c)])(f:FK b x [a]=true)(e:[a].map (λy=>X.env.cells.lookup y)=[some c])(g:[j0].map (λj=>X.N[j]?)=[some a])(h4:[a].all (λy=>decide (X.env.kindOf y=some .cell\/X.env.kindOf y=some .free))=true):CompScope X b [(a,c)] x [a] [j0]:=cs (as:=[c]) rfl d f e g h4
theorem MS(a a1:Str)(j0 e:Nat){c d:Addr}(f:Vq b X.env=pure [(a1,d),(a,c)])(h:FK b x [a,a1]=true)(g:[a,a1].map (λy=>X.env.cells.lookup y)=[some c,some d])(i:[j0,e].map (λj=>X.N[j]?)=[some a,some a1])(h4:[a,a1].all (λy=>decide (X.env.kindOf y=some .cell\/X.env.kindOf y=some .free))=true):CompScope X b [(a1,d),(a,c)] x [a,a1] [j0,e]:=cs (as:=[c,d]) rfl f h g i h4
theorem MX(a a1 a2:Str)(j0 f g:Nat){c e d:Addr}(h:Vq b X.env=pure [(a2,d),(a1,e),(a,c)])(k:FK b x [a,a1,a2]=true)(i:[a,a1,a2].map (λy=>X.env.cells.lookup y)=[some c,some e,some d])(l:[j0,f,g].map (λj=>X.N[j]?)=[some a,some a1,some a2])(h4:[a,a1,a2].all (λy=>decide (X.env.kindOf y=some .cell\/X.env.kindOf y=some .free))=true):CompScope X b [(a2,d),(a1,e),(a,c)] x [a,a1,a2] [j0,f,g]:=cs (as:=[c,e,d]) rfl h k i l h4
end
end DL
namespace Nd
open PySem PySem.Spec PyProof.Rows L2
theorem N9{P:Bk}{w:World}{H:Hp}{h:Heap}{a:Addr}{o:HO}(x:Jt P w H h a o):∃u,h.get? a=some u:=by
 cases o with
 | lst c=>obtain ⟨_,_,_,_,e⟩:=x; exact ⟨_,e⟩
 | tup c=>obtain ⟨_,_,_,u,e,_⟩:=x; exact ⟨_,e⟩
 | dK b=>obtain ⟨_,_,_,_,u,_,_,e,_⟩:=x; exact ⟨_,e⟩
 | dT b=>obtain ⟨_,_,_,_,u,_,_,e,_⟩:=x; exact ⟨_,e⟩
 | set S n=>obtain ⟨u,_,_,_,e,_⟩:=x; exact ⟨_,e⟩
 | ins C g fs=>obtain ⟨_,_,_,e,_⟩:=x; exact ⟨_,e⟩
 | own y=>exact x
 | xd fs=>obtain ⟨_,⟨_,_,_,e,_⟩,_⟩:=x; exact ⟨_,e⟩
 | rng lo k=>obtain ⟨_,_,_,e⟩:=x; exact ⟨_,e⟩
 | frz i u=>obtain ⟨e,_⟩:=x; exact ⟨_,e⟩
 | tbl d=>obtain ⟨_,e,_⟩:=x; exact ⟨_,e⟩
 | met f y=>exact ⟨_,(show h.get? a=some _ from x)⟩
 | ext j=>obtain ⟨_,e,_⟩:=x; exact e
structure Fly(P:Bk)(w:World)(outer:List Env)(H H':Hp)(s s':Ak)(e C t:Addr)(B:Heap):Prop where
 os:s'.os=s.os
 bare:Qp s'.gens
 fly:Heap.FlyingW B outer e (.ref C) (.ref t) s'.heap
 cov:∀b o,s.heap.get? b=some o->b∉Ws outer->∃o',B.get? b=some o'/\(H b=none->o'=o)
 slot:∀b o,s.heap.get? b=some o->b∈Ws outer->H b=none->∃sl,s'.heap.get? b=some { o with slots:=sl }
 free:∀b o,s.heap.get? b=some o->H b=none->H' b=none
 tups:∀b xs,H b=some (.tup xs)->H' b=some (.tup xs)
 frzs:∀b o u,H b=some (.frz o u)->H' b=some (.frz o u)
 tbls:∀b ps,H b=some (.tbl ps)->∃more,H' b=some (.tbl (ps++more))
 hok:Zw P w H' B
def Iu(P:Bk)(w:World):eL:=λa H s E c d=>∃(e C t:Addr) (b:Hp) (B:Heap),c=.ref e/\Fly P w a H b s d e C t B/\E (.ref C) none b
section
variable{P:Bk}{w:World}{outer:List Env}{H H':Hp}{s s':Ak}{e C t:Addr}{B:Heap}
theorem Fly.un(F:Fly P w outer H H' s s' e C t B):Un (Ws outer) [] H H' s.heap s'.heap where
 keep:=λb o q n a _=>by
  obtain ⟨d,c,f⟩:=F.cov b o q a
  rw[f n] at c
  exact F.fly.1 b o c
 slot:=λb o q n a _=>F.slot b o q a n
 free:=λb o q n _=>F.free b o q n
 there:=λb o q _=>by
  by_cases a:b∈Ws outer
  ·obtain ⟨_,d,c,_⟩:=F.fly.2.2.1.mem a
   exact ⟨d,c⟩
  ·obtain ⟨d,c,_⟩:=F.cov b o q a
   exact ⟨d,F.fly.1 b d c⟩
 tups:=F.tups
 frzs:=F.frzs
 tbls:=F.tbls
theorem Fly.held(F:Fly P w outer H H' s s' e C t B):Zw P w H' s'.heap:=F.hok.kept F.fly.1
theorem Fly.new(F:Fly P w outer H H' s s' e C t B):H' e=none:=by
 cases q:H' e with
 | none=>rfl
 | some u =>
  obtain ⟨o,a⟩:=N9 (F.hok e u q)
  rw[F.fly.2.1] at a
  cases a
theorem Fly.on{h':Heap}(F:Fly P w outer H H' s s' e C t B)(f:Heap.FlyingW B outer e (.ref C) (.ref t) h')(u:s'.heap.UpToSlots h'):Fly P w outer H H' s { s' with heap:=h' } e C t B :=
 ⟨F.os,F.bare,f,F.cov,λb o q d n=>by
  obtain ⟨k,g⟩:=F.slot b o q d n
  obtain ⟨_,j,c,i⟩:=F.fly.2.2.1.mem d
  rw[g] at c
  cases c
  obtain ⟨a,h⟩:=u b _ g i
  exact ⟨a,h⟩,F.free,F.tups,F.frzs,F.tbls,F.hok⟩
end
section
variable{P:Bk}{w:World}{K:PySem.W.Frag}{mg:Str->Option Value}{base:Heap}{N:List Str}{d:Str}{c:Scope}{f:Addr}{g:Value}{A:Cf}{outer:List Env}{s:Ak}{H:Hp}{E:XK}
theorem tG{env:Env}{L b:Addr}{l:List Env}(c:env.frame=some L)(d:b∈Ws (env::l)):b=L\/b∈Ws l:=by
 obtain ⟨x,e,a⟩:=Ee.mp d
 rcases Ai.mp e with z | z
 ·subst z
  rw[c] at a
  exact .inl (Br a).symm
 ·exact .inr (Ee.mpr ⟨x,z,a⟩)
theorem mW{m:List (Addr×Obj)}{X:L2.St}{G:Hp}{F:Ak}{h':Heap}{e C:Addr}{vs:List Value}(I:Inv (Kb (Iu P w) P w K mg base N d c f g A outer s H E) m X G F)(S:Heap.MadeExcOf F.heap h' e (.ref C) vs)(q:E (.ref C) none G):(Kb (Iu P w) P w K mg base N d c f g A outer s H E).xe (.ref e) { F with heap:=h' }:=by
 have y:=I.stack
 have p:=I.stkFree
 have h0:=I.ok.above
 have k:=I.base
 have M:∀j∈(Fe d c s.heap.objs.size f g::outer),∀b,j.frame=some b->b∈Ws (Fe d c s.heap.objs.size f g::outer):=λj U b Q=>Ee.mpr ⟨j,U,Q⟩
 have Z:∀b o,s.heap.get? b=some o->b∉Ws outer->b∉Ws (Fe d c s.heap.objs.size f g::outer):=λb o h D l=>by
  rcases tG (L:=s.heap.objs.size) rfl l with z | z
  ·exact absurd (Bb h) (by rw[z]; exact Fm _)
  ·exact D z
 refine wpAny_leaves_madeW (base:=PySem.W.hideAll F.heap (Ws (Fe d c s.heap.objs.size f g::outer))) (L:=s.heap.objs.size) I.ok.frames rfl (λb o h=>PySem.W.of_hideAll _ h) (PySem.W.funFrames_hide y M) S λh2 t x1 x2 x3 x4=>?_
 refine ⟨e,C,t,G,_,rfl,⟨I.os,I.bare,x1,λb o h D=>?_,λb o h l n=>?_,λb o h n=>k.free b o h n (by intro z; exact nomatch z),k.tups,k.frzs,k.tbls,λa u h=>?_⟩,q⟩
 ·obtain ⟨T,i⟩:=k.there b o h (by intro z; exact nomatch z)
  refine ⟨T,PySem.W.hideAll_get _ i (Z b o h D),λn=>?_⟩
  have B:=k.keep b o h n D (by intro z; exact nomatch z)
  rw[B] at i
  exact (Br i).symm
 ·obtain ⟨sl,i⟩:=k.slot b o h n l (by intro z; exact nomatch z)
  have O:b∈Ws (Fe d c s.heap.objs.size f g::outer):=by
   obtain ⟨x,J,Q⟩:=Ee.mp l
   exact Ee.mpr ⟨x,Ah _ J,Q⟩
  obtain ⟨_,T,B,nf⟩:=y.mem O
  rw[i] at B
  cases B
  obtain ⟨R,Y⟩:=x4 b _ (S.keeps _ _ i) nf
  exact ⟨R,Y⟩
 ·refine (I.hok a u h).stay (λb v V i=>PySem.W.hideAll_get _ i λl=>?_) (λ_ z=>z) (λ_ _ z=>z)
  have z:=p b l
  rcases V with r | r
  ·rw[r,h] at z; cases z
  ·rw[r] at z; cases z
theorem La:Fu (Iu P w) (Kb (Iu P w) P w K mg base N d c f g A outer s H E) E:=by
 intro J σ H1 s1 ev s' I h
 obtain ⟨e,C,t,T,B,rfl,F,q⟩:=h
 have i:=I.base
 have R:∀b o,s.heap.get? b=some o->b∉Ws outer->b∉Ws (Fe d c s.heap.objs.size f g::outer):=λb o a r p=>by
  rcases tG (L:=s.heap.objs.size) rfl p with z | z
  ·exact absurd (Bb a) (by rw[z]; exact Fm _)
  ·exact r z
 refine wpAny_leaves_onW (L:=s.heap.objs.size) I.ok.frames rfl F.fly λh2 Z W=>?_
 refine ⟨e,C,t,T,B,rfl,⟨F.os.trans I.os,F.bare,Z,λb o a r=>?_,λb o a p n=>?_,λb o a n=>?_,λb M z=>F.tups b M (i.tups b M z),λb o u z=>F.frzs b o u (i.frzs b o u z),λb Q z=>?_,F.hok⟩,q⟩
 ·obtain ⟨v,j⟩:=i.there b o a (by intro z; exact nomatch z)
  obtain ⟨O,l,m⟩:=F.cov b v j (R b o a r)
  refine ⟨O,l,λn=>?_⟩
  have y:=i.keep b o a n r (by intro z; exact nomatch z)
  rw[y] at j
  rw[m (i.free b o a n (by intro z; exact nomatch z))]
  exact (Br j).symm
 ·obtain ⟨sl,j⟩:=i.slot b o a n p (by intro z; exact nomatch z)
  have k:b∈Ws (Fe d c s.heap.objs.size f g::outer):=by
   obtain ⟨x,D,hf⟩:=Ee.mp p
   exact Ee.mpr ⟨x,Ah _ D,hf⟩
  obtain ⟨U,l⟩:=F.slot b _ j k (i.free b o a n (by intro z; exact nomatch z))
  obtain ⟨_,O,m,X⟩:=F.fly.2.2.1.mem k
  rw[l] at m
  cases m
  obtain ⟨G,y⟩:=W b _ l X
  exact ⟨G,y⟩
 ·obtain ⟨v,j⟩:=i.there b o a (by intro z; exact nomatch z)
  exact F.free b v j (i.free b o a n (by intro z; exact nomatch z))
 ·obtain ⟨Y,S⟩:=i.tbls b Q z
  obtain ⟨m2,V⟩:=F.tbls b _ S
  exact ⟨Y++m2,by rw[V,Array.append_assoc]⟩
theorem MR{x:Str}{st:Stmt}{g:Bj}{ps:List Str}{k:Nat}{sp:Sp}(F:Fun K x d st f g)(S:FnScope N ps (Bi st))(len:∀vs H Q E,sp vs H Q E->vs.length=ps.length)(b:∀(a:Value) (A:Cf) (outer:List Env) (s:Ak) (H:Hp) (vs:List V) (Q:VK) (E:XK),Room k (A.deeper (Fe d (Bi st) s.heap.objs.size f a))->sp vs H Q E->∃t,Uo (Kb (Iu P w) P w K mg base N d (Bi st) f a A outer s H E) (Gr st) t/\t { nx:=λ_ H'=>Q .non H',rt:=Q } (start N vs) H):FnOk P w K mg base (Iu P w) (k+1) f g ps sp:=by
 obtain ⟨m,p,kV,l,q,o,a,n,h,rfl,j,e⟩:=F.ex
 exact Z0 j e S len λA outer s H vs Q E i c=>b a A outer s H vs Q E i c
end
abbrev Ze:List Value:=[.type "ValueError",.type "Exception",.type "BaseException",.type "object"]
def CD(h:Heap)(C:Addr):Prop:=∃c N i q bs a f sub m b j e n k g l d,h.get? C=some (excClassObj i q C N bs c a f sub m b j e n k g l "ValueError.__new__")/\h.Ns N d/\d "__init__" = none/\OwnTail h Ze c
theorem fR{K:PySem.W.Frag}{h:Heap}{C:Addr}(X:K.In h)(q:PySem.W.excIn K C Ze "ValueError.__new__" = true):CD h C:=by
 unfold PySem.W.excIn at q
 split at q
 ·rename_i t w k x
  split at q
  ·rename_i A r g f d j n e i c
   simp only[Cz,beq_iff_eq,Bool.not_eq_true'] at q
   obtain ⟨⟨⟨⟨⟨rfl,rfl⟩,hdel⟩,ht⟩,hok⟩,hni⟩:=q
   obtain ⟨p,bs,v,o,y,m,s,sub,z,a,u⟩:=w
   dsimp only at i hdel hok hni
   subst i hdel
   have b:k=#[g,f,d,j,some (.builtin "ValueError.__new__"),e]:=by
    obtain ⟨l⟩:=k
    simp only at c
    rw[c]
   subst b
   exact ⟨r,o,p,y,bs,m,s,sub,z,a,t,g,f,d,j,e,_,X _ _ x,.of_isNs (PySem.W.isNs_of_in X hok),PySem.W.nsMap_none_of_in X hok hni,PySem.W.tail_of_in X ht⟩
  ·cases q
 ·cases q
section
variable{P:Bk}{w:World}{K:PySem.W.Frag}{mg:Str->Option Value}{base:Heap}{N:List Str}{c:Str}{a:Scope}{f:Addr}{d:Value}{A:Cf}{outer:List Env}{s:Ak}{H:Hp}{E:XK}
def ER(C:Addr)(E:XK)(a:TA):TS:=λ_ b H=>a b H λvs c=>vs.length<=Ba/\E (.ref C) none c
theorem Wr{C:Addr}{x:Str}{np i pos:Pos}{g:Expr}{es:List Expr}{t:TA}(G:Gl (Kb (Iu P w) P w K mg base N c a f d A outer s H E) x)(M:mg x=some (.ref C))(v:PySem.W.excIn K C Ze "ValueError.__new__" = true)(L:PA (Kb (Iu P w) P w K mg base N c a f d A outer s H E) (g::es) t)(hd:(x == ("__debug__" : Str))=false:=by decide)(k:An (g::es) (Fe c a s.heap.objs.size f d)=(false,eval g (Fe c a s.heap.objs.size f d))::An es (Fe c a s.heap.objs.size f d):=by rfl)(m:(Cq i (An es (Fe c a s.heap.objs.size f d))).any (·.1)=false:=by rfl):PS (Kb (Iu P w) P w K mg base N c a f d A outer s H E) (.Raise (some (.Call (.Name x np) (g::es) [] i)) none pos) (ER C E t):=by
 intro j Y B u D I h
 obtain ⟨bm,J,nm,q,bs,hdct,sn,sub,ab,col,dd,k0,k1,k2,k3,k5,mN,U,z,n,T⟩:=fR (h:=base) I.ok.mod.kin v
 refine wpAny_Raise_call_subT (C:=C) (nm:=nm) (q:=q) (N:=J) (bs:=bs) (bm:=bm) (hdct:=hdct) (sn:=sn) (sub:=sub) (ab:=ab) (col:=col) (dd:=dd) (k0:=k0) (k1:=k1) (k2:=k2) (k3:=k3) (k5:=k5) F.excBase_ValueError (mN:=mN)
  (T.hasType (by decide)) (I.ok.hd rfl) (by show (Cq i (An (g::es) (Fe c a s.heap.objs.size f d))).any (·.1)=false; rw[k]; show (false || (Cq i (An es (Fe c a s.heap.objs.size f d))).any (·.1))=false; rw[m]; rfl) n (Rh I G M ⟨rfl,?_⟩ hd)
 show wpAny _ _ (evalArgs (.ref C) true (Cq i (An (g::es) (Fe c a s.heap.objs.size f d))) []) _ _ _
 rw[k]
 have r:=L i j Y B u _ I h
 rw[show An (g::es) (Kb (Iu P w) P w K mg base N c a f d A outer s H E).env=(false,eval g (Fe c a s.heap.objs.size f d))::An es (Fe c a s.heap.objs.size f d) from k] at r
 refine Calls.evalArgs_plain (Cv r (λus O S=>?_) λ_ _ y=>y)
 obtain ⟨vs,H2,p,R,Q,X⟩:=S
 have l:∀b o,base.get? b=some o->O.heap.get? b=some o:=p.bk
 exact ⟨rfl,by rw[<- R.length]; exact Q,l _ _ U,z.keeps l,T.keeps l,λZ e V=>mW p V X⟩
end
abbrev bR(X:Cx)(v:Value)(E:Value->Ak->Prop):Cx:={ X with A:=X.A.mark (some v),calm:=false,xe:=E }
section
variable{X:Cx}{a:List (Addr×Obj)}{g:L2.St}{H:Hp}{s:Ak}{v:Value}{E:Value->Ak->Prop}
theorem Ur(I:Inv X a g H s):Inv (bR X v E) a g H s :=
 ⟨⟨I.ok.mod,I.ok.kind,I.ok.glob,I.ok.blt,I.ok.above,I.ok.inj,I.ok.has,I.ok.cab,(λz=>nomatch z),I.ok.frames,I.ok.stk,I.ok.exf,I.ok.bs,I.ok.bsz,I.ok.noex,I.ok.exfs,I.ok.funs,I.ok.frf,I.ok.tab⟩,I.os,I.bare,I.base,I.loc,I.cell,I.free,I.freeC,I.pin,I.hok,I.len⟩
theorem Wn(b:X.calm=true->X.A.handled=none)(I:Inv (bR X v E) a g H s):Inv X a g H s :=
 ⟨⟨I.ok.mod,I.ok.kind,I.ok.glob,I.ok.blt,I.ok.above,I.ok.inj,I.ok.has,I.ok.cab,b,I.ok.frames,I.ok.stk,I.ok.exf,I.ok.bs,I.ok.bsz,I.ok.noex,I.ok.exfs,I.ok.funs,I.ok.frf,I.ok.tab⟩,I.os,I.bare,I.base,I.loc,I.cell,I.free,I.freeC,I.pin,I.hok,I.len⟩
theorem P4{M:Model}{A:Cf}{i:Nat}{n:Str}{pos:Pos}{Q:Unit->Ak->Prop}(I:Inv X a g H s)(S:X.N.Nodup)(L:X.N[i]? = some n)(T:X.env.scope.names.lookup n=some .local)(h:∀s',Inv X a (g.set i none) H s'->Q () s'):wpAny M A (do bindName X.env n .none; unbindBehindTheSuite X.env n pos) Q E s:=by
 obtain ⟨m,K,hl⟩:=id I.loc
 have w:i<g.length:=by rw[I.len]; exact (Aw.mp L).1
 refine wpAny_nameGoes_keeps T K (by rw[I.ok.kind]; rfl) λh' v D l=>?_
 obtain ⟨oL,_,_,V,_⟩:=id K
 have t:∀b o,X.s₀.heap.get? b=some o->b≠X.env.locals:=λb o e=>Cj (Ca (Bb e) I.ok.above)
 refine h _ ⟨I.ok,I.os,I.bare,⟨λb o e n F x=>(l.2 b (t b o e)).trans (I.base.keep b o e n F x),λb o e n F x=>?_,I.base.free,λb o e x=>?_,I.base.tups,I.base.frzs,I.base.tbls⟩,⟨_,D,λj y W u B P=>?_⟩,λy c e=>?_,I.free,I.freeC,λp Z=>?_,λb ob e=>?_,by simpa using I.len⟩
 ·obtain ⟨sl,u⟩:=I.base.slot b o e n F x
  exact ⟨sl,(l.2 b (t b o e)).trans u⟩
 ·obtain ⟨o',u⟩:=I.base.there b o e x
  exact ⟨o',(l.2 b (t b o e)).trans u⟩
 ·by_cases C:j=i
  ·subst C
   rw[Ji w] at B
   cases B
  ·rw[Vk (Lq C)] at B
   obtain ⟨O,r',q⟩:=hl j y W u B P
   refine ⟨O,r',?_⟩
   rcases q with ⟨k,e⟩ | ⟨k,c,e,z⟩
   ·have U:y≠n:=λz=>C (cK S u (z▸L))
    exact .inl ⟨k,(if_neg U).trans e⟩
   ·exact .inr ⟨k,c,e,z.sameBut l (I.cne y c e)⟩
 ·obtain ⟨G,z⟩:=I.cell y c e
  exact ⟨G,z.sameBut l (I.cne y c e)⟩
 ·obtain ⟨e,n,J,Y,d⟩:=I.pin p Z
  exact ⟨(l.2 p.1 J).trans e,n,J,Y,d⟩
 ·refine (I.hok b ob e).stay (λc G R q=>(l.2 c ?_).trans q) (λ_ q=>q) λ_ _ q=>q
  intro z
  have f:=I.free
  rw[<- z] at f
  rcases R with r | r
  ·rw[r,e] at f; cases f
  ·rw[r] at f; cases f
end
def mZ(x C:Addr)(h:Heap):Prop:=∃a vs,h.get? x=some a/\a.cls=.ref C/\a.data=.fields vs
abbrev rK(x C:Addr):HO:=.ext (mZ x C)
theorem DZ{P:Bk}{w:World}{H:Hp}{h:Heap}{x C:Addr}(e:mZ x C h):Jt P w H h x (rK x C) :=
 ⟨e,let ⟨a,_,b,_⟩:=e; ⟨a,b⟩,λf g ⟨a,vs,b,c,d⟩ k=>⟨a,vs,k a b,c,d⟩⟩
section
variable{M:Model}{A:Cf}{E:Value->Ak->Prop}{h:Heap}{g:Array GenState}{d:Drawn}{t:Nat}{os:OsState}
variable{nm q:Str}{N:Addr}{bs bm:List Value}{hdct:Bool}{sn:List Str}{sub:List Value}{ab:Bool}{col:Option Bool}{dd:Option Addr}{k0 k1 k2 k3 k5:Option Value}{a:String}
theorem lX{K:PySem.W.Frag}{e C D:Addr}{c:Obj}{Q:Bool->Ak->Prop}(m:K.In h)(b:h.get? D=some (excClassObj nm q D N bs bm hdct sn sub ab col dd k0 k1 k2 k3 k5 a))(i:h.get? e=some c)(j:c.cls=.ref C)(hb:bm.contains (.type "BaseException")=true)(l:PySem.W.subIn K (.ref C) (.ref D)=some true)(k:Q true ⟨h,g,d,t,os⟩):wpAny M A (excMatches (.ref e) (.ref D)) Q E ⟨h,g,d,t,os⟩:=by
 have b1:(Co D::bm).contains (.type "BaseException")=true:=by rw[List.contains_cons,hb,Bool.or_true]
 have L:=PySem.W.looks_subIn (M:=M) m l
 have f:=tc_notTuple
 unfold excMatches
 repeat (first | (with_reducible refine Ik i ?_; rw[j]) | with_reducible refine Ik b ?_ | with_reducible refine PySem.W.Looks.at L ?_ | (with_reducible refine wpAny_isSubtype_exc b ?_; rw[b1]) | wp_step)
 exact k
end
section
variable{P:Bk}{w:World}{X:Cx}{c:List (Addr×Obj)}{i:L2.St}{h f:Hp}{g d:Ak}{e C t:Addr}{B:Heap}
theorem Q4(I:Inv X c i h g)(F:Fly X.prog X.w X.stack h f g d e C t B):Inv X c i f d :=
 I.call' (ch:=[]) F.os F.un F.held F.bare λb z=>nomatch z
theorem kJ(F:Fly P w X.stack h f g d e C t B):mZ e C d.heap :=
 let ⟨oe,vs,e1,e2,e3,_⟩:=F.fly.first
 ⟨oe,vs,e1,e2,e3⟩
theorem qU(I:Inv X c i h g)(F:Fly X.prog X.w X.stack h f g d e C t B):Inv X c i (upd f e (rK e C)) d:=by
 have un:=F.un
 have x:B.get? e=none:=F.fly.2.1
 have p:=F.new
 have E:e∉Ws X.stack:=λz=>by
  obtain ⟨_,o,k,G⟩:=F.fly.2.2.1.mem z
  obtain ⟨K,vs,l,_,A⟩:=kJ F
  rw[k] at l
  cases l
  exact G _ A
 have new:∀b o,g.heap.get? b=some o->b≠e:=λb o k z=>by
  by_cases v:b∈Ws X.stack
  ·exact E (z▸v)
  ·obtain ⟨J,l,_⟩:=F.cov b o k v
   rw[z,x] at l
   cases l
 have D:Inv X c i (upd f e (rK e C)) d:=I.call' (ch:=[]) F.os
  ⟨un.keep,un.slot,λb o k n H=>by rw[Cn (new b o k)]; exact un.free b o k n H,un.there,λb s z=>?_,λb o u z=>?_,λb y z=>?_⟩ ?_ F.bare λb z=>nomatch z
 ·exact D
 ·have j:=un.tups b s z
  rw[Cn (Ea j p)]; exact j
 ·have j:=un.frzs b o u z
  rw[Cn (Ea j p)]; exact j
 ·obtain ⟨m,j⟩:=un.tbls b y z
  exact ⟨m,by rw[Cn (Ea j p)]; exact j⟩
 ·intro a u z
  by_cases r:a=e
  ·subst r
   rw[Cg] at z
   cases z
   exact DZ (kJ F)
  ·rw[Cn r] at z
   refine (F.held a u z).stay (λ_ _ _ q=>q) (λb q=>?_) (λb s q=>?_)
   ·rw[Cn (Ea q p)]; exact q
   ·rw[Cn (Ea q p)]; exact q
end
section
variable{X:Cx}{E:XK}
theorem S6{CX:eL}{B:Nat}{f:Addr}{y:Bj}{ps:List Str}{sp:Sp}{x:Str}{p pos:Pos}{e:Expr}{es:List Expr}{t:TA}(F:FnOk X.prog X.w X.K X.mg X.base CX B f y ps sp)(D:Room B X.A)(J:Gl X x)(M:X.mg x=some (.ref f))(G:PySem.W.keepIn X.K (.ref f)=true)(hb:Binds X.K y ps [])(L:PA X.nox (e::es) t){a:List (Addr×Obj)}{s:Ak}{c:L2.St}{H:Hp}{Q:VK}{o:Value->Ak->Prop}(I:Inv X a c H s)(h:t c H λvs b=>sp vs b Q E)(U:∀b d l s',Inv X a c b d->CX X.stack b d E l s'->o l s')(m:(x == ("__debug__" : Str))=false:=by decide)(C:An (e::es) X.env=(false,eval e X.env)::An es X.env:=by rfl)(n:(Cq pos (An es X.env)).any (·.1)=false:=by rfl):wpAny (model X.prog X.w) X.A (eval (.Call (.Name x p) (e::es) [] pos) X.env) (EP X a c Q) o s:=by
 refine Jx (Rh I J M ?_ m)
 have P:=Cv (L pos a s c H _ (I.wish _) h) (Q':=AP X a c λvs b=>sp vs b Q E) (E':=o) (λ_ _ ⟨v,N,O,r,q⟩=>⟨v,N,O.unwish,r,q⟩) (λ_ _ z=>Di z)
 refine PySem.W.callWith_K (h₀:=X.base) I.ok.mod.kin G (Gy P λk d ⟨vs,b,g,r,q⟩=>⟨g.kIn,?_⟩) C n
 have R:k.length=ps.length:=by rw[<- r.length]; exact F.len _ _ _ _ q
 have i:=hb d k g.kIn (by simpa using R)
 rw[Bo] at i
 refine Vo (Il (F.run X.A X.stack d b ⟨k,[]⟩ k vs Q E D g.env0 i r q) λT s' j=>?_)
 cases T with
 | error l=>exact U b d l s' g j
 | ok S =>
  cases S with
  | ret u=>exact g.after j
  | next=>exact Di j
  | brk=>exact Di j
  | cont=>exact Di j
def Wa(j k:Nat)(x:Addr)(a:L2.St):L2.St:=((a.set k (some (.ref x))).set j (some (.ref x))).set k none
theorem xB{a:List (Addr×Obj)}{o:L2.St}{H1 J:Hp}{s1 m:Ak}{e C D t:Addr}{B:Heap}{j k:Nat}{n y c:Str}{np hp Y yp O:Pos}{De:Ends}(l:X.stack=X.env::X.outer)(h0:X.env.frame=some X.env.locals)(M:X.N.Nodup)(H:X.N[k]? = some n)(b:X.env.scope.names.lookup n=some .local)(hj:X.N[j]? = some y)(p:X.env.scope.names.lookup y=some .local)(hg:Gl X c)(hm:X.mg c=some (.ref D))(hD:PySem.W.excIn X.K D Ze "ValueError.__new__" = true)(hs:PySem.W.subIn X.K (.ref C) (.ref D)=some true)(I:Inv X a o H1 s1)(F:Fly X.prog X.w X.stack H1 J s1 m e C t B)(q:De.nx (Wa j k e o) (upd J e (rK e C)))(S:(c == ("__debug__" : Str))=false:=by decide)(Z:(n == ("__debug__" : Str))=false:=by decide)(V:El (.Name n O) (some (.Name y yp)) Y.line X.env=pure false:=by rfl)(L:(n == ("__classdict__" : Str))=false:=by decide):wpAny (model X.prog X.w) X.A (noteFrame (.ref e) X.env) (λ_ s3=>wpAny (model X.prog X.w) X.A (setFlight (.ref e) none) (λ_ s4=>wpAny (model X.prog X.w) X.A (handleBy (.ref e) X.env [.ExceptHandler (some (.Name c np)) (some n) [.Assign [.Name y yp] (.Name n O) Y] hp]) (SP X a De) X.xe s4) X.xe s3) X.xe m:=by
 have fr:X.A.frames=some (X.env::X.outer):=by rw[<- l]; exact I.ok.frames
 have fl:=F.fly
 rw[l] at fl
 refine wpAny_looks_onW fr h0 fl λh3 x1 x2=>?_
 refine wpAny_landsW x1 λQ x3 x4=>?_
 have R:=F.on (h':=Q) (by rw[l]; exact x3) (x2.trans x4)
 have U:=Q4 I R
 refine wpAny_handleBy_cons (codeAny_handlers_test ?_) (by intro z; cases z)
 refine Rh (X:=bR X (.ref e) X.xe) (Ur U) hg hm ?_ S
 obtain ⟨bm,NN,nm,qn,bs,h1,sn,sub,ab,h2,dd,k0,k1,k2,k3,k5,mN,hC,_,_,T⟩:=fR (h:=Q) U.kIn hD
 obtain ⟨oe,vs,e1,e2,e3⟩:=kJ R
 refine lX (d:=m.drawn) (g:=m.gens) (t:=m.toks) (os:=m.os) U.kIn hC e1 e2 (T.hasType (by decide)) hs ?_
 show Gw _ _ _ _ _
 refine codeAny_handlers_suite_as ?_
 refine lands_againW (s:={ m with heap:=Q }) x3 λh5 x5 x6=>?_
 have F5:=R.on (h':=h5) (by rw[l]; exact x5) x6
 have I5:=qU I F5
 refine Vy (X:=bR X (.ref e) X.xe) (v:=.ref e) (Ur I5) M H (.inl b) rfl (λs6 I6=>?_) (.inr b)
 have E:k<o.length:=by rw[I.len]; exact (Aw.mp H).1
 have P:=Ni (Sd (X:=bR X (.ref e) (λ_ _=>False))
   (i:=j) (pos:=Y) (pos':=yp) M hj (.inl p) (E7 (i:=k) (x:=n) (pos:=O) H (.inl b) Z L) V (.inr p))
  a s6 (o.set k (some (.ref e))) (upd J e (rK e C)) { nx:=λr H'=>r=(o.set k (some (.ref e))).set j (some (.ref e))/\H'=upd J e (rK e C),rt:=λ_ _=>False,bk:=λ_ _=>False,ct:=λ_ _=>False } (Ur (Wn I.ok.hd I6))
  ⟨.ref e,by rw[Ji E],rfl,rfl⟩
 refine Cv P (λf s7 G=>?_) λ_ _ z=>Di z
 cases f with
 | next =>
  obtain ⟨r,H',I7,rfl,rfl⟩:=G
  exact P4 (Wn I.ok.hd I7) M H b λs8 I8=>⟨_,_,I8,q⟩
 | ret u=>obtain ⟨_,_,_,_,_,z⟩:=G; exact z.elim
 | brk=>obtain ⟨_,_,_,z⟩:=G; exact z.elim
 | cont=>obtain ⟨_,_,_,z⟩:=G; exact z.elim
end
structure ExcK(K:PySem.W.Frag)(C:Addr):Prop where
 cls:∃cd,PySem.W.clsIn K C=some cd
 ga:PySem.W.findIn K (.ref C) "__getattribute__" = some (some (.builtin "BaseException.__getattribute__"))
 gn:PySem.W.findIn K (.ref C) "__getattr__" = some none
 ca:PySem.W.findIn K (.ref C) "__class__" = some (some (.builtin "object.__class__"))
 sb:PySem.W.subIn K (.ref C) (.type "BaseException")=some true
 so:PySem.W.subIn K (.ref C) (.type "object")=some true
section
variable{prog:Bk}{w:World}{A:Cf}{E:Value->Ak->Prop}{h:Heap}{g:Array GenState}{d:Drawn}{t:Nat}{os:OsState}{a C:Addr}{o:Obj}{K:PySem.W.Frag}
theorem E9{R:Result->Ak->Prop}(e:K.In h)(T:ExcK K C)(c:h.get? a=some o)(b:o.cls=.ref C)(f:R (.ok (.ret (.ref C))) ⟨h,g,d,t,os⟩):Gw (model prog w) A (.call (.builtin "getset_descriptor.__get__") ⟨[.builtin "object.__class__",.ref a,.ref C],[]⟩) R ⟨h,g,d,t,os⟩:=by
 have ty:(⟨h,g,d,t,os⟩ : Ak).TypeIs (.builtin "object.__class__") "getset_descriptor" := PySem.F.typeOf_object_class
 have L:=PySem.W.looks_subIn (M:=model prog w) e T.so
 rw[<- PySem.F.owner_object_class] at L
 refine Zk PySem.F.slot_gs_get.plain PySem.F.entry_gs_get (PySem.F.slot_gs_get.check _ _ _ _ _ _ _ _ ty (PySem.F.args_gs_get _ _ _) ?_)
 repeat (any_goals (first | assumption | (with_reducible refine Ik c ?_; rw[b]) | with_reducible refine PySem.W.Looks.at L ?_ | wp_step))
 refine ⟨Code.quiet_builtin _ (by decide +kernel),Pn PySem.F.entry_object_class ?_⟩
 repeat (any_goals (first | assumption | (with_reducible refine Ik c ?_; rw[b]) | wp_step))
theorem qC{f:Tok}{Q:Fin->Ak->Prop}(e:K.In h)(T:ExcK K C)(c:h.get? a=some o)(b:o.cls=.ref C)(k:Q (.done (.ret (.ref C))) ⟨h,g,d,t,os⟩):wpAny (model prog w) A (Builtin.«object.__getattribute__» ⟨[.ref a,.str "__class__" f],[]⟩) Q E ⟨h,g,d,t,os⟩:=by
 have ty:(⟨h,g,d,t,os⟩ : Ak).TypeIs (.builtin "object.__class__") "getset_descriptor" := PySem.F.typeOf_object_class
 have j:=PySem.F.typeOf_object_class
 have i:=PySem.F.slot_gs_get.lookup
 have l:=PySem.F.slot_gs_set.lookup
 have L:=PySem.W.looks_findIn (M:=model prog w) e T.ca
 repeat (any_goals (first | assumption | (with_reducible refine Ik c ?_; rw[b]) | with_reducible refine PySem.W.Looks.at L ?_ | wp_step))
 refine E9 e T c b ?_
 repeat (any_goals (first | assumption | wp_step))
theorem pY{M:Model}{b:Value}{Q:Unit->Ak->Prop}(j:K.In h)(T:ExcK K C)(f:h.get? a=some o)(c:o.cls=.ref C)(e:Q () ⟨h,g,d,t,os⟩):wpAny M A (lA "BaseException.__getattribute__" ⟨[.ref a,b],[]⟩) Q E ⟨h,g,d,t,os⟩:=by
 have k:builtinKind "BaseException.__getattribute__" = some .slot:=by decide +kernel
 have i:splitId "BaseException.__getattribute__" = some ("BaseException", "__getattribute__"):=by decide +kernel
 have l:=PySem.F.args_bexc_ga (.ref a) b
 have L:=PySem.W.looks_subIn (M:=M) j T.sb
 simp only[lA,k,i]
 refine Aa ?_
 unfold isInstance
 repeat (first | (with_reducible refine Ik f ?_; rw[c]) | with_reducible refine PySem.W.Looks.at L ?_ | wp_step)
 exact e
theorem wC{f:Tok}{R:Result->Ak->Prop}(e:K.In h)(T:ExcK K C)(c:h.get? a=some o)(b:o.cls=.ref C)(i:R (.ok (.ret (.ref C))) ⟨h,g,d,t,os⟩):Gw (model prog w) A (.call (.builtin "BaseException.__getattribute__") ⟨[.ref a,.str "__class__" f],[]⟩) R ⟨h,g,d,t,os⟩ :=
 Zk (by decide +kernel) PySem.F.entry_bexc_ga (pY e T c b (qC e T c b i))
theorem S9{j:Tok}{Q:Value->Ak->Prop}(b:K.In h)(T:ExcK K C)(e:h.get? a=some o)(c:o.cls=.ref C)(l:Q (.ref C) ⟨h,g,d,t,os⟩):wpAny (model prog w) A (getAttrBy (.ref a) (.str "__class__" j) false) Q E ⟨h,g,d,t,os⟩:=by
 have k:=PySem.W.looks_findIn (M:=model prog w) b T.ga
 have f:=PySem.W.looks_findIn (M:=model prog w) b T.gn
 have i:(Ww "BaseException.__getattribute__" == Ww "object.__getattribute__")=false:=by decide +kernel
 have m:(onTheHeap (Co C) && Ww "BaseException.__getattribute__" == Ww "object.__getattribute__")=false:=by rw[i]; rfl
 have n:=PySem.F.excAttr_ValueError.ga.bind (.ref a)
 repeat (any_goals (first | assumption | (with_reducible refine Ik e ?_; rw[c]) | with_reducible refine PySem.W.Looks.at k ?_ | with_reducible refine PySem.W.Looks.at f ?_ | wp_step))
 refine wC b T e c ?_
 repeat (any_goals (first | assumption | wp_step))
theorem xX{Q:Option Value->Ak->Prop}(b:K.In h)(T:ExcK K C)(e:h.get? a=some o)(c:o.cls=.ref C)(f:Q (some (.ref C)) ⟨h,g,d,t+1,os⟩):wpAny (model prog w) A (getAttr? (.ref a) "__class__") Q E ⟨h,g,d,t,os⟩:=by
 unfold getAttr? getAttrBy?
 repeat (any_goals (first | assumption | with_reducible apply S9 b T e c | wp_step))
end
theorem B7{K:PySem.W.Frag}{x C:Addr}(T:ExcK K C):PySem.W.KitX K (.ref x) (.ref C) (mZ x C) where
 ty:=λM h b ⟨p,vs,j,c,m⟩=>c▸(PySem.W.Looks.ld j).andThen .now
 it:=λM h b _=>by
  obtain ⟨o,a⟩:=T.cls
  unfold PySem.W.clsIn at a
  split at a
  ·rename_i i
   intro y v D u k q
   unfold isType loadHead
   exact Aa (wpAny_loadPart (k _ _ (b _ _ i)) (Am q))
  ·cases a
 ne:=λh l B r n F b f=>by
  obtain ⟨o,a⟩:=T.cls
  unfold PySem.W.clsIn at a
  split at a
  ·rename_i i
   refine Bool.eq_false_iff.mpr λq=>?_
   have e:C=l:=Value.ref.inj (beq_iff_eq.mp q)
   subst e
   have z:=(b _ _ i).symm.trans f
   cases z
  ·cases a
 ca:=λ{prog w A E Q s} b ⟨p,vs,j,c,m⟩ k=>by
  obtain ⟨h,g,d,t,os⟩:=s
  exact xX b T j c k
def oA:V->Value
 | .ref D=>.ref D
 | .ty n=>.type n
 | _=>.none
section
variable{X:Cx}
def EA(K:PySem.W.Frag):List V->Hp->VK->Prop:=λa H Q=>∃(x C:Addr) (c:V) (b:Bool),a=[.ref x,c]/\H x=some (rK x C)/\ExcK K C/\RelV c (oA c)/\PySem.W.kitOne K (.ref C) (oA c)=some b/\Q (.bl b) H
theorem CU{P:Bk}{w:World}{H:Hp}{h:Heap}{x C:Addr}(ok:Zw P w H h)(e:H x=some (rK x C)):mZ x C h:=(show Jt P w H h x (rK x C) from ok x _ e).1
theorem L8:Na X (.builtin "isinstance") (EA X.K):=by
 intro e s l H j o Q I r h
 obtain ⟨x,C,c,b,rfl,g,T,a,k,q⟩:=h
 obtain ⟨u,v,rfl,f,d⟩:=vals2 r
 cases f
 have i:v=oA c:=by
  cases c with
  | ref D=>cases d; rfl
  | ty n=>cases d; rfl
  | non=>cases d; rfl
  | bl _=>cases a
  | int _=>obtain ⟨t,z⟩:=a; cases z
  | str _=>obtain ⟨t,z⟩:=a; cases z
  | byt _=>obtain ⟨t,z⟩:=a; cases z
  | flt _=>obtain ⟨t,z⟩:=a; cases z
 rw[i]
 exact PySem.W.kia_one (B7 T) I.kIn (CU I.hok g) k (λz=>nomatch z) λm=>⟨.bl b,H,I.tok _,rfl,q⟩
end
theorem W5{K:PySem.W.Frag}{C D:Addr}{b:Bool}{e:ClassData}(a:PySem.W.clsIn K D=some e)(c:PySem.W.typeIn K (.ref D)=some (.type "type"))(d:PySem.W.subIn K (.ref C) (.ref D)=some b)(h4:C≠D):PySem.W.kitOne K (.ref C) (.ref D)=some b:=by
 unfold PySem.W.kitOne PySem.W.kitCls
 rw[if_neg (by simpa using h4)]
 dsimp only
 rw[a,c,if_pos (by simp)]
 exact d
theorem kit_self{K:PySem.W.Frag}{C:Addr}:PySem.W.kitOne K (.ref C) (.ref C)=some true:=by
 unfold PySem.W.kitOne
 rw[if_pos (by simp)]
theorem kit_ty{K:PySem.W.Frag}{C:Addr}{n:String}{b:Bool}(a:PySem.W.kitMeta n=true)(c:PySem.W.subIn K (.ref C) (.type n)=some b):PySem.W.kitOne K (.ref C) (.type n)=some b:=by
 unfold PySem.W.kitOne PySem.W.kitCls
 rw[if_neg (by simp)]
 dsimp only
 rw[if_pos a]
 exact c
theorem CO{K:PySem.W.Frag}{T n:String}{b:Bool}(a:(Kf T == Kf n)=false)(c:PySem.W.kitMeta n=true)(d:(fastBuiltinMro T).map (λx=>x.contains (Kf n))=some b):PySem.W.kitOne K (.type T) (.type n)=some b:=by
 unfold PySem.W.kitOne PySem.W.kitCls
 rw[a,if_neg (by decide)]
 dsimp only
 rw[if_pos c]
 exact d
section
variable{X:Cx}{a b:Expr}{c d:TE}{pos:Pos}
theorem J3{e:Expr}{f:TE}(g:PE X e f):PE X (.FormattedValue e (-1) none pos) (λd H Q=>f d H λx b=>∃i,x=.int i/\i.natAbs.log2<1920/\Q (.str (toString i)) b):=by
 intro a s d H Q I h
 refine FormattedValue_plain (Gy (g a s d H _ I h) λv n c => ?_)
 obtain ⟨x,b,j,l,i,m,k,q⟩ := c
 subst m
 obtain ⟨t,rfl⟩:=l
 exact formatField_int_small k ⟨.str _,b,j.tok _,⟨_,rfl⟩,q⟩
theorem C7(D:PE X a c)(hb:PE X b d):PE X (.JoinedStr [a,b] pos) (λf H Q=>c f H λx l=>∃i,x=.str i/\i.length<=1000000/\d f l λy k=>∃j,y=.str j/\i.length+j.length<=1000000/\∀z,Q (.str z) k):=by
 intro e s f H Q I h
 refine JoinedStr_many (Rt (Gy (D e s f H _ I h) λv g m => ?_))
 obtain ⟨x,l,n,E,i,B,M,F⟩ := m
 subst B
 obtain ⟨t,rfl⟩:=E
 have p:Str.empty.length=0:=rfl
 have o:∀(g:Ak),Inv X e f l g->wpAny (model X.prog X.w) X.A (eval b X.env) (EP X e f λy k=>∃j,y=.str j/\i.length+j.length<=1000000/\∀z,Q (.str z) k) X.xe g:=λg n=>hb e g f l _ n F
 refine ⟨?_,Rt (Gy (o g n) λv J ⟨y,k,u,G,j,C,L,q⟩=>?_)⟩
 ·rw[Iw,p,Fn]; omega
 ·subst C
  obtain ⟨K,rfl⟩:=G
  have r:(Str.empty++i++j).length<=Ba:=by rw[Iw,Iw,p,Fn]; omega
  exact ⟨r,joinParts_nil ⟨.str _,k,u.tok _,⟨_,rfl⟩,q _⟩ r⟩
end
end Nd
namespace NdS
open PySem
theorem lJ{mask finger moves:Nat}{led plain:Bool}{b:Array Int}{t:Cc}{order:Array Nat}(h:Jf mask finger moves led plain b=some (t,order)):t.led=led/\t.mask=mask/\t.plain=plain/\t.dummies=#[]:=by
 unfold Jf at h
 cases c:Ox mask b with
 | none=>rw[c] at h; cases h
 | some a =>
  rw[c] at h
  cases h
  exact ⟨rfl,rfl,rfl,rfl⟩
def st(m i:Nat):Nat:=(i * 5+1) % m
def it(m:Nat):Nat->Nat->Nat
 | 0,i=>i
 | t+1,i=>it m t (st m i)
theorem kF(m:Nat):∀(a b i:Nat),it m (a+b) i=it m b (it m a i)
 | 0,b,i=>by rw[Nat.zero_add]; rfl
 | a+1,b,i=>by rw[Nat.add_right_comm]; exact kF m a b (st m i)
def JN(m:Nat):Nat->Nat->List Nat
 | 0,_=>[]
 | f+1,i=>i::JN m f (st m i)
theorem iL{m:Nat}:∀{f i e:Nat},e∈JN m f i->∃t,t<f/\it m t i=e
 | 0,_,_,h=>by cases h
 | f+1,i,e,h=>by
  rcases Ai.mp h with z | z
  ·exact ⟨0,aY _,z.symm⟩
  ·obtain ⟨t,a,b⟩:=iL z
   exact ⟨t+1,Nat.succ_lt_succ a,b⟩
def Ic(m:Nat):Prop:=0<m/\it m m 0=0/\∀e,e<m->e∈JN m m 0
theorem Pz{m:Nat}(d:0<m)(b:(it m m 0 == 0)=true)(c:((Ci m).all λe=>(JN m m 0).contains e)=true):Ic m :=
 ⟨d,by simpa using b,λe a=>by
  have:=eI.mp c e (Kj.mpr a)
  simpa using this⟩
theorem X7:Ic 8:=Pz (by decide) (by decide +kernel) (by decide +kernel)
theorem CM:Ic 16:=Pz (by decide) (by decide +kernel) (by decide +kernel)
theorem CI:Ic 32:=Pz (by decide) (by decide +kernel) (by decide +kernel)
theorem BQ:Ic 64:=Pz (by decide) (by decide +kernel) (by decide +kernel)
theorem V6:Ic 128:=Pz (by decide) (by decide +kernel) (by decide +kernel)
theorem N6:Ic 256:=Pz (by decide) (by decide +kernel) (by decide +kernel)
theorem HE{m:Nat}(g:Ic m){i e:Nat}(l:i<m)(j:e<m):∃t,t<m/\it m t i=e:=by
 obtain ⟨p,k,d⟩:=g
 obtain ⟨a,n,h⟩:=iL (d i l)
 obtain ⟨b,o,f⟩:=iL (d e j)
 by_cases c:a<=b
 ·refine ⟨b - a,by omega,?_⟩
  rw[<- h,<- kF,Nat.add_sub_cancel' c]
  exact f
 ·refine ⟨b+m - a,by omega,?_⟩
  rw[<- h,<- kF,show a+(b+m - a)=m+b by omega,kF,k]
  exact f
def lp(m:Nat):Nat->Nat->Nat->Nat×Nat
 | 0,i,p=>(i,p)
 | t+1,i,p=>lp m t ((i * 5+1+p / 32) % m) (p / 32)
theorem M3(m:Nat):∀(a b i p:Nat),lp m (a+b) i p=lp m b (lp m a i p).1 (lp m a i p).2
 | 0,b,i,p=>by rw[Nat.zero_add]; rfl
 | a+1,b,i,p=>by rw[Nat.add_right_comm]; exact M3 m a b _ _
theorem uI(m:Nat):∀(t i:Nat),lp m t i 0=(it m t i,0)
 | 0,_=>rfl
 | t+1,i=>uI m t (st m i)
theorem oP{m:Nat}:∀(n i p:Nat),p<32 ^ n->(lp m n i p).2=0
 | 0,i,p,h=>by show p=0; simpa using h
 | n+1,i,p,h=>oP n _ _ (by rw[Nat.pow_succ] at h; exact Nat.div_lt_of_lt_mul (by omega))
theorem Z6{m:Nat}(a:0<m):∀(n i p:Nat),i<m->(lp m n i p).1<m
 | 0,i,p,h=>h
 | n+1,i,p,h=>Z6 a n _ _ (Tu _ a)
theorem oG{m:Nat}(g:Ic m){i p e:Nat}(d:i<m)(f:p<2 ^ 64)(b:e<m):∃t,t<m+14/\(lp m t i p).1=e:=by
 have a:=oP (m:=m) 13 i p (Ca f (by decide))
 obtain ⟨t,h,c⟩:=HE g (Z6 g.1 13 i p d) b
 refine ⟨13+t,by omega,?_⟩
 rw[M3,a,uI]
 exact c
theorem Yb(mask i:Nat):i<=Hk mask i:=by unfold Hk; split <;> omega
theorem gP{mask:Nat}{owner:Array (Option Nat)}:∀(fuel i p t:Nat),t<fuel->(owner.getD (lp (mask+1) t i p).1 (some 0)).isNone=true->∃j,Kg mask owner fuel i p=some j/\(owner.getD j (some 0)).isNone=true
 | 0,_,_,_,h,_=>absurd h (Lp _)
 | fuel+1,i,p,t,h,hn=>by
  unfold Kg
  split
  ·rename_i k a
   exact ⟨i+k,rfl,by have:=Tw a; exact this⟩
  ·rename_i a
   rw[List.find?_eq_none] at a
   cases t with
   | zero =>
    have:=a 0 (Kj.mpr (by have:=Yb mask i; omega))
    exact absurd hn (by simpa [lp] using this)
   | succ t =>
    exact gP fuel _ _ t (by omega) hn
theorem Uw{L:List (Option Nat)}:∀{j x:Nat},L[j]? = some none->((L.set j (some x)).filterMap id).Perm (x::L.filterMap id):=by
 induction L with
 | nil=>intro j x h; simp at h
 | cons a L d =>
  intro j x h
  cases j with
  | zero =>
   simp at h
   subst h
   simp
  | succ j =>
   have c:L[j]? = some none:=by simpa using h
   have:=d (x:=x) c
   cases a with
   | none=>simpa using this
   | some b=>simpa using (Jq b this).trans (Dq x b _)
theorem vW{L:List (Option Nat)}:(L.filterMap id).length<L.length->∃j:Nat,L[j]? = some none:=by
 induction L with
 | nil=>intro h; simp at h
 | cons a L c =>
  intro h
  cases a with
  | none=>exact ⟨0,rfl⟩
  | some b =>
   have : (L.filterMap id).length<L.length:=by simpa using h
   obtain ⟨j,d⟩:=c this
   exact ⟨j+1,by simpa using d⟩
theorem vK(h:Int):Cs h<2 ^ 64:=by
 unfold Cs
 have a:=Int.emod_nonneg h (show (2 ^ 64:Int)≠0 by decide)
 have b:=Int.emod_lt_of_pos h (show (0:Int)<2 ^ 64 by decide)
 omega
def AU(mask:Nat)(a:Option (Array (Option Nat)×Nat))(h:Int):Option (Array (Option Nat)×Nat):=do
 let (owner,k) <- a
 let j <- Kg mask owner (Gx mask) (Cs h % (mask+1)) (Cs h)
 pure (owner.setIfInBounds j (some k),k+1)
theorem lI{mask:Nat}(g:Ic (mask+1)):∀(b:List Int) (owner:Array (Option Nat)) (n:Nat),owner.size=mask+1->(owner.toList.filterMap id).Perm (Ci n)->n+b.length<=mask->∃a:Array (Option Nat),b.foldl (AU mask) (some (owner,n))=some (a,n+b.length)/\a.size=mask+1/\(a.toList.filterMap id).Perm (Ci (n+b.length))
 | [],owner,n,h1,h2,_=>⟨owner,rfl,h1,h2⟩
 | h::b,owner,n,h1,h2,h3=>by
  rw[Bp] at h3
  have len:(owner.toList.filterMap id).length=n:=by rw[h2.length_eq,Hw]
  obtain ⟨e,k⟩:=vW (L:=owner.toList) (by rw[len,Bg]; omega)
  have f:e<mask+1:=by
   have:=(Aw.mp k).1
   rw[Bg] at this
   omega
  obtain ⟨t,z,y⟩:=oG g (i:=Cs h % (mask+1)) (p:=Cs h) (e:=e) (Tu _ g.1) (vK h) f
  have u:(owner.getD (lp (mask+1) t (Cs h % (mask+1)) (Cs h)).1 (some 0)).isNone=true:=by
   rw[y,Oj,<- Hi,k]
   rfl
  obtain ⟨j,x,c⟩:=gP (mask:=mask) (owner:=owner) (Gx mask) _ _ t (by unfold Gx; omega) u
  have d:owner.toList[j]? = some none:=by
   rw[Oj,<- Hi] at c
   cases q:owner.toList[j]? with
   | none=>rw[q] at c; simp at c
   | some v =>
    rw[q] at c
    cases v with
    | none=>rfl
    | some v=>simp at c
  have w:AU mask (some (owner,n)) h=some (owner.setIfInBounds j (some n),n+1):=by
   show (do
    let j <- Kg mask owner (Gx mask) (Cs h % (mask+1)) (Cs h)
    pure (owner.setIfInBounds j (some n),n+1))=_
   rw[x]
   rfl
  rw[List.foldl_cons,w]
  have r:((owner.setIfInBounds j (some n)).toList.filterMap id).Perm (Ci (n+1)):=by
   rw[Array.toList_setIfInBounds]
   refine (Uw d).trans ?_
   rw[List.range_succ]
   exact (Jq n h2).trans (List.perm_append_comm (l₁:=[n]) (l₂:=Ci n))
  obtain ⟨l,m,o,s⟩:=lI g b (owner.setIfInBounds j (some n)) (n+1) (by rw[Array.size_setIfInBounds]; exact h1) r (by omega)
  refine ⟨l,?_,o,?_⟩
  ·rw[m,Bp]
   congr 2
   omega
  ·rw[Bp,show n+(b.length+1)=n+1+b.length by omega]
   exact s
theorem mM{mask:Nat}(g:Ic (mask+1))(a:Array Int)(d:a.size<=mask):∃owner:Array (Option Nat),Ox mask a=some owner/\owner.size=mask+1/\(owner.toList.filterMap id).Perm (Ci a.size):=by
 have f:((Array.replicate (mask+1) (none:Option Nat)).toList.filterMap id).Perm (Ci 0):=by
  rw[Array.toList_replicate]
  simp
 obtain ⟨o,b,e,c⟩:=lI g a.toList (Array.replicate (mask+1) none) 0 (by simp) f (by simpa using d)
 rw[Bg,Nat.zero_add] at b c
 refine ⟨o,?_,e,c⟩
 unfold Ox
 rw[<- Array.foldl_toList]
 show (a.toList.foldl (AU mask) (some (Array.replicate (mask+1) none,0))).map (·.1)=some o
 rw[b]
 rfl
theorem rJ(owner:Array (Option Nat)):((Ci owner.size).filterMap λj=>(owner.getD j none).map λx=>(j,x)).map (·.2)=owner.toList.filterMap id:=by
 obtain ⟨L⟩:=owner
 simp only[Av]
 have h:∀(L:List (Option Nat)) (c:List (Option Nat)),((List.range' c.length L.length).filterMap λj=>(((c++L)[j]?).getD none).map λx=>(j,x)).map (·.2)=L.filterMap id:=by
  intro L
  induction L with
  | nil=>intro c; rfl
  | cons a L f =>
   intro c
   rw[Bp,List.range'_succ,Kx]
   have e:((c++a::L)[c.length]?).getD none=a:=by simp
   have d:=f (c++[a])
   rw[Bn,Mr,Az,List.singleton_append] at d
   cases a with
   | none =>
    simp only[e,Option.map_none,List.filterMap_cons_none,id]
    exact d
   | some b =>
    simp only[e,Option.map_some,Ap,List.filterMap_cons_some,id]
    rw[d]
    simp
 have:=h L []
 rw[List.length_nil,<- List.range_eq_range',Gs] at this
 rw[<- this]
 congr 1
 congr 1
 funext j
 rw[Oj]
 simp
theorem R8{mask finger moves:Nat}{led plain:Bool}(g:Ic (mask+1))(a:Array Int)(d:a.size<=mask):∃(t:Cc) (order:Array Nat),Jf mask finger moves led plain a=some (t,order)/\order.toList.Perm (Ci a.size)/\t.fits a.size=true/\t.led=led:=by
 obtain ⟨o,c,f,b⟩:=mM g a d
 have e:Jf mask finger moves led plain a=some ({ mask:=mask,place:=(((Ci (mask+1)).filterMap λj=>(o.getD j none).map λx=>(j,x)).map (·.1)).toArray,dummies:=#[],finger:=finger,led:=led,moves:=moves,plain:=plain },
   (((Ci (mask+1)).filterMap λj=>(o.getD j none).map λx=>(j,x)).map (·.2)).toArray):=by
  unfold Jf
  rw[c]
  rfl
 have lo:=rJ o
 rw[f] at lo
 have len:((Ci (mask+1)).filterMap λj=>(o.getD j none).map λx=>(j,x)).length=a.size:=by
  have:=congrArg Ei lo
  rw[Af,b.length_eq,Hw] at this
  exact this
 refine ⟨_,_,e,by rw[List.toList_toArray,lo]; exact b,?_,rfl⟩
 simp only[SetTable.fits,Pi,Av,Af,len,Cz,beq_self_eq_true,true_and,decide_eq_true_eq]
 show a.size+0<=mask
 omega
theorem sJ{a:Type}(es:Array a){order:Array Nat}(p:order.toList.Perm (Ci es.size)):(order.filterMap (es[·]?)).toList.Perm es.toList/\(order.filterMap (es[·]?)).size=es.size:=by
 have e:(order.filterMap (es[·]?)).toList.Perm es.toList:=by
  rw[Array.toList_filterMap]
  have:=p.filterMap (es[·]?)
  rw[filterMap_getElem?_range] at this
  exact this
 exact ⟨e,by rw[<- Bg,e.length_eq,Bg]⟩
theorem Sv{n:Nat}(h:n<256):∃m,Dl n=m+1/\Ic (m+1)/\n<=m:=by
 have a:∀k:Fin 256,(Dl k.1 == 8 && decide (k.1<8)) || (Dl k.1 == 16 && decide (k.1<16)) || (Dl k.1 == 32 && decide (k.1<32)) || (Dl k.1 == 64 && decide (k.1<64)) || (Dl k.1 == 128 && decide (k.1<128)) || (Dl k.1 == 256 && decide (k.1<256))=true:=by decide +kernel
 have q:=a ⟨n,h⟩
 simp only[Bool.or_eq_true,Cz,beq_iff_eq,decide_eq_true_eq] at q
 rcases q with ((((q | q) | q) | q) | q) | q
 ·exact ⟨7,q.1,X7,by omega⟩
 ·exact ⟨15,q.1,CM,by omega⟩
 ·exact ⟨31,q.1,CI,by omega⟩
 ·exact ⟨63,q.1,BQ,by omega⟩
 ·exact ⟨127,q.1,V6,by omega⟩
 ·exact ⟨255,q.1,N6,by omega⟩
abbrev jF(p:Array Nat):Prop:=p.toList.Pairwise (· < ·)
theorem Th{p:Array Nat}(r:jF p){i j:Nat}(h:i<j)(a:j<p.size):p[i]'(by omega)<p[j]:=by
 have:=List.pairwise_iff_getElem.mp r i j (by rw[Bg]; omega) (by rw[Bg]; exact a) h
 simpa using this
structure Below(p:Array Nat)(j b:Nat):Prop where
 le:b<=p.size
 lo:∀i (h:i<p.size),i<b->p[i]<j
 hi:∀i (h:i<p.size),b<=i->j<=p[i]
theorem cI{p:Array Nat}{j:Nat}(r:jF p):∀(fuel lo a:Nat),a<=p.size->lo<=a->a - lo<=fuel->(∀i (h:i<p.size),i<lo->p[i]<j)->(∀i (h:i<p.size),a<=i->j<=p[i])->Below p j (Td p j fuel lo a)
 | 0,lo,a,h1,h2,h3,h4,h5=>by
  unfold Td
  have e:lo=a:=by omega
  exact ⟨by omega,λi h b=>h4 i h b,λi h b=>h5 i h (by omega)⟩
 | fuel+1,lo,a,h1,h2,h3,h4,h5=>by
  unfold Td
  split
  ·rename_i b
   have f:(lo+a) / 2<p.size:=by omega
   have e:p.getD ((lo+a) / 2) j=p[(lo+a) / 2]:=by simp [Array.getD,f]
   dsimp only
   rw[e]
   split
   ·rename_i c
    refine cI r fuel _ a h1 (by omega) (by omega) (λi h d=>?_) h5
    by_cases z:i=(lo+a) / 2
    ·subst z; exact c
    ·exact aZ (Th r (show i<(lo+a) / 2 by omega) f) c
   ·rename_i c
    refine cI r fuel lo _ (by omega) (by omega) (by omega) h4 (λi h d=>?_)
    by_cases z:i=(lo+a) / 2
    ·subst z; omega
    ·exact Bw (by omega) (Kw (Th r (show (lo+a) / 2<i by omega) h))
  ·exact ⟨by omega,λi h b=>h4 i h b,λi h b=>h5 i h (by omega)⟩
theorem Wf{p:Array Nat}(r:jF p)(j:Nat):Below p j (Ce p j) :=
 cI r _ _ _ (Au _) (Cw _) (by omega) (λi h a=>absurd a (Lp _)) (λi h a=>absurd a (by omega))
theorem Below.eq{p:Array Nat}{j b a:Nat}(x:Below p j b)(y:Below p j a):b=a:=by
 rcases Nat.lt_trichotomy b a with z | z | z
 ·have h:b<p.size:=Ca z y.le
  exact absurd (y.lo b h z) (Nat.not_lt.mpr (x.hi b h (Au _)))
 ·exact z
 ·have h:a<p.size:=Ca z x.le
  exact absurd (x.lo a h z) (Nat.not_lt.mpr (y.hi a h (Au _)))
theorem lY{p:Array Nat}(r:jF p):Ce p 0=0 :=
 (Wf r 0).eq ⟨Cw _,λi h a=>absurd a (Lp _),λi h _=>Cw _⟩
theorem qX{p:Array Nat}(r:jF p){i:Nat}(h:i<p.size):Ce p (p[i]+1)=i+1 :=
 (Wf r _).eq ⟨h,λk a b=>by
  by_cases z:k=i
  ·subst z; exact Nf _
  ·exact bA (Th r (show k<i by omega) h),λk a b=>Th r (show i<k by omega) a⟩
structure TabOk(n:Nat)(t:Cc):Prop where
 good:Ic (t.mask+1)
 dum:t.dummies=#[]
 plain:t.plain=true
 rise:jF t.place
 top:∀j∈t.place.toList,j<=t.mask
 size:t.place.size=n
structure Tab(n:Nat)(t:Cc):Prop extends TabOk n t where
 room:n * 5<t.mask * 3
theorem iX{t:Cc}{n:Nat}(x:Tab n t):n+1<=t.mask:=by have:=x.room; omega
theorem TabOk.fits{t:Cc}{n:Nat}(x:TabOk n t)(h:n<=t.mask):t.fits n=true:=by
 simp only[SetTable.fits,Pi,x.dum,x.size,Cz,beq_self_eq_true,true_and,decide_eq_true_eq]
 show n+0<=t.mask
 omega
theorem Tab.fits{t:Cc}{n:Nat}(x:Tab n t):t.fits n=true:=x.toTabOk.fits (by have:=iX x; omega)
theorem Vg{t:Cc}{n j:Nat}(x:TabOk n t):t.slot j=.empty↔j∉t.place.toList:=by
 have l:SetTable.has t.dummies j=false:=by rw[x.dum]; rfl
 unfold SetTable.slot
 dsimp only
 rw[l]
 constructor
 ·intro h g
  obtain ⟨i,a,e⟩:=List.mem_iff_getElem.mp g
  rw[Bg] at a
  have c:t.place[i]=j:=by simpa using e
  have b:Ce t.place j=i:=(Wf x.rise j).eq ⟨Kw a,λk f d=>by rw[<- c]; exact Th x.rise d a,λk f d=>by
   by_cases z:i=k
   ·subst z; exact Nat.le_of_eq c.symm
   ·rw[<- c]; exact Kw (Th x.rise (show i<k by omega) f)⟩
  rw[b,Hs a,c,if_pos (by simp)] at h
  cases h
 ·intro h
  rw[if_neg (λz=>h ?_)]
  ·rfl
  ·have m:t.place[Ce t.place j]? = some j:=by simpa using z
   have:=Array.mem_of_getElem? m
   exact Array.mem_def.mp this
theorem cA{t:Cc}{n j:Nat}(x:TabOk n t):t.slot j≠.dummy:=by
 have a:SetTable.has t.dummies j=false:=by rw[x.dum]; rfl
 unfold SetTable.slot
 dsimp only
 rw[a]
 split
 ·intro h; cases h
 ·intro h; cases h
theorem fP{mask i:Nat}(h:i<=mask):Hk mask i<=mask:=by unfold Hk; split <;> omega
theorem Tj(mask i:Nat):Hk mask i - i<=9:=by unfold Hk; split <;> omega
theorem Q7(mask i p:Nat):SetTable.leap mask i p=((i * 5+1+p / 32) % (mask+1),p / 32):=rfl
theorem cN{t:Cc}{n:Nat}{h:Int}(x:TabOk n t):∀(fuel u:Nat) (p:SetTable.Probe),p.more<=9->p.j+p.more<=t.mask->p.dummy=none->p.more+2+10 * u<=fuel->t.slot (lp (t.mask+1) (u+1) p.i p.perturb).1=.empty->∃j,Nc t (λ_=>h+1) h fuel p=some (.empty j none)/\t.slot j=.empty/\j<=t.mask
 | 0,u,p,_,_,_,h3,_=>absurd h3 (by omega)
 | fuel+1,u,p,h1,h2,hd,h3,h4=>by
  unfold Nc
  split
  ·rename_i b
   exact ⟨p.j,by rw[hd],b,by omega⟩
  ·rename_i b
   exact absurd b (cA x)
  ·rw[if_neg (by simp; omega)]
   unfold SetTable.advance
   split
   ·rename_i d
    exact cN x fuel u _ (by dsimp only; omega) (by dsimp only; omega) hd (by dsimp only; omega) h4
   ·rename_i d
    rw[Q7]
    dsimp only
    have c:(p.i * 5+1+p.perturb / 32) % (t.mask+1)<=t.mask:=iC.mp (Tu _ (aY _))
    cases u with
    | zero =>
     cases fuel with
     | zero=>omega
     | succ fuel =>
      unfold Nc
      dsimp only
      have a:t.slot ((p.i * 5+1+p.perturb / 32) % (t.mask+1))=.empty:=h4
      rw[a]
      exact ⟨_,by rw[hd],a,c⟩
    | succ u =>
     refine cN x fuel u _ (Tj _ _) ?_ hd ?_ h4
     ·dsimp only
      have:=fP c
      have:=Yb t.mask ((p.i * 5+1+p.perturb / 32) % (t.mask+1))
      omega
     ·dsimp only
      have:=Tj t.mask ((p.i * 5+1+p.perturb / 32) % (t.mask+1))
      omega
theorem L5:∀{l1 l2:List Nat},l1.Nodup->(∀e∈l1,e∈l2)->l1.length<=l2.length
 | [],_,_,_=>Cw _
 | a::l1,l2,nd,h=>by
  have b:=Da.mp nd
  have d:=h a (Ab ..)
  have:=L5 (l2:=l2.erase a) b.2 λe c=>(List.mem_erase_of_ne (show e≠a from λz=>b.1 (by rw[<- z]; exact c))).mpr (h e (Ah _ c))
  rw[oZ d] at this
  have p:0<l2.length:=sN d
  rw[Bp]
  omega
theorem R6{m:Nat}{l:List Nat}(nd:l.Pairwise (· < ·))(h:l.length<m):∃e,e<m/\e∉l:=by
 refine Oi λz=>?_
 have all:∀e,e∈Ci m->e∈l:=λe a=>Oi λq=>z ⟨e,Kj.mp a,q⟩
 have:=L5 List.nodup_range all
 rw[Hw] at this
 omega
theorem mU{t:Cc}{n:Nat}(x:Tab n t)(h:Int):∃j,t.freeSlot h=some (j,false)/\j∉t.place.toList/\j<=t.mask:=by
 have v:=iX x
 obtain ⟨e,l,d⟩:=R6 (m:=t.mask+1) x.rise (by rw[Bg,x.size]; omega)
 obtain ⟨u,w,c⟩:=oG x.good (i:=Cs h % (t.mask+1)) (p:=Cs h) (e:=e) (Tu _ (aY _)) (vK h) l
 have g:Cs h % (t.mask+1)<=t.mask:=iC.mp (Tu _ (aY _))
 have b:∃j,t.probe (λ_=>h+1) h (t.probeStart h)=some (.empty j none)/\t.slot j=.empty/\j<=t.mask:=by
  unfold SetTable.probe
  cases u with
  | zero =>
   have s:t.slot (Cs h % (t.mask+1))=.empty:=(Vg x.toTabOk).mpr (by rw[show Cs h % (t.mask+1)=e from c]; exact d)
   obtain ⟨f,k⟩ : ∃f,10 * Gx t.mask=f+1:=⟨10 * Gx t.mask - 1,by unfold Gx; omega⟩
   rw[k]
   unfold Nc
   have a:t.slot (t.probeStart h).j=.empty:=s
   rw[a]
   exact ⟨_,rfl,a,g⟩
  | succ u =>
   refine cN x.toTabOk _ u (t.probeStart h) (Tj _ _) ?_ rfl ?_ ?_
   ·have:=fP g
    have:=Yb t.mask (Cs h % (t.mask+1))
    show Cs h % (t.mask+1)+(Hk t.mask (Cs h % (t.mask+1)) - Cs h % (t.mask+1))<=t.mask
    omega
   ·have:=Tj t.mask (Cs h % (t.mask+1))
    show Hk t.mask (Cs h % (t.mask+1)) - Cs h % (t.mask+1)+2+10 * u<=10 * Gx t.mask
    unfold Gx
    omega
   ·exact (Vg x.toTabOk).mpr (by rw[show (lp (t.mask+1) (u+1) (t.probeStart h).i (t.probeStart h).perturb).1=e from c]; exact d)
 obtain ⟨j,o,q,r⟩:=b
 refine ⟨j,?_,(Vg x.toTabOk).mp q,r⟩
 unfold SetTable.freeSlot
 rw[o]
 rfl
theorem mJ{p:Array Nat}(r:jF p){j:Nat}(h:j∉p.toList):jF (Gh p (Ce p j) j):=by
  have b:=Wf r j
  show (Gh p (Ce p j) j).toList.Pairwise (· < ·)
  rw[SetTable.toList_insertAt]
  have n:(p.toList.take (Ce p j)).Pairwise (· < ·):=r.sublist (Dr _ _)
  have m:(p.toList.drop (Ce p j)).Pairwise (· < ·):=r.sublist (List.drop_sublist _ _)
  have lo:∀e∈p.toList.take (Ce p j),e<j:=λe k=>by
    obtain ⟨i,d,l⟩:=List.mem_take_iff_getElem.mp k
    rw[Bg] at d
    have:=b.lo i (by omega) (by omega)
    rw[<- l]
    simpa using this
  have d:∀e∈p.toList.drop (Ce p j),j<e:=λe k=>by
    have o:e∈p.toList:=List.mem_of_mem_drop k
    obtain ⟨i,d,l⟩:=List.mem_drop_iff_getElem.mp k
    rw[Bg] at d
    have:=b.hi (i+Ce p j) (by omega) (by omega)
    have q:j<=e:=by
      rw[<- l]
      simpa [Nat.add_comm] using this
    exact Nat.lt_of_le_of_ne q λz=>h (by rw[z]; exact o)
  simp only[List.pairwise_append,List.pairwise_cons,Ai,Ar]
  first
    | exact ⟨n,⟨d,m⟩,λa f c g=>by
        rcases g with z | z
        · rw[z]; exact lo a f
        · exact aZ (lo a f) (d c z)⟩
    | (refine ⟨⟨n,⟨by simp,Es⟩,λa f c g=>?_⟩,m,λa f c g=>?_⟩
       · have z:c=j:=by simpa using g
         rw[z]; exact lo a f
       · rcases f with z | z | z
         · exact aZ (lo a z) (d c g)
         · rw[z]; exact d c g
         · cases z)
theorem BK{t:Cc}{es:Array (Int×Value)}(x:Tab es.size t)(h:Int)(v:Value):∃(a:Array (Int×Value)) (c:Cc),layNew t es h v=(a,c,false,false)/\a.toList.Perm (es.toList++[(h,v)])/\a.size=es.size+1/\TabOk a.size c/\c.mask=t.mask/\c.led=t.led:=by
 obtain ⟨j,i,k,m⟩:=mU x h
 have n:=iX x
 have perm:=kW es (Ce t.place j) (h,v)
 rw[Zn] at perm
 have size:(Gh es (Ce t.place j) (h,v)).size=es.size+1:=by
  rw[<- Bg,perm.length_eq,Bn,Bg]
  rfl
 have d:=kW t.place (Ce t.place j) j
 rw[Zn] at d
 have b:(Gh t.place (Ce t.place j) j).size=es.size+1:=by
  rw[<- Bg,d.length_eq,Bn,Bg,x.size]
  rfl
 have l:SetTable.has t.dummies j=false:=by rw[x.dum]; rfl
 have ok:TabOk (es.size+1) { t with place:=Gh t.place (Ce t.place j) j } :=
  ⟨x.good,x.dum,x.plain,mJ x.rise k,λe g=>by
   rcases Ar.mp (d.mem_iff.mp g) with z | z
   ·exact x.top e z
   ·rw[Aj.mp z]; exact m,b⟩
 refine ⟨_,{ t with place:=Gh t.place (Ce t.place j) j },?_,perm,size,by rw[size]; exact ok,rfl,rfl⟩
 have f:({ t with place:=Gh t.place (Ce t.place j) j }:Cc).fits (Gh es (Ce t.place j) (h,v)).size=true:=by
  rw[size]
  exact ok.fits (by omega)
 unfold layNew
 rw[i]
 simp only[SetTable.put,l,Jj,if_false,SetTable.orStandIn,f,if_true,Bool.not_true]
theorem wZ{mask finger moves:Nat}{led plain:Bool}{r:Array Int}{t:Cc}{order:Array Nat}(h:Jf mask finger moves led plain r=some (t,order)):jF t.place/\(∀j∈t.place.toList,j<=mask):=by
 unfold Jf at h
 cases i:Ox mask r with
 | none=>rw[i] at h; cases h
 | some b =>
  rw[i] at h
  cases h
  have sub:∀(l:List Nat),l.Pairwise (· < ·)->(((l.filterMap λj=>(b.getD j none).map λx=>(j,x)).map (·.1)).Pairwise (· < ·))/\∀j∈((l.filterMap λj=>(b.getD j none).map λx=>(j,x)).map (·.1)),j∈l:=by
   intro l i
   have m:∀j∈((l.filterMap λj=>(b.getD j none).map λx=>(j,x)).map (·.1)),j∈l:=λj g=>by
    obtain ⟨q,o,rfl⟩:=Fb.mp g
    obtain ⟨k,p,c⟩:=Ee.mp o
    cases n:b.getD k none with
    | none=>rw[n] at c; cases c
    | some v=>rw[n] at c; cases c; exact p
   refine ⟨?_,m⟩
   clear m
   induction l with
   | nil=>exact Es
   | cons a l u =>
    have f:=Ax.mp i
    have e:=u f.2
    rw[Kx]
    cases n:b.getD a none with
    | none=>simpa [n] using e
    | some v =>
     simp only[Option.map_some,Ap,List.pairwise_cons]
     refine ⟨λj g=>?_,e⟩
     obtain ⟨q,o,rfl⟩:=Fb.mp g
     obtain ⟨k,p,c⟩:=Ee.mp o
     cases d:b.getD k none with
     | none=>rw[d] at c; cases c
     | some y=>rw[d] at c; cases c; exact f.1 k p
  obtain ⟨w,s⟩:=sub (Ci (mask+1)) List.pairwise_lt_range
  exact ⟨w,λj g=>iC.mp (Kj.mp (s j g))⟩
theorem nY{mask finger moves:Nat}{led:Bool}(g:Ic (mask+1))(a:Array Int)(e:a.size * 5<mask * 3):∃(t:Cc) (order:Array Nat),Jf mask finger moves led true a=some (t,order)/\order.toList.Perm (Ci a.size)/\Tab a.size t/\t.led=led:=by
 obtain ⟨t,order,b,f,k,m⟩:=R8 (finger:=finger) (moves:=moves) (led:=led) (plain:=true) g a (by omega)
 obtain ⟨h,c,i,d⟩:=lJ b
 obtain ⟨l,j⟩:=wZ b
 have sz:t.place.size=a.size:=by
  have:=k
  simp only[SetTable.fits,Cz,beq_iff_eq] at this
  exact this.1
 exact ⟨t,order,b,f,⟨⟨by rw[c]; exact g,d,i,l,by rw[c]; exact j,sz⟩,by rw[c]; exact e⟩,h⟩
theorem nW{t:Cc}{es:Array (Int×Value)}{wanted:Nat}(h:t.plain=true)(hw:wanted<256)(j:es.size * 2<=wanted):∃(t':Cc) (order:Array Nat),t.relaid (es.map (·.1)) wanted=some (t',order)/\order.toList.Perm (Ci es.size)/\Tab es.size t'/\t'.led=t.led:=by
 obtain ⟨m,f,g,i⟩:=Sv hw
 have sz:(es.map (·.1)).size=es.size:=Array.size_map ..
 have l:7<=m:=by
  have : 8<=Dl wanted:=by
   have a:∀k:Fin 256,decide (8<=Dl k.1)=true:=by decide +kernel
   exact of_decide_eq_true (a ⟨wanted,hw⟩)
  omega
 obtain ⟨t',order,d,b,c,e⟩:=nY (mask:=m) (finger:=t.finger) (moves:=t.movedTo m) (led:=t.led) g (es.map (·.1)) (by rw[sz]; omega)
 rw[sz] at b c
 refine ⟨t',order,?_,b,c,e⟩
 unfold SetTable.relaid
 rw[f,Nat.add_sub_cancel,h]
 exact d
theorem oJ{t:Cc}{es:Array (Int×Value)}(k:t.plain=true)(l:es.size<64):∃(a:Array (Int×Value)) (t':Cc),relayAll t es (SetTable.grown es.size)=(a,t',false)/\a.toList.Perm es.toList/\a.size=es.size/\Tab a.size t'/\t'.led=t.led:=by
 have j:SetTable.grown es.size=es.size * 4:=by unfold SetTable.grown; rw[if_neg (by omega)]
 obtain ⟨t',order,g,d,e,h⟩:=nW (t:=t) (es:=es) (wanted:=es.size * 4) k (by omega) (by omega)
 obtain ⟨i,b⟩:=sJ es d
 refine ⟨order.filterMap (es[·]?),t',?_,i,b,by rw[b]; exact e,h⟩
 unfold relayAll
 rw[j,g]
 dsimp only
 have c:coversAll order es.size=true:=by
  unfold coversAll
  exact List.isPerm_iff.mpr d
 have f:t'.fits (order.filterMap (es[·]?)).size=true:=by rw[b]; exact e.fits
 rw[c,f]
 rfl
abbrev bt(w:World):Bool:=w.params.followText "set-order"
def Mj:Int×Value->Int
 | (_,.int k _)=>k
 | _=>0
def Vv(e:Int×Value):Prop:=∃k a,e=(hashInt k,Vj k a)
abbrev Fz(es:Array (Int×Value)):List Int:=es.toList.map Mj
abbrev Ki(es:Array (Int×Value))(ep:Nat)(t:Cc):Obj:={ cls:=.type "set",dict:=none,data:=.set es ep t }
structure SetS(w:World)(h:Heap)(a:Addr)(es:Array (Int×Value))(ep:Nat)(t:Cc):Prop where
 obj:h.get? a=some (Ki es ep t)
 ent:∀e∈es.toList,Vv e
 nd:(Fz es).Nodup
 tab:Tab es.size t
 led:bt w=false->t.led=true
 few:es.size<64
theorem SetS.keep{w:World}{h h':Heap}{a:Addr}{es:Array (Int×Value)}{ep:Nat}{t:Cc}(S:SetS w h a es ep t)(k:∀o,h.get? a=some o->h'.get? a=some o):SetS w h' a es ep t :=
 ⟨k _ S.obj,S.ent,S.nd,S.tab,S.led,S.few⟩
def ins(k:Int)(l:List Int):List Int:=if k∈l then l else k::l
theorem Z1{prog:Bk}{w:World}{h:Heap}{a:Addr}{es:Array (Int×Value)}{ep:Nat}{t:Cc}(S:SetS w h a es ep t):ElemsOf (Vp prog w) es.toList:=λe b=>by
 obtain ⟨k,c,rfl⟩:=S.ent e b
 exact ⟨⟨k,intKind_is _ _ _ _,rfl⟩,rfl⟩
theorem D0{prog:Bk}{w:World}{e:Int×Value}(h:Vv e)(k:Int):(Vp prog w).is k e.2=true↔Mj e=k:=by
 obtain ⟨a,b,rfl⟩:=h
 show Value.isInt k (.int a b)=true↔a=k
 simp [Value.isInt]
 try exact eq_comm
theorem nH{n:Nat}(h:n<64):n<=Ba:=by rw[Fn]; omega
theorem uK{es:Array (Int×Value)}{ep:Nat}{t:Cc}(a:Array (Int×Value))(t':Cc):Obj.putSet a t' (Ki es ep t)=Ki a (ep+1) t':=putSet_of a t' rfl
theorem aJ{h:Heap}{a:Addr}{es:Array (Int×Value)}{ep:Nat}{t:Cc}(c:h.get? a=some (Ki es ep t))(b:Array (Int×Value))(t':Cc):(h.update a (Obj.putSet b t')).get? a=some (Ki b (ep+1) t'):=by
 have:=Jv (Obj.putSet b t') c (by rw[uK]; rfl)
 rw[uK] at this
 exact this
section
variable{prog:Bk}{w:World}{A:Cf}{E:Value->Ak->Prop}{s:Ak}
theorem Gj{a:Addr}{es:Array (Int×Value)}{ep:Nat}{t:Cc}{Q:(Array (Int×Value)×Nat×Cc)->Ak->Prop}(S:SetS w s.heap a es ep t)(h:Q (es,ep,t) s):wpAny (model prog w) A (setState a) Q E s :=
 wpAny_setState_of S.obj rfl S.tab.fits h
theorem Ym{a:Addr}{es b:Array (Int×Value)}{ep:Nat}{t t':Cc}{Q:Unit->Ak->Prop}(S:SetS w s.heap a es ep t)(d:∀e∈b.toList,Vv e)(nd:(Fz b).Nodup)(tab:Tab b.size t')(led:bt w=false->t'.led=true)(c:b.size<64)(h:∀h',Dd a s.heap h'->SetS w h' a b (ep+1) t'->Q () { s with heap:=h' }):wpAny (model prog w) A (storeSet a b t') Q E s :=
 Tc S.obj rfl (h _ (Dg ..) ⟨aJ S.obj b t',d,nd,tab,led,c⟩) (nH c)
theorem gZ{es:Array (Int×Value)}{k:Int}(c:∀e∈es.toList,Vv e):es.toList.findIdx? (λe=>(Vp prog w).is k e.2)=none↔k∉Fz es:=by
 rw[lD]
 constructor
 ·intro h b
  obtain ⟨e,a,rfl⟩:=Fb.mp b
  have:=h e a
  rw[(D0 (c e a) _).mpr rfl] at this
  cases this
 ·intro h e b
  cases q:(Vp prog w).is k e.2 with
  | false=>rfl
  | true=>exact absurd (Fb.mpr ⟨e,b,(D0 (c e b) k).mp q⟩) h
theorem zO{a:Addr}{es:Array (Int×Value)}{ep:Nat}{t:Cc}{k:Int}{y:Tok}{Q:Bool->Ak->Prop}(S:SetS w s.heap a es ep t)(V:es.size<63)(h:∀b B H t' h',Dd a s.heap h'->SetS w h' a B H t'->(Fz B).Perm (ins k (Fz es))->Q b { s with heap:=h' }):wpAny (model prog w) A (setAddHashed a (.int k y) (hashInt k)) Q E s:=by
 unfold setAddHashed setAddHashedIn
 refine Dx (Aa (Gj S ?_))
 dsimp only
 rw[byScan_of (knd:=Vp prog w) (x:=.int k y) rfl (aZ S.few (by decide)) (Z1 S),if_pos rfl]
 unfold setAddByScan
 refine Aa (Aa (Rr (Aa ?_)))
 refine wpAny_setScan_of (knd:=Vp prog w) (k:=k) (intKind_is _ _ _ _) S.obj rfl S.tab.fits (Z1 S) ?_
 cases F:es.toList.findIdx? (λe=>(Vp prog w).is k e.2) with
 | some j =>
  dsimp only
  have o:k∈Fz es:=Oi λz=>by
   rw[(gZ (prog:=prog) (w:=w) S.ent).mpr z] at F
   cases F
  refine Am (Am ?_)
  have:=h false es ep t s.heap (Np a s.heap) S (by unfold ins; rw[if_pos o])
  exact this
 | none =>
  dsimp only
  have o:k∉Fz es:=(gZ (prog:=prog) (w:=w) S.ent).mp F
  obtain ⟨c,g,N,K,R,f,U,L⟩:=BK S.tab (hashInt k) (.int k y)
  rw[N]
  dsimp only
  have l:∀e∈c.toList,Vv e:=λe D=>by
   rcases Ar.mp (K.mem_iff.mp D) with z | z
   ·exact S.ent e z
   ·rw[Aj.mp z]; exact ⟨k,y,rfl⟩
  have n:(Fz c).Perm (k::Fz es):=by
   have:=K.map Mj
   rw[Ay] at this
   exact this.trans List.perm_append_comm
  have G:(Fz c).Nodup:=n.nodup_iff.mpr (Da.mpr ⟨o,S.nd⟩)
  have d:c.size<64:=by omega
  have r:bt w=false->g.led=true:=λz=>by rw[L]; exact S.led z
  refine Aa (m:=(pure ():Sem Unit)) (Am ?_)
  rw[f.plain,if_pos rfl]
  refine Aa (m:=hashByValue 8 (.int k y)) (Am ?_)
  simp only[if_true]
  by_cases C:g.tooFull=true
  ·obtain ⟨i,M,O,J,T,q,P⟩:=oJ (es:=c) f.plain d
   have p:∀e∈i.toList,Vv e:=λe D=>l e (J.mem_iff.mp D)
   have u:(Fz i).Perm (k::Fz es):=(J.map Mj).trans n
   refine Aa (Tc S.obj rfl ?_ (nH d))
   rw[C,if_pos (by decide),O]
   dsimp only
   refine Aa (m:=(pure ():Sem Unit)) (Am ?_)
   have I:=aJ S.obj c g
   refine Aa (Tc I rfl (Am ?_) (nH (by omega)))
   dsimp only
   refine Am (h true i (ep+1+1) M _ ((Dg s.heap a _).trans (Dg _ a _)) ⟨aJ I i M,p,u.nodup_iff.mpr (Da.mpr ⟨o,S.nd⟩),q,λz=>by rw[P,L]; exact S.led z,by omega⟩ ?_)
   unfold ins
   rw[if_neg o]
   exact u
  ·have v:c.size * 5<g.mask * 3:=by
    have : ¬ (g.fill * 5 ≥ g.mask * 3):=λz=>C (by unfold SetTable.tooFull; exact decide_eq_true z)
    have e:g.fill=c.size:=by
     unfold Pi
     rw[f.dum,f.size]
     rfl
    omega
   refine Aa (Tc S.obj rfl ?_ (nH d))
   rw[Bool.not_eq_true] at C
   rw[C]
   simp only[Vn,Jj,if_false]
   refine Am ?_
   dsimp only
   refine Am (h true c (ep+1) g _ (Dg s.heap a _) ⟨aJ S.obj c g,l,G,⟨f,v⟩,r,d⟩ ?_)
   unfold ins
   rw[if_neg o]
   exact n
end
theorem Ht{b:Type}:∀{l:List b} {i:Nat} (h:i<l.length),(l[i]::l.eraseIdx i).Perm l
 | [],_,h=>absurd h (Lp _)
 | a::l,0,h=>Nn _
 | a::l,i+1,h=>by
  have:=Ht (l:=l) (i:=i) (by simpa using h)
  exact (Dq a _ _).trans (Jq a this)
theorem uO{c:Type}(next:Nat->Nat):∀(fuel k:Nat) (left:List c) (a:Array c),left.length=fuel->(pickOrder.go next fuel k left a).toList.Perm (a.toList++left)
 | 0,k,left,a,h=>by
  unfold pickOrder.go
  have : left=[]:=List.eq_nil_of_length_eq_zero h
  subst this
  simp
 | fuel+1,k,left,a,h=>by
  unfold pickOrder.go
  have b:next k % left.length<left.length:=Tu _ (by omega)
  rw[Lg b]
  dsimp only
  refine (uO next fuel (k+1) _ _ (by rw[List.length_eraseIdx,if_pos b]; omega)).trans ?_
  rw[Zn,Az]
  exact Jg _ (Ht b)
theorem wO{a:Type}(next:Nat->Nat)(xs:Array a):(Ul next xs).toList.Perm xs.toList:=by
 unfold Ul
 simpa using uO next xs.size 0 xs.toList #[] (by simp)
section
variable{prog:Bk}{w:World}{A:Cf}{E:Value->Ak->Prop}{s:Ak}
theorem Pu{Q:Bool->Ak->Prop}(h:Q (bt w) s):wpAny (model prog w) A setsByText Q E s:=by
 unfold setsByText
 exact Aa (Uj (Am h))
theorem uC{a:Addr}{es:Array (Int×Value)}{ep:Nat}{t:Cc}{Q:Array (Int×Value)->Ak->Prop}(S:SetS w s.heap a es ep t)(h:Q (if bt w then Ul (w.params.setOrder a ep) es else es) s):wpAny (model prog w) A (setWalk a) Q E s:=by
 unfold setWalk
 refine Aa (Gj S ?_)
 dsimp only
 refine Aa (Pu ?_)
 cases d:bt w with
 | true =>
  rw[d] at h
  rw[if_pos rfl] at h ⊢
  exact Aa (Uj (Am h))
 | false =>
  have l:=S.led d
  have n:=S.tab.plain
  rw[d] at h
  obtain ⟨k,j,b,c,i,g,plain⟩:=t
  have e:i=true:=l
  have f:plain=true:=n
  subst e f
  exact Aa (m:=(pure ():Sem Unit)) (Am (Am h))
theorem hV{a:Addr}{es:Array (Int×Value)}{ep:Nat}:(if bt w then Ul (w.params.setOrder a ep) es else es).toList.Perm es.toList:=by
 cases bt w with
 | true=>exact wO _ _
 | false=>exact Nn _
theorem wH{a:Addr}{b:List Addr}{d:Option Addr}{es:Array (Int×Value)}{ep:Nat}{t:Cc}{Q:Array (Int×Value)->Ak->Prop}(S:SetS w s.heap a es ep t)(h:Q (if bt w then Ul (w.params.setOrder a ep) es else es) s) :
  wpAny (model prog w) A (setWalkUnseen a b d) Q E s:=by
 unfold setWalkUnseen
 refine Aa (Gj S ?_)
 dsimp only
 refine Aa (Pu ?_)
 have c:(bt w || (t.led && t.plain) || decide (es.size<=1))=true:=by
  cases e:bt w with
  | true=>rfl
  | false=>rw[S.led e,S.tab.plain]; rfl
 rw[if_pos c]
 exact uC S h
theorem xF{a:Addr}{es:Array (Int×Value)}{ep:Nat}{t:Cc}{wanted:Nat}{Q:Unit->Ak->Prop}(S:SetS w s.heap a es ep t)(hw:wanted<256)(o:es.size * 2<=wanted)(h:∀c t' h',Dd a s.heap h'->SetS w h' a c (ep+1) t'->(Fz c).Perm (Fz es)->wanted<=t'.mask->7<=t'.mask->Q () { s with heap:=h' }):wpAny (model prog w) A (setRelay a wanted) Q E s:=by
 obtain ⟨t',order,d,n,q,p⟩:=nW (es:=es) S.tab.plain hw o
 obtain ⟨f,i⟩:=sJ es n
 obtain ⟨m,r,g,x⟩:=Sv hw
 have mk:t'.mask=m:=by
  unfold SetTable.relaid at d
  rw[(lJ d).2.1,r]
  rfl
 have v:7<=t'.mask:=by
  have : 8<=Dl wanted:=by
   have b:∀k:Fin 256,decide (8<=Dl k.1)=true:=by decide +kernel
   exact of_decide_eq_true (b ⟨wanted,hw⟩)
  omega
 have sz:Dl wanted<=256:=by
  have b:∀k:Fin 256,decide (Dl k.1<=256)=true:=by decide +kernel
  exact of_decide_eq_true (b ⟨wanted,hw⟩)
 unfold setRelay
 refine Aa (Gj S ?_)
 dsimp only
 rw[if_neg (by rw[Fn]; omega),d]
 refine Aa ?_
 show wpAny (model prog w) A (do
  if (order.filterMap (es[·]?)).size != es.size then unsupported "internal:set-table-lost-an-element"
  pure (order.filterMap (es[·]?),t')) _ _ _
 rw[if_neg (by rw[i]; simp)]
 refine Am ?_
 dsimp only
 refine Ym S (λe j=>S.ent e (f.mem_iff.mp j)) ((f.map Mj).nodup_iff.mpr S.nd) (by rw[i]; exact q) (λz=>by rw[p]; exact S.led z) (by rw[i]; exact S.few) λh' u l=>?_
 exact h _ _ h' u l (f.map Mj) (by omega) v
theorem xR{es a:Array (Int×Value)}(p:(Fz a).Perm (Fz es)):a.size=es.size:=by
 have:=p.length_eq
 rw[Af,Af,Bg,Bg] at this
 exact this
theorem W4{a:Addr}{es:Array (Int×Value)}{ep more:Nat}{t:Cc}{Q:Unit->Ak->Prop}(S:SetS w s.heap a es ep t)(i:es.size+more<128)(h:∀b d t' h',Dd a s.heap h'->SetS w h' a b d t'->(Fz b).Perm (Fz es)->(es.size+more) * 5<t'.mask * 3->Q () { s with heap:=h' }):wpAny (model prog w) A (setRoomFor a more) Q E s:=by
 have f:t.fill=es.size:=by
  unfold Pi
  rw[S.tab.dum,S.tab.size]
  rfl
 unfold setRoomFor
 refine Aa (Gj S ?_)
 dsimp only
 unfold SetTable.roomFor
 rw[f,S.tab.size]
 by_cases c:(es.size+more) * 5 ≥ t.mask * 3
 ·rw[if_pos c]
  dsimp only
  refine xF S (by omega) (by omega) λb t' h' g e p j k=>h b _ t' h' g e p ?_
  omega
 ·rw[if_neg c]
  dsimp only
  exact Am (h es ep t s.heap (Np _ _) S (Nn _) (by omega))
end
def Among(U:List Int)(l:List Int):Prop:=∀x∈l,x∈U
theorem len_leI:∀{l1 l2:List Int},l1.Nodup->(∀e∈l1,e∈l2)->l1.length<=l2.length
 | [],_,_,_=>Cw _
 | a::l1,l2,nd,h=>by
  have b:=Da.mp nd
  have d:=h a (Ab ..)
  have:=len_leI (l2:=l2.erase a) b.2 λe c=>(List.mem_erase_of_ne (show e≠a from λz=>b.1 (by rw[<- z]; exact c))).mpr (h e (Ah _ c))
  rw[oZ d] at this
  have p:0<l2.length:=sN d
  rw[Bp]
  omega
theorem Among.size{U:List Int}{es:Array (Int×Value)}(h:Among U (Fz es))(nd:(Fz es).Nodup):es.size<=U.length:=by
 have:=len_leI nd h
 rw[Af,Bg] at this
 exact this
theorem sZ{x k:Int}{l:List Int}:x∈ins k l↔x=k\/x∈l:=by
 unfold ins
 split
 ·rename_i h
  constructor
  ·exact .inr
  ·rintro (z | z)
   ·rw[z]; exact h
   ·exact z
 ·rw[Ai]
section
variable{prog:Bk}{w:World}{A:Cf}{E:Value->Ak->Prop}
theorem dS{U:List Int}(K:U.length<=62){a o:Addr}(D:a≠o){y:Array (Int×Value)}{c:Nat}{u:Cc}{each:Sem Unit}
  (G:∀(s:Ak) (Q:Unit->Ak->Prop),SetS w s.heap o y c u->Q () s->wpAny (model prog w) A each Q E s) :
  ∀(l:List (Int×Value)) (s:Ak) (es:Array (Int×Value)) (ep:Nat) (t:Cc) (Q:Unit->Ak->Prop),(∀e∈l,Vv e)->Among U (l.map Mj)->Among U (Fz es)->SetS w s.heap a es ep t->SetS w s.heap o y c u ->
   (∀i C t' h',Dd a s.heap h'->SetS w h' a i C t'->(∀x,x∈Fz i↔x∈Fz es\/x∈l.map Mj)->Q () { s with heap:=h' }) ->
   wpAny (model prog w) A (forIn l PUnit.unit λ(x:Int×Value) _=>do
    let _ <- Gf [x.2] (setAddHashed a x.2 x.1)
    each
    if (<- setState o).2.1 != c then unsupported "set.changed-during-merge"
    pure (Ms PUnit.unit)) Q E s
 | [],s,es,ep,t,Q,_,_,_,S,_,h=>by
  rw[List.forIn_nil]
  exact Am (h es ep t s.heap (Np _ _) S (by simp))
 | e::l,s,es,ep,t,Q,he,hl,hk,S,So,h=>by
  obtain ⟨k,T,rfl⟩:=he e (Ab ..)
  rw[List.forIn_cons]
  have R:=hk.size S.nd
  refine Aa (Aa (Dx (zO S (by omega) λb f m H j g M N=>?_)))
  have d:SetS w j o y c u:=So.keep λV q=>(g.2 o (Lq D)).trans q
  refine Aa (G { s with heap:=j } _ d ?_)
  refine Aa (Gj (s:={ s with heap:=j }) d ?_)
  dsimp only
  rw[if_neg (by simp)]
  refine Am ?_
  have F:∀x,x∈Fz f↔x=k\/x∈Fz es:=λx=>by rw[N.mem_iff,sZ]
  have n:Among U (Fz f):=λx v=>by
   rcases (F x).mp v with z | z
   ·rw[z]; exact hl k (Ab ..)
   ·exact hk x z
  refine dS K D G l { s with heap:=j } f m H Q (λe J=>he e (Ah _ J)) (λx v=>hl x (Ah _ v)) n M d λp B O L r I P=>?_
  refine h p B O L (g.trans r) I λx=>?_
  rw[P,F,Ap,Ai]
  show (x=k\/x∈Fz es)\/x∈l.map Mj↔x∈Fz es\/x=k\/x∈l.map Mj
  constructor
  ·rintro ((z | z) | z)
   ·exact .inr (.inl z)
   ·exact .inl z
   ·exact .inr (.inr z)
  ·rintro (z | z | z)
   ·exact .inl (.inr z)
   ·exact .inl (.inl z)
   ·exact .inr z
end
section
variable{prog:Bk}{w:World}{A:Cf}{E:Value->Ak->Prop}{s:Ak}
theorem oW{U:List Int}(hU:U.length<=62){a o:Addr}(I:a≠o){es c:Array (Int×Value)}{ep g:Nat}{t k:Cc}{each:Sem Unit}{Q:Unit->Ak->Prop}(hE:∀(s:Ak) (Q:Unit->Ak->Prop),SetS w s.heap o c g k->Q () s->wpAny (model prog w) A each Q E s)(S:SetS w s.heap a es ep t)(K:SetS w s.heap o c g k)(R:Among U (Fz es))(W:Among U (Fz c))(h:∀v P t' h',Dd a s.heap h'->SetS w h' a v P t'->(∀x,x∈Fz v↔x∈Fz es\/x∈Fz c)->Q () { s with heap:=h' }):wpAny (model prog w) A (setMerge a o each) Q E s:=by
 have n1:=R.size S.nd
 have n2:=W.size K.nd
 unfold setMerge
 rw[if_neg (by simpa using I)]
 refine Aa (Gj K ?_)
 dsimp only
 by_cases em:c.isEmpty=true
 ·rw[if_pos em]
  have : c=#[]:=by simpa using em
  refine Am (h es ep t s.heap (Np _ _) S λx=>?_)
  rw[this]
  simp
 rw[if_neg em]
 refine Aa (W4 S (by omega) λH D d y l j J r1=>?_)
 have b:SetS w y o c g k:=K.keep λob q=>(l.2 o (Lq I)).trans q
 refine Aa (Gj (s:={ s with heap:=y }) j ?_)
 dsimp only
 have z1:=xR J
 have fl:d.fill=es.size:=by
  unfold Pi
  rw[j.tab.dum,j.tab.size]
  exact z1
 have f:d.fill=0->∀x,x∉Fz es:=λz x p=>by
  have : es.size=0:=by omega
  have e:es=#[]:=Array.eq_empty_of_size_eq_zero this
  rw[e] at p
  simp at p
 cases m:d.road k with
 | slotForSlot =>
  unfold SetTable.road at m
  split at m
  ·cases m
  ·rename_i M
   have n:d.fill=0:=by simpa using M
   split at m
   ·rename_i Y
    simp only[Cz,beq_iff_eq] at Y
    refine Ym j b.ent b.nd (t':={ k with finger:=d.finger,led:=d.led && k.led,moves:=d.moves,plain:=d.plain && k.plain }) ⟨⟨b.tab.good,b.tab.dum,by show (d.plain && k.plain)=true; rw[j.tab.plain,b.tab.plain]; rfl,b.tab.rise,b.tab.top,b.tab.size⟩,b.tab.room⟩
     (λz=>by show (d.led && k.led)=true; rw[j.led z,b.led z]; rfl) b.few λu i r=>?_
    refine h c _ _ u (l.trans i) r λx=>⟨.inr,λz=>z.elim (λq=>absurd q (f n x)) id⟩
   ·cases m
 | clean =>
  have n:d.fill=0:=by
   unfold SetTable.road at m
   split at m
   ·cases m
   ·rename_i M
    simpa using M
  have sz:(c.map (·.1)).size=c.size:=Array.size_map ..
  obtain ⟨L,order,Z,T,V,q4⟩:=nY (mask:=d.mask) (finger:=d.finger) (moves:=d.moves) (led:=d.led && k.led) j.tab.good (c.map (·.1)) (by rw[sz]; omega)
  rw[sz] at T V
  obtain ⟨O,G⟩:=sJ c T
  dsimp only
  have X:(d.plain && k.plain)=true:=by rw[j.tab.plain,b.tab.plain]; rfl
  rw[X,Z]
  refine Aa ?_
  show wpAny (model prog w) A (do
   if (order.filterMap (c[·]?)).size != c.size then unsupported "internal:set-table-lost-an-element"
   pure (order.filterMap (c[·]?),L)) _ _ _
  rw[if_neg (by rw[G]; simp)]
  refine Am ?_
  dsimp only
  refine Ym j (λe C=>b.ent e (O.mem_iff.mp C)) ((O.map Mj).nodup_iff.mpr b.nd) (by rw[G]; exact V) (λz=>by rw[q4,j.led z,b.led z]; rfl) (by rw[G]; exact b.few) λu i r=>?_
  refine h _ _ _ u (l.trans i) r λx=>?_
  rw[(O.map Mj).mem_iff]
  exact ⟨.inr,λz=>z.elim (λq=>absurd q (f n x)) id⟩
 | oneByOne =>
  dsimp only
  refine Aa (wH (s:={ s with heap:=y }) b ?_)
  have B:=hV (w:=w) (a:=o) (es:=c) (ep:=g)
  generalize (if bt w then Ul (w.params.setOrder o g) c else c)=arr at B
  rw[<- Array.forIn_toList]
  refine Aa (dS hU I hE arr.toList { s with heap:=y } H D d _ (λe C=>b.ent e (B.mem_iff.mp C)) (λx p=>W x ((B.map Mj).mem_iff.mp p)) (λx p=>R x (J.mem_iff.mp p)) j b λF N L u i r m2=>Am ?_)
  refine h F N L u (l.trans i) r λx=>?_
  rw[m2,J.mem_iff,(B.map Mj).mem_iff]
end
theorem jZ:entryFor table "set.__or__" = some Builtin.«frozenset.__or__» :=
 entryFor_alias (id' := "frozenset.__or__") (by kernel_rfl) (by first | rfl | decide +kernel) (by decide +kernel) (by kernel_rfl)
theorem Ov:isSubtype (.type "set") (.type "set")=pure true:=by rw[isSubtype_type]; kernel_rfl
section
variable{prog:Bk}{w:World}{A:Cf}{E:Value->Ak->Prop}{s:Ak}
theorem SetS.ty{a:Addr}{es:Array (Int×Value)}{ep:Nat}{t:Cc}(S:SetS w s.heap a es ep t):s.TypeIs (.ref a) "set" := ⟨_,S.obj,rfl⟩
theorem gE{h:Heap}:SetS w (h.push (Ki #[] 0 (.fresh 0 0 (!bt w)))) h.objs.size #[] 0 (.fresh 0 0 (!bt w)) :=
 ⟨Be _ rfl,(λe a=>by simp at a),Es,⟨⟨X7,rfl,rfl,Es,(λj b=>by simp [SetTable.fresh] at b),rfl⟩,by show 0 * 5<7 * 3; decide⟩,(λz=>by show (!bt w)=true; rw[z]; rfl),by decide⟩
theorem xK{Q:Value->Ak->Prop}(h:Q (.ref s.heap.objs.size) { s with heap:=s.heap.push (Ki #[] 0 (.fresh 0 0 (!bt w))) }):wpAny (model prog w) A (newSet (.type "set")) Q E s:=by
 unfold newSet
 refine Aa (Pu ?_)
 dsimp only
 simp only[newObj]
 exact Aa (wpAny_alloc (Am h))
theorem Yn{a:Addr}{Q:Bool->Ak->Prop}(T:s.TypeIs (.ref a) "set")(h:Q true s):wpAny (model prog w) A (Io (.ref a)) Q E s:=by
 unfold Io
 exact Aa (Og T Ov (Am h))
theorem R3{a:Addr}{Q:Value->Ak->Prop}(T:s.TypeIs (.ref a) "set")(h:Q (.type "set") s):wpAny (model prog w) A (Vu a) Q E s:=by
 unfold Vu
 exact Aa (Og T Ov (Am h))
theorem uZ{h h' c:Heap}{a:Addr}(k:∀b o,h.get? b=some o->h'.get? b=some o)(n:h.get? a=none)(d:Dd a h' c):∀b o,h.get? b=some o->c.get? b=some o:=λb o e =>
 (d.2 b (λz=>by rw[z,n] at e; cases e)).trans (k b o e)
theorem U5{U:List Int}(f:U.length<=62){a:Addr}{es:Array (Int×Value)}{ep:Nat}{t:Cc}{Q:Value->Ak->Prop}(S:SetS w s.heap a es ep t)(j:Among U (Fz es))(h:∀c d t' h',(∀b o,s.heap.get? b=some o->h'.get? b=some o)->SetS w h' s.heap.objs.size c d t'->(∀x,x∈Fz c↔x∈Fz es)->Q (.ref s.heap.objs.size) { s with heap:=h' }):wpAny (model prog w) A (Mt a) Q E s:=by
 have lt:=Bb S.obj
 have i:s.heap.objs.size≠a:=Oz lt
 unfold Mt
 refine Aa (R3 S.ty (Aa (xK ?_)))
 refine Aa (m:=Dz (.ref s.heap.objs.size)) (Am ?_)
 refine Aa (oW (s:={ s with heap:=s.heap.push (Ki #[] 0 (.fresh 0 0 (!bt w))) }) f i (each:=pure ()) (λn p _ q=>Am q) gE (S.keep λo q=>Aq _ q) (λx k=>by simp at k) j λc d t' h' l g m=>Am ?_)
 exact h c d t' h' (uZ (λb o e=>Aq _ e) (Vm (Au _)) l) g λx=>by rw[m]; simp
theorem GB{U:List Int}(D:U.length<=62){a b:Addr}(ab:a≠b){u k:Array (Int×Value)}{p f:Nat}{T C:Cc}{Q:Value->Ak->Prop}(i:SetS w s.heap a u p T)(g:SetS w s.heap b k f C)(y:Among U (Fz u))(R:Among U (Fz k))(h:∀e v t' h',(∀c o,s.heap.get? c=some o->h'.get? c=some o)->SetS w h' s.heap.objs.size e v t'->(∀x,x∈Fz e↔x∈Fz u\/x∈Fz k)->Q (.ref s.heap.objs.size) { s with heap:=h' }):wpAny (model prog w) A (Lw .BitOr (.ref a) (.ref b)) Q E s:=by
 refine wpAny_binaryOp_same (id := "set.__or__") i.ty g.ty PySem.F.fills_set_or PySem.F.slot_set_or (Ek PySem.F.slot_set_or i.ty jZ ?_ (PySem.F.args_set_or_2 _ _))
 show wpAny (model prog w) _ (do
  let (self,other) <- Wz "__or__" ⟨[.ref a,.ref b],[]⟩
  let (l,r):=(self,other)
  if !(<- Io l <&&> Io r) then rule s!"frozenset.{"__or__"}.declined"; return <- ret .notImplemented
  ret (<- (do
   let result <- Mt (<- Dz l)
   if r != .ref (<- Dz l) then Gf [result] (Lh s!"frozenset.{"__or__"}" (<- Dz result) r)
   return result))) _ _ _
 refine Aa (m:=Wz "__or__" ⟨[.ref a,.ref b],[]⟩) (Mp (a:=(Co a,Co b)) rfl ?_)
 dsimp only
 refine Aa (Aa (Yn i.ty ?_))
 refine Yn g.ty ?_
 simp only[Bool.not_true,Jj,if_false]
 refine Aa (Aa (m:=Dz (.ref a)) (Am (Aa (U5 D i y λY p1 W j B M G=>?_))))
 have K:s.heap.objs.size≠b:=Oz (Bb g.obj)
 have V:s.heap.get? s.heap.objs.size=none:=Vm (Au _)
 have d:SetS w j b k f C:=g.keep λo q=>B b o q
 refine Aa (m:=Dz (.ref a)) (Am ?_)
 rw[if_pos (show (Co b != Co a)=true by simpa using Lq ab)]
 refine Aa (m:=Dz (.ref s.heap.objs.size)) (Am (Aa (Dx ?_)))
 unfold Lh
 refine Aa (Yn (s:={ s with heap:=j }) (w:=w) d.ty ?_)
 rw[if_pos rfl]
 refine Aa (m:=Dz (.ref b)) (Am ?_)
 unfold Builtin.Frozenset.merge setEpoch
 refine Aa (Aa (Gj (s:={ s with heap:=j }) d (Am ?_)))
 refine oW (s:={ s with heap:=j }) D K (λZ X n H=>?_) M d (λx P=>y x ((G x).mp P)) R λJ L O N t I S=>?_
 ·unfold Builtin.Frozenset.unchanged setEpoch
  refine Aa (Aa (Gj n (Am ?_)))
  dsimp only
  rw[if_neg (by simp)]
  exact Am H
 ·refine Am (Am ⟨_,rfl,(λz=>nomatch z),h J L O N (uZ B V t) I λx=>by rw[S,G]⟩)
end
end NdS
namespace NdS
open PySem PyProof.Rows
section
variable{prog:Bk}{w:World}{A:Cf}{R:Result->Ak->Prop}
theorem B4{U:List Int}(hU:U.length<=62){a it l:Addr}(y:a≠it)(P:a≠l)(O:l≠it){c:Array Value}{ns:List Int}(H:Om c.toList ns)(Q:Among U ns)(hh:A.in1.handled=none):∀(k i:Nat) (s:Ak) (es:Array (Int×Value)) (ep:Nat) (t:Cc),c.size - i=k->i<=c.size->s.heap.IsTupleIter it l i->s.heap.IsTuple l c->SetS w s.heap a es ep t->Among U (Fz es)->(∀m F t' h' n,(∀b o,b≠a->b≠it->s.heap.get? b=some o->h'.get? b=some o)->SetS w h' a m F t'->(∀x,x∈Fz m↔x∈Fz es\/x∈ns.drop i)->R (.ok (.ret .none)) { s with heap:=h',toks:=n })->Gw (model prog w) A (.builtin "set.update.loop" ⟨[.ref a,.ref it],[]⟩) R s:=by
 have len:ns.length=c.size:=by rw[<- H.length,Bg]
 intro k
 induction k with
 | zero =>
  intro i s es ep t V hi f p S u E
  have e:i=c.size:=by omega
  refine Pn Rm ?_
  rw[Ud Jo _]
  show wpAny _ A.in1 (Mg (.ref it) >>= _) _ _ s
  refine Aa (N0 hh f p (by rw[e]; simp) λh' x=>?_)
  refine Am (E es ep t h' s.toks (λb o _ q e=>x b o q e) (S.keep λo q=>x a o y q) λx=>?_)
  rw[e,<- len,List.drop_length]
  simp
 | succ k ih =>
  intro i s es ep t V hi f p S u E
  have lt:i<c.size:=by omega
  have lt':i<ns.length:=by omega
  obtain ⟨n,N⟩:=IntsAre.int_at H i c[i] (by simp [lt])
  have W:ns.getD i 0=ns[i]:=by simp [List.getD,lt']
  rw[W] at N
  refine Pn Rm ?_
  rw[Ud Jo _]
  show wpAny _ A.in1 (Mg (.ref it) >>= _) _ _ s
  refine Aa (M5 f p (x:=c[i]) (by simp [lt]) λL j d=>?_)
  rw[N]
  show wpAny _ A.in1 (Gf [Vj ns[i] n] (setAdd a (.int ns[i] n)) >>= _) _ _ _
  refine Aa (Dx ?_)
  unfold setAdd
  refine Dx (Aa ((Vp prog w).pyHash (k:=ns[i]) (intKind_is _ _ _ _) ?_))
  have K:SetS w L a es ep t:=S.keep λo q=>(d.2 a y).trans q
  have z:=u.size K.nd
  refine zO (s:={ s with heap:=L,toks:=s.toks+1 }) K (by omega) λb h D t2 h2 g T p2=>?_
  have M:∀x,x∈Fz h↔x=ns[i]\/x∈Fz es:=λx=>by rw[p2.mem_iff,sZ]
  refine Am ⟨plainId_quiet Jo _,?_⟩
  refine ih (i+1) { s with heap:=h2,toks:=s.toks+1 } h D t2 (by omega) lt ?_ ?_ T (λx hx=>?_) λv C Y X B Z S3 m3=>?_
  ·obtain ⟨o,G,r⟩:=j
   exact ⟨o,(g.2 it (Lq y)).trans G,r⟩
  ·obtain ⟨o,G,r⟩:=p
   exact ⟨o,(g.2 l (Lq P)).trans ((d.2 l O).trans G),r⟩
  ·rcases (M x).mp hx with q | q
   ·rw[q]; exact Q _ (eG lt')
   ·exact u x q
  ·refine E v C Y X B (λb o I J e=>Z b o I J ((g.2 b I).trans ((d.2 b J).trans e))) S3 λx=>?_
   rw[m3,M,Qk lt',Ai]
   constructor
   ·rintro ((q | q) | q)
    ·exact .inr (.inl q)
    ·exact .inl q
    ·exact .inr (.inr q)
   ·rintro (q | q | q)
    ·exact .inl (.inr q)
    ·exact .inl (.inl q)
    ·exact .inr q
end
section
variable{prog:Bk}{w:World}{A:Cf}{E:Value->Ak->Prop}{s:Ak}
theorem A3(v:Value){Q:Value->Ak->Prop}(h:Q (.ref s.heap.objs.size) { s with heap:=s.heap.push (Ki #[] 0 (.fresh 0 0 (!bt w))) }):Gw (model prog w) A (.call (.builtin "set.__new__") ⟨[.type "set",v],[]⟩) (wants Q E) s:=by
 have sub:=Ov
 obtain ⟨b,g,d,a,os⟩:=s
 refine codeAny_of_tree (show wpAny _ A.in1 (do lA "set.__new__" ⟨[.type "set",v],[]⟩; again (.builtin "set.__new__" ⟨[.type "set",v],[]⟩)) _ _ _ from ?_)
 refine Aa (Mp (PySem.F.newCall_set_1 v) (Am ⟨plainId_quiet PySem.F.plain_set_new _,Pn PySem.F.entry_set_new ?_⟩))
 rw[Ud PySem.F.plain_set_new _]
 unfold Builtin.«set.__new__» Builtin.Frozenset.newClass
 dsimp only
 wp_walk
 refine Uj (Am ?_)
 dsimp only
 simp only[newObj]
 exact Aa (wpAny_alloc (Am (Am h)))
theorem W9{U:List Int}(V:U.length<=62){l:Addr}{a:Array Value}{ns:List Int}{Q:Value->Ak->Prop}(Y:A.handled=none)(Z:s.heap.IsTuple l a)(O:Om a.toList ns)(N:Among U ns)(h:∀es ep t h' f,(∀b o,s.heap.get? b=some o->h'.get? b=some o)->SetS w h' s.heap.objs.size es ep t->(∀x,x∈Fz es↔x∈ns)->Q (.ref s.heap.objs.size) { s with heap:=h',toks:=f }):wpAny (model prog w) A (call (.type "set") [.ref l]) Q E s:=by
 obtain ⟨c,tl,I⟩:=PySem.F.called_set.mro
 have u:=PySem.F.called_set.made
 have D:=PySem.F.called_set.sub
 have h1:=PySem.F.called_set.notType
 have h2:=PySem.F.called_set.canCreate
 have S:=PySem.F.typeCall_set_1 (.ref l)
 refine Vo (codeAny_of_tree (show wpAny _ _ (callAny (.type "set") _) _ _ _ from ?_))
 refine Am ⟨Code.quiet_builtin _ (by decide +kernel),Pn PySem.F.entry_type_call ?_⟩
 rw[Around.under_plain (weight_type_call_type "set" [.ref l] []) rfl]
 repeat (any_goals (first | assumption | wp_step))
 refine Il (A3 (.ref l) (E:=E) (Q:=λv K=>v=.ref s.heap.objs.size/\K={ s with heap:=s.heap.push (Ki #[] 0 (.fresh 0 0 (!bt w))) }) ⟨rfl,rfl⟩) λr K d=>?_
 rcases r with e | (_ | _ | _ | v)
 ·exact d
 ·exact d.elim
 ·exact d.elim
 ·exact d.elim
 obtain ⟨rfl,rfl⟩:=d
 have H:=gE (w:=w) (h:=s.heap)
 have L:Shared.TypeIs { s with heap:=s.heap.push (Ki #[] 0 (.fresh 0 0 (!bt w))) } (.ref s.heap.objs.size) "set" := ⟨_,H.obj,rfl⟩
 have h3:=PySem.F.called_set.init.lookup
 have h0:=PySem.F.called_set.init.bind (.ref s.heap.objs.size)
 repeat (any_goals (first | assumption | wp_step))
 refine Il (Zk (R:=wants (λr C=>r=.none/\∃es ep t h' f,C={ s with heap:=h',toks:=f }/\(∀b o,s.heap.get? b=some o->h'.get? b=some o)/\SetS w h' s.heap.objs.size es ep t/\∀x,x∈Fz es↔x∈ns) E)
  PySem.F.called_set.init.plain PySem.F.entry_set_init (check_set_init_1 L ?_)) λr C d=>?_
 ·obtain ⟨⟨T,od,y,X⟩,J,M,n,P⟩:=id Z
  have k:T=.type "tuple" := M
  have i:y=.seq a n:=P
  subst k i
  have g:=Aq (Ki #[] 0 (.fresh 0 0 (!bt w))) J
  have B:(s.heap.push (Ki #[] 0 (.fresh 0 0 (!bt w)))).IsTuple l a:=⟨_,g,rfl,n,rfl⟩
  have f1:=PySem.F.sub_tuple_set
  have f2:=PySem.F.sub_tuple_frozenset
  have f3:(Kf "tuple" == Kf "dict")=false:=by decide
  have lt:=Bb J
  unfold Builtin.«set.__init__» noKeywords Lh
  generalize p:Zh=PI
  wp_walk
  subst p
  refine eN B (Aa (wpAny_runValue ?_))
  have sz:(s.heap.push (Ki #[] 0 (.fresh 0 0 (!bt w)))).objs.size=s.heap.objs.size+1:=Gz _ _
  have g1:((s.heap.push (Ki #[] 0 (.fresh 0 0 (!bt w)))).push { cls:=.type "tuple_iterator",data:=.fields #[.ref l,.int 0 0] }).get? (s.heap.push (Ki #[] 0 (.fresh 0 0 (!bt w)))).objs.size=some { cls:=.type "tuple_iterator",data:=.fields #[.ref l,.int 0 0] }:=Be _ rfl
  refine B4 V (by rw[sz]; exact Cj (Nf _)) (Oz lt) (by rw[sz]; exact Cj (bA lt)) O N (by simp [Y]) (a.size - 0) 0 _ #[] 0 (.fresh 0 0 (!bt w)) rfl (Cw _) ⟨_,g1,rfl,rfl⟩ ⟨_,Aq _ g,rfl,n,rfl⟩
   (H.keep λo q=>Aq _ q) (λx W=>by simp at W) λes ep t h' f m j z=>?_
  refine Am (Am ⟨rfl,es,ep,t,h',f,rfl,λb o e=>?_,j,λx=>?_⟩)
  ·have G:=Bb e
   exact m b o (Cj G) (by rw[sz]; exact Cj (bA G)) (Aq _ (Aq _ e))
  ·rw[z,Vl]
   simp
 ·rcases r with e | (_ | _ | _ | v)
  ·exact d
  ·exact d.elim
  ·exact d.elim
  ·exact d.elim
  obtain ⟨rfl,es,ep,t,h',f,rfl,m,j,z⟩:=d
  repeat (any_goals (first | assumption | wp_step))
  exact h es ep t h' f m j z
end
theorem Te:Slot "set_iterator" "__next__" "set_iterator.__next__" :=
 .of (owner := "set_iterator") (n := "__next__") (by rw[typeLookup_type,builtinLookup_eq_fast]; kernel_rfl) (by decide +kernel) (by decide +kernel) (by decide +kernel) (by first | exact .inl (by decide +kernel) | exact .inr (by decide +kernel)) (by rw[isSubtype_type]; kernel_rfl)
theorem cU:entryFor table "set_iterator.__next__" = some Builtin.«set_iterator.__next__»:=entryFor_of_tree (by kernel_rfl)
theorem gQ(a:Value):argsOk "set_iterator.__next__" ⟨[a],[]⟩:=by unfold argsOk; kernel_rfl
theorem qA:entryFor table "set.__iter__" = some Builtin.«frozenset.__iter__» :=
 entryFor_alias (id' := "frozenset.__iter__") (by kernel_rfl) (by first | rfl | decide +kernel) (by decide +kernel) (by kernel_rfl)
abbrev tF(f i:Nat)(a:Addr)(n ep:Nat):Obj:={ cls:=.type "set_iterator",data:=.fields #[Jy f,Jy i,.ref a,Jy n,Jy ep] }
def arrOf(w:World)(a:Addr)(ep:Nat)(es:Array (Int×Value)):Array (Int×Value):=if bt w then Ul (w.params.setOrder a ep) es else es
theorem j4{w:World}{a:Addr}{ep:Nat}{es:Array (Int×Value)}:(arrOf w a ep es).toList.Perm es.toList:=hV
theorem Pw{w:World}{a:Addr}{ep:Nat}{es:Array (Int×Value)}:(arrOf w a ep es).size=es.size:=by
 have:=(j4 (w:=w) (a:=a) (ep:=ep) (es:=es)).length_eq
 rw[Bg,Bg] at this
 exact this
def mO(w:World)(I a:Addr)(es:Array (Int×Value))(ep:Nat)(t:Cc)(i:Nat)(h:Heap):Prop :=
 (∃f,h.get? I=some (tF f i a es.size ep)/\(bt w=false->Ce t.place f=i))/\SetS w h a es ep t
section
variable{prog:Bk}{w:World}{A:Cf}{E:Value->Ak->Prop}{s:Ak}
theorem O5{a:Addr}{es:Array (Int×Value)}{ep:Nat}{t:Cc}{Q:Value->Ak->Prop}(S:SetS w s.heap a es ep t)(h:Q (.ref s.heap.objs.size) { s with heap:=s.heap.push (tF 0 0 a es.size ep) }):wpAny (model prog w) A (Zh (.ref a)) Q E s:=by
 refine wpAny_pyIter_slot S.ty PySem.F.slot_set_iter (Ek PySem.F.slot_set_iter S.ty qA ?_ (PySem.F.args_set_iter_1 _))
 unfold Builtin.«frozenset.__iter__»
 refine Aa (m:=Builtin.Frozenset.slot0 "__iter__" ⟨[.ref a],[]⟩) (Mp (a:=a) rfl ?_)
 unfold Builtin.Frozenset.sizeOf eO setDrawn setEpoch
 refine Aa (Aa (Aa (Gj S (Am (Am ?_)))))
 refine Aa (Aa (Gj S ?_))
 dsimp only
 refine Aa (Pu (Am ?_))
 have o:=S.tab.plain
 have b:wpAny (model prog w) A.in1 (do
   let first <- (pure (Jy 0):Sem Value)
   ret (<- newFields "set_iterator" [first,Jy 0,.ref a,Jy es.size,Jy (<- (do return (<- setState a).2.1))])) (λe j=>∃v,e=.done (.ret v)/\∃l r,j.TypeIs v l/\typeLookup (.type l) "__next__" = pure (some r)/\Q v j) E s:=by
  refine Aa (Am ?_)
  refine Aa (Aa (Gj S (Am ?_)))
  refine Aa (Eo (Am ⟨_,rfl, "set_iterator",_,⟨_,Be _ rfl,rfl⟩,Te.lookup,h⟩))
 obtain ⟨k,i,c,d,n,g,plain⟩:=t
 have f:plain=true:=o
 subst f
 cases p:bt w with
 | true=>exact b
 | false=>exact b
theorem cF{a:Addr}{es:Array (Int×Value)}{ep f i:Nat}{t:Cc}{Q:Option (Value×Nat)->Ak->Prop}(S:SetS w s.heap a es ep t)(B:bt w=false->Ce t.place f=i)(r:∀(b:i<es.size) u,(bt w=false->Ce t.place u=i+1)->Q (some (((arrOf w a ep es)[i]'(by rw[Pw]; exact b)).2,u)) s)(v:es.size<=i->Q none s):wpAny (model prog w) A (setNext a f i ep) Q E s:=by
 unfold setNext
 refine Aa (Gj S ?_)
 dsimp only
 refine Aa (Pu ?_)
 cases k:bt w with
 | true =>
  rw[if_pos rfl,if_neg (by simp)]
  refine Aa (uC S (Am ?_))
  show Q (((arrOf w a ep es)[i]?).map λe=>(e.2,f)) s
  by_cases b:i<es.size
  ·rw[Hs (by rw[Pw]; exact b)]
   exact r b f (λz=>by rw[k] at z; cases z)
  ·rw[Rw (by rw[Pw]; omega)]
   exact v (by omega)
 | false =>
  have C:=S.led k
  have D:=S.tab.plain
  have d:wpAny (model prog w) A (pure (match es[Ce t.place f]?,t.place[Ce t.place f]? with
    | some (_,x),some j=>some (x,j+1)
    | _,_=>none):Sem (Option (Value×Nat))) Q E s:=by
   rw[B k]
   by_cases b:i<es.size
   ·have c:i<t.place.size:=by rw[S.tab.size]; exact b
    rw[Hs b,Hs c]
    refine Am ?_
    have:=r b (t.place[i]+1) (λ_=>qX S.tab.rise c)
    have e:arrOf w a ep es=es:=by unfold arrOf; rw[k]; rfl
    simp only[e] at this
    exact this
   ·rw[Rw (by omega)]
    exact Am (v (by omega))
  obtain ⟨y,q,g,h,p,o,plain⟩:=t
  have l:p=true:=C
  have n:plain=true:=D
  subst l n
  exact Aa (m:=(pure ():Sem Unit)) (Am d)
theorem vR{I a:Addr}{es:Array (Int×Value)}{ep:Nat}{t:Cc}{i:Nat}{Q:Option Value->Ak->Prop}(st:mO w I a es ep t i s.heap)(ne:a≠I)(e:i<es.size)(h:∀h',mO w I a es ep t (i+1) h'->Dd I s.heap h'->Q (some ((arrOf w a ep es)[i]'(by rw[Pw]; exact e)).2) { s with heap:=h' }):wpAny (model prog w) A (Mg (.ref I)) Q E s:=by
 obtain ⟨⟨f,b,j⟩,S⟩:=st
 have T:s.TypeIs (.ref I) "set_iterator" := ⟨_,b,rfl⟩
 unfold Mg
 refine Aa (eE (Eu (name:=Kv "__next__") T Te (Ek Te T cU ?_ (gQ _))))
 unfold Builtin.«set_iterator.__next__»
 refine Aa (m:=slotArgs "__next__" 0 ⟨[.ref I],[]⟩) (Mp (a:=(Co I,[])) rfl ?_)
 dsimp only
 refine Aa (wpAny_fieldsOf b rfl ?_)
 show wpAny (model prog w) A.in1 (do
  if (((<- eO a).size:Nat):Int) != (es.size:Int) then
   rule "set_iterator.__next__.size-changed"
   Uk (.ref I) 3 (Jy (-1))
   raiseError "RuntimeError" "Set changed size during iteration"
  match <- setNext a (f:Int).toNat (i:Int).toNat (ep:Int).toNat with
  | some (x,next) =>
   Uk (.ref I) 0 (Jy next)
   Uk (.ref I) 1 (Jy ((i:Int)+1))
   ret x
  | none=>Uk (.ref I) 2 .none; raiseNew (<- newExc (.type "StopIteration") [])) _ _ _
 unfold eO
 refine Aa (Aa (Gj S (Am ?_)))
 rw[if_neg (by simp)]
 simp only[Mh]
 refine Aa (cF S j (λ_ c d=>?_) (λz=>absurd e (by omega)))
 dsimp only
 refine Aa (Rq b rfl (by simp) ?_)
 have g:(s.heap.update I (Obj.mapFields (·.setIfInBounds 0 (Jy c)))).get? I=some (tF c i a es.size ep):=Jv _ b rfl
 refine Aa (Rq g rfl (by simp) (Am ⟨_,rfl,Am (h _ ⟨⟨c,?_,d⟩,?_⟩ ((Dg ..).trans (Dg ..)))⟩))
 ·exact Jv _ g rfl
 ·refine S.keep λo q=>?_
  exact ((Dg _ _ _).2 a ne).trans (((Dg _ _ _).2 a ne).trans q)
theorem L6{I a:Addr}{es:Array (Int×Value)}{ep:Nat}{t:Cc}{Q:Option Value->Ak->Prop}(e:A.handled=none)(st:mO w I a es ep t es.size s.heap)(h:∀h',Heap.ExtBut I s.heap h'->Q none { s with heap:=h' }):wpAny (model prog w) A (Mg (.ref I)) Q E s:=by
 obtain ⟨⟨f,c,d⟩,S⟩:=st
 have T:s.TypeIs (.ref I) "set_iterator" := ⟨_,c,rfl⟩
 unfold Mg
 refine Aa (eE (Eu (name:=Kv "__next__") T Te (Ek Te T cU ?_ (gQ _))))
 unfold Builtin.«set_iterator.__next__»
 refine Aa (m:=slotArgs "__next__" 0 ⟨[.ref I],[]⟩) (Mp (a:=(Co I,[])) rfl ?_)
 dsimp only
 refine Aa (wpAny_fieldsOf c rfl ?_)
 show wpAny (model prog w) A.in1 (do
  if (((<- eO a).size:Nat):Int) != (es.size:Int) then
   rule "set_iterator.__next__.size-changed"
   Uk (.ref I) 3 (Jy (-1))
   raiseError "RuntimeError" "Set changed size during iteration"
  match <- setNext a (f:Int).toNat (es.size:Int).toNat (ep:Int).toNat with
  | some (x,next) =>
   Uk (.ref I) 0 (Jy next)
   Uk (.ref I) 1 (Jy ((es.size:Int)+1))
   ret x
  | none=>Uk (.ref I) 2 .none; raiseNew (<- newExc (.type "StopIteration") [])) _ _ _
 unfold eO
 refine Aa (Aa (Gj S (Am ?_)))
 rw[if_neg (by simp)]
 simp only[Mh]
 refine Aa (cF S d (λz _ _=>absurd z (Fm _)) (λ_=>?_))
 dsimp only
 refine Aa (Rq c rfl (by simp) (Aa ?_))
 simp only[newExc,newTuple]
 refine Aa (Eo ?_ (by size_fits))
 refine Aa (m:=Zj _ _) (Mp (a:=Ib) (by first | rfl | (simp only[Zj]; rfl)) (Eo ?_ (by size_fits)))
 simp only[raiseNew]
 refine Aa (wpAny_handled ?_)
 rw[show A.in1.handled=none from e]
 refine Aa (Am (wpAny_throw ?_))
 refine Aa (Og (T := "StopIteration") (b:=true) ⟨_,Be _ rfl,rfl⟩ isSubtype_stop ?_)
 exact Am (h _ (((Dg ..).extBut.push _).push _))
end
theorem gL:Slot "set_iterator" "__iter__" "set_iterator.__iter__" :=
 .of (owner := "set_iterator") (n := "__iter__") (by rw[typeLookup_type,builtinLookup_eq_fast]; kernel_rfl) (by decide +kernel) (by decide +kernel) (by decide +kernel) (by first | exact .inl (by decide +kernel) | exact .inr (by decide +kernel)) (by rw[isSubtype_type]; kernel_rfl)
theorem rT:entryFor table "set_iterator.__iter__" = some Builtin.«dict_keyiterator.__iter__» :=
 entryFor_alias (id' := "dict_keyiterator.__iter__") (by kernel_rfl) (by first | rfl | decide +kernel) (by decide +kernel) (by kernel_rfl)
theorem vL(a:Value):argsOk "set_iterator.__iter__" ⟨[a],[]⟩:=by unfold argsOk; kernel_rfl
section
variable{prog:Bk}{w:World}{A:Cf}{E:Value->Ak->Prop}{s:Ak}
theorem xU(p:A.handled=none){I a:Addr}(ne:a≠I)(es:Array (Int×Value))(ep:Nat)(t:Cc):Walks prog w A I [I,a] [I] es.size (λi v=>∃e,(arrOf w a ep es)[i]? = some e/\v=e.2) (λi h=>mO w I a es ep t i h) where
 sub:=λb c=>by simp at c; simp [c]
 frame:=λi h g ⟨⟨f,k,l⟩,S⟩ m=>⟨⟨f,m I (by simp) _ k,l⟩,S.keep λo q=>m a (by simp) o q⟩
 item:=λi s Q E n st d=>vR st ne n λg j r=>d _ g s.toks ⟨_,Hs (by rw[Pw]; exact n),rfl⟩ j λb o c e=>(r.2 b (λz=>c (by simp [z]))).trans e
 done:=λs Q E st d=>L6 p st λg x=>d g s.toks λb o c e=>x b o (λz=>c (by simp [z])) e
 self:=λi s Q E st d=>by
  obtain ⟨⟨f,k,l⟩,S⟩:=st
  have T:s.TypeIs (.ref I) "set_iterator" := ⟨_,k,rfl⟩
  refine wpAny_pyIter_slot T gL (Ek gL T rT ?_ (vL _))
  exact Am ⟨_,rfl, "set_iterator",_,T,Te.lookup,d⟩
theorem i7{r:Addr}{Q:Bool->Ak->Prop}(c:s.TypeIs (.ref r) "set")(h:Q false s):wpAny (model prog w) A (Xe (.ref r)) Q E s:=by
 unfold Xe
 refine Aa (wpAny_specialOf c PySem.F.slot_set_len.lookup ?_)
 generalize a:("set.__len__" : String)=id0
 wp_delta
 rw[show splitId id0=some ("set", "__len__") from by subst a; decide +kernel]
 subst a
 refine Aa (Og (T := "set") (b:=true) c Ov ?_)
 refine wpAny_ite_split (λz=>absurd z (by decide)) (λ_=>wpAny_ite_split (λ_=>?_) (λz=>absurd (by decide +kernel) z))
 exact Aa (iB c (Am h))
theorem V2(a:Addr)(es:Array (Int×Value))(ep:Nat)(t:Cc):PySem.W.KdlSrc prog w "set" a a es.size (λi v=>∃e,(arrOf w a ep es)[i]? = some e/\v=e.2) (λh=>SetS w h a es ep t) where
 type:=λs S=>S.ty
 there:=λh S=>⟨Bb S.obj,Bb S.obj⟩
 keep:=λh c S k=>S.keep λo q=>k a (.inl rfl) o q
 notList:=by decide
 notTuple:=by decide
 hint:=λA E s Q S h=>i7 S.ty h
 iter:=λA s b S=>by
  have lt:=Bb S.obj
  refine ⟨tF 0 0 a es.size ep,λi h=>mO w s.heap.objs.size a es ep t i h,λE Q h=>O5 S h,?_,⟨⟨0,Be _ rfl,λ_=>lY S.tab.rise⟩,S.keep λo q=>Aq _ q⟩⟩
  exact xU b (Cj lt) es ep t
theorem eT{a:Array (Int×Value)}(c:∀e∈a.toList,Vv e){b:Array Value}(h:ItemsOf (λi v=>∃e,a[i]? = some e/\v=e.2) b a.size):Om b.toList (a.toList.map Mj):=by
 have m:∀(l:List (Int×Value)) (vs:List Value),(∀e∈l,Vv e)->vs.length=l.length->(∀(j:Nat) v,vs[j]? = some v->∃e,l[j]? = some e/\v=e.2)->Om vs (l.map Mj):=by
  intro l
  induction l with
  | nil =>
   intro vs _ d _
   cases vs with
   | nil=>exact .nil
   | cons v vs=>cases d
  | cons e l r =>
   intro vs c d o
   cases vs with
   | nil=>cases d
   | cons v vs =>
    obtain ⟨k,q,rfl⟩:=c e (Ab ..)
    obtain ⟨s,f,g⟩:=o 0 v rfl
    cases f
    subst g
    exact .cons k q (r vs (λe p=>c e (Ah _ p)) (by simpa using d) λj u n=>o (j+1) u (by simpa using n))
 refine m a.toList b.toList c (by rw[Bg,Bg]; exact h.1) λj v n=>?_
 obtain ⟨e,f,g⟩:=h.2 j v (by rw[<- Hi]; exact n)
 exact ⟨e,by rw[Hi]; exact f,g⟩
theorem rZ{a:Addr}{es:Array (Int×Value)}{ep:Nat}{t:Cc}{Q:Value->Ak->Prop}(x:A.handled=none)(S:SetS w s.heap a es ep t)(h:∀(p:Addr) (d:Array Value) (ns:List Int) (n:Nat) (f h':Heap) (k:Nat),Om d.toList ns->ns.Perm (Fz es)->ns.Pairwise (·<=·)->(∀b o,s.heap.get? b=some o->f.get? b=some o)->f.objs.size<=p->(∀b o,f.get? b=some o->h'.get? b=some o)->h'.get? p=some (seqObj "list" d n)->Q (.ref p) { s with heap:=h',toks:=k }):wpAny (model prog w) A (call (.builtin "sorted") [.ref a]) Q E s:=by
 refine Calls.call_function_entry kind_sorted plain_sorted entry_sorted (args_sorted1 _) ?_
 unfold Builtin.«sorted»
 refine Aa (m:=checkCount "sorted" 1 1 _) (Am (Aa (PySem.W.kdu_collect (A:=A.in1) (V2 a es ep t) x S (nH S.few) λf k c F g=>?_)))
 have j:ItemsOf (λi v=>∃e,(arrOf w a ep es)[i]? = some e/\v=e.2) c (arrOf w a ep es).size:=by rw[Pw]; exact g
 have C:=eT (λe u=>S.ent e (j4.mem_iff.mp u)) j
 have len:c.toList.length<64:=by rw[Bg,g.1]; exact S.few
 refine Aa (wpAny_newList ?_ (Bw (Kw len) (by rw[Fn]; decide)))
 have q:(f.push (seqObj "list" c.toList.toArray 0)).get? f.objs.size=some (seqObj "list" c.toList.toArray 0):=Be _ rfl
 refine Aa (Dx (Ek slot_list_sort ⟨_,q,rfl⟩ entry_list_sort (list_sort_tree (s:={ s with heap:=f.push (seqObj "list" c.toList.toArray 0),toks:=k }) q C len λd l B y z=>⟨_,rfl,?_⟩) (args_list_sort _)))
 refine Am ⟨_,rfl,?_⟩
 have g2:=get?_update_seq q (λ_=>#[])
 have D:=Aq (seqObj "list" #[] 0) (Aq (seqObj "tuple" c.toList.toArray 0) g2)
 have G:=get?_update_seq D (λ_=>d)
 refine h f.objs.size d l _ f _ k B (y.trans (j4.map Mj)) z F (Au _) (λb o e=>?_) G
 have r:b≠f.objs.size:=Cj (Bb e)
 exact ((Dg _ _ _).2 b r).trans (Aq _ (Aq _ (((Dg _ _ _).2 b r).trans (Aq _ e))))
end
end NdS
namespace Nd
open PySem PySem.Spec PyProof.Rows L2 NdS
def J6(w:World)(a:Addr)(d:List Int)(h:Heap):Prop:=∃b c t,SetS w h a b c t/\∀x,x∈Fz b↔x∈d
abbrev Zo(w:World)(a:Addr)(b:List Int):HO:=.ext (J6 w a b)
theorem tU{P:Bk}{w c:World}{H:Hp}{h:Heap}{a:Addr}{b:List Int}(e:J6 w a b h):Jt P c H h a (Zo w a b) :=
 ⟨e,let ⟨_,_,_,S,_⟩:=e; ⟨_,S.obj⟩,λg i ⟨f,d,t,S,m⟩ k=>⟨f,d,t,S.keep λo q=>k o q,m⟩⟩
theorem cG{P:Bk}{w:World}{H:Hp}{h:Heap}{a:Addr}{b:List Int}(ok:Zw P w H h)(e:H a=some (Zo w a b)):J6 w a b h :=
 (show Jt P w H h a (Zo w a b) from ok a _ e).1
section
variable{X:Cx}
def CY(w:World)(K:PySem.W.Frag):List V->Hp->VK->Prop:=λc H Q=>∃(a:Addr) (b U:List Int),c=[.ref a]/\Tr K H a (b.map V.int)/\U.length<=62/\Among U b/\∀p,H p=none->Q (.ref p) (upd H p (Zo w p b))
theorem lG(g:X.calm=true):Na X (.type "set") (CY X.w X.K):=by
 intro c s B H z E Q I r h
 obtain ⟨a,C,U,rfl,p,f,j,q⟩:=h
 obtain ⟨u,rfl,l⟩:=vals1 r
 cases l
 obtain ⟨x,d,⟨o,e,b,n,i⟩,_⟩:=I.tuple p
 refine W9 f (I.ok.hd g) ⟨o,e,b,n,i⟩ (by simpa using intsAre_of d) j λy v t A D k S m=>?_
 exact ⟨.ref s.heap.objs.size,_,I.laid k (Au _) (tU ⟨y,v,t,S,m⟩),rfl,q _ (I.hok.fresh (Au _))⟩
def MM(w:World):R2:=λx y H Q=>∃(a b:Addr) (d c U:List Int),x=.ref a/\y=.ref b/\a≠b/\H a=some (Zo w a d)/\H b=some (Zo w b c)/\U.length<=62/\Among U d/\Among U c/\∀p,H p=none->Q (.ref p) (upd H p (Zo w p (d++c)))
theorem K8:Xa X (Lw .BitOr) (MM X.w):=by
 intro d s E H x y v u Q I o C h
 obtain ⟨a,b,M,J,U,rfl,rfl,n,l,B,r,A,z,q⟩:=h
 cases o
 cases C
 obtain ⟨L,F,N,j,f⟩:=cG I.hok l
 obtain ⟨O,K,G,g,e⟩:=cG I.hok B
 refine GB r n j g (λx c=>A x ((f x).mp c)) (λx c=>z x ((e x).mp c)) λp i t D k S m=>?_
 exact ⟨.ref s.heap.objs.size,_,I.laid (t':=s.toks) k (Au _) (tU ⟨p,i,t,S,λx=>by rw[m,f,e,Ar]⟩),rfl,q _ (I.hok.fresh (Au _))⟩
theorem Wd:∀{vs:List Value} {ns:List Int},Om vs ns->Fj (ns.map V.int) vs
 | _,_,.nil=>.nil
 | _,_,.cons n t h=>.cons ⟨t,rfl⟩ (Wd h)
def tV(w:World):List V->Hp->VK->Prop:=λd H Q=>∃(a:Addr) (c:List Int),d=[.ref a]/\H a=some (Zo w a c)/\∀(p:Addr) (b:List Int),H p=none->b.Nodup->b.Pairwise (·<=·)->(∀x,x∈b↔x∈c)->Q (.ref p) (upd H p (.lst (b.map V.int)))
theorem iV(j:X.calm=true):Na X (.builtin "sorted") (tV X.w):=by
 intro b s l H K F Q I r h
 obtain ⟨a,M,rfl,A,q⟩:=h
 obtain ⟨u,rfl,k⟩:=vals1 r
 cases k
 obtain ⟨J,G,t,S,m⟩:=cG I.hok A
 refine rZ (I.ok.hd j) S λp e d n C E i D f o z c v y=>?_
 have g:Inv X b l H { s with heap:=C,toks:=i }:=I.kept z
 have B:d.Nodup:=f.nodup_iff.mpr S.nd
 have L:d.length<64:=by
  rw[f.length_eq,Af,Bg]
  exact S.few
 refine ⟨.ref p,upd H p (.lst (d.map V.int)),g.laid (t':=i) v c ⟨by rw[Af,Fn]; omega,e.toList,n,Wd D,by simpa using y⟩,rfl,q p d (g.hok.fresh c) B o λx=>by rw[f.mem_iff,m]⟩
end
end Nd
namespace Nd
open PySem L2
def Ui(d:Addr)(H H':Hp):Prop:=∀b o,b≠d->H b=some o->H' b=some o
theorem Ui.trans{d:Addr}{H f e:Hp}(a:Ui d H f)(b:Ui d f e):Ui d H e:=λc o n h=>b c o n (a c o n h)
theorem Ui.upd{d:Addr}{H:Hp}{o:HO}:Ui d H (upd H d o):=λb o n h=>by rw[Cn n]; exact h
theorem Lu.tup{K:PySem.W.Frag}{H H':Hp}{a:Addr}{xs:List V}(e:Lu H H')(h:Tr K H a xs):Tr K H' a xs:=by
 rcases h with (h | ⟨o,h⟩) | h
 ·exact .inl (.inl (e _ _ h))
 ·exact .inl (.inr ⟨o,e _ _ h⟩)
 ·exact .inr h
theorem pB{n:Nat}(h:n<=1000000):n<=Ba:=by rw[Fn]; omega
theorem aQ(a b:Int)(h:0<b):0<=a % b/\a % b<b:=⟨Int.emod_nonneg _ (by omega),Int.emod_lt_of_pos _ h⟩
def Eg(h:Int)(ns:List Int):Prop:=ns.Pairwise (· < ·)/\∀x∈ns,0<=x/\x<h
theorem Eg.nil(h:Int):Eg h []:=⟨Es,λx a=>by cases a⟩
theorem Eg.more{h:Int}{ns:List Int}(r:Eg h ns)(f:0<=h):Eg (h+1) (ns++[h]) :=
 ⟨Bs.mpr ⟨r.1,En _ _,λa d b c=>by rw[Aj.mp c]; exact (r.2 a d).2⟩,λx e=>by
  rcases Ar.mp e with z | z
  ·have:=r.2 x z; omega
  ·have:=Aj.mp z; omega⟩
theorem Eg.up{h h':Int}{ns:List Int}(r:Eg h ns)(l:h<=h'):Eg h' ns:=⟨r.1,λx a=>by have:=r.2 x a; omega⟩
def Wu(H:Hp)(d:Addr)(c k:Int)(f:Bool):Prop:=H d=some (.lst [.int c,.int k,.bl f])
def vG:Sp:=λvs H Q _=>∃c:Int,vs=[.int c]/\∀(p:Addr) (f:Bool) (a:Hp),H p=none->Wu a p c 0 f->Lu H a->Q (.ref p) a
def M1:Sp:=λvs H Q _=>∃(d:Addr) (c k:Int) (f:Bool),vs=[.ref d]/\Wu H d c k f/\0<=k/\k<=1000000/\∀(r b:Int) (a:Hp),Wu a d b (k+1) f->Ui d H a->Q (.int r) a
def Dc(ns:List Int):Ad:=.tuple (ns.map Bz)
theorem dN(ns:List Int):(Dc ns).depth<=1:=by
 have : (Dc ns).depth<=Bl (ns.map Bz)+1:=by simp [Dc,Cu]
 rw[pV] at this
 exact this
def HG:List Int:=(Ci 60).map λi:Nat=>(i:Int)
theorem kP{x:Int}(b:0<=x)(a:x<60):x∈HG:=Fb.mpr ⟨x.toNat,Kj.mpr (by omega),by omega⟩
theorem gS:∀{l1 l2:List Int},l1.Pairwise (· < ·)->l2.Pairwise (· < ·)->(∀x,x∈l1↔x∈l2)->l1=l2
 | [],[],_,_,_=>rfl
 | [],b::l,_,_,h=>by have:=(h b).mpr Ab; cases this
 | a::l,[],_,_,h=>by have:=(h a).mp Ab; cases this
 | a::l1,b::l2,p1,p2,h=>by
  obtain ⟨d,g⟩:=Ax.mp p1
  obtain ⟨f,i⟩:=Ax.mp p2
  have e:a=b:=by
   rcases Ai.mp ((h a).mp Ab) with z | z
   ·exact z
   ·rcases Ai.mp ((h b).mpr Ab) with y | y
    ·exact y.symm
    ·have:=d b y; have:=f a z; omega
  subst e
  rw[gS g i λx=>⟨λc=>?_,λc=>?_⟩]
  ·rcases Ai.mp ((h x).mp (Ah _ c)) with z | z
   ·have:=d x c; omega
   ·exact z
  ·rcases Ai.mp ((h x).mpr (Ah _ c)) with z | z
   ·have:=f x c; omega
   ·exact z
theorem tZ{ns:List Int}(r:Eg 60 ns):NdS.Among HG ns:=λx a=>kP (r.2 x a).1 (r.2 x a).2
def AC(K:PySem.W.Frag):Sp:=λvs H Q _=>∃(a b:Addr) (f d:List Int),vs=[.ref a,.ref b]/\Tr K H a (f.map V.int)/\Tr K H b (d.map V.int)/\Eg 60 f/\Eg 60 d /\
 ∀(r:Addr) (c:List Int) (e:Hp),H r=none->e r=some (.tup (c.map V.int))->c.Nodup->c.Pairwise (·<=·)->(∀x,x∈c↔x∈f++d)->Lu H e->Q (.ref r) e
def order{c:Type}(a b:c)(l:List c):Option Bool->List c
 | none=>l
 | some true=>[a,b]
 | some false=>[b,a]
abbrev X6(K:PySem.W.Frag):List V->Hp->VK->Prop:=λb H Q=>∃p a,b=[V.ref p]/\(Ua K H p a\/Tr K H p a)/\∀l,H l=none->Q (.ref l) (upd H l (.lst a))
theorem kU{X:Cx}:Na X (.type "list") (X6 X.K):=iU
abbrev AH(K:PySem.W.Frag):List V->Hp->VK->Prop:=λb H Q=>∃p a,b=[V.ref p]/\((Ua K H p a/\∀l,H l=none->Q (.ref l) (upd H l (.tup a)))\/(Tr K H p a/\Q (.ref p) H))
theorem yX{X:Cx}:Na X (.type "tuple") (AH X.K):=Uh
end Nd
namespace DL
open PySem L2 Nd
def KL(K:PySem.W.Frag)(H:Hp)(a:Addr)(xs:List V):Prop :=
 (∃o,H a=some (.frz o (.lst xs)))\/∃(b:Array Value) (n:Nat),K.lookup a=some { cls:=.type "list",data:=.seq b n }/\b.size<=Ba/\Fj xs b.toList
def dM:Nat->Ad
 | 0=>.none
 | n+1=>.tuple [dM n]
def JU(a:List (List Int×Ad)):List (Ad×Ad):=(dM 100,.none)::a.map λp=>(Dc p.1,p.2)
def LL(a:List (Int×Ad)):List (Ad×Ad):=(dM 100,.bool true)::a.map λp=>(.int p.1,p.2)
def KN(a:Addr)(b:List (List Int×Ad)):List (Ad×Ad):=(dM 100,.int a)::b.map λp=>(Dc p.1,p.2)
def GV(w:List Int):List aM:=w.map Tt
mutual
inductive RdF (K:PySem.W.Frag) (H:Hp):V->Ad->List Addr->Prop
 | non:RdF K H .non .none []
 | bl (b:Bool):RdF K H (.bl b) (.bool b) []
 | int (i:Int):RdF K H (.int i) (.int i) []
 | str (x:Str):RdF K H (.str x) (.str x) []
 | lst {a:Addr} {xs:List V} {ds:List Ad} {F:List Addr}:H a=some (.lst xs)->ds.length<=Ba->RdFs K H xs ds F->RdF K H (.ref a) (.list ds) (a::F)
 | tup {a:Addr} {xs:List V} {ds:List Ad} {F:List Addr}:H a=some (.tup xs)->ds.length<=Ba->RdFs K H xs ds F->RdF K H (.ref a) (.tuple ds) F
 | dic {a:Addr} {kv:List (List aM×V)} {ks:List (List Int×Ad)}:H a=some (.dT kv)->kv.map (·.1)=ks.map (λp=>GV p.1)->RdFs K H (kv.map (·.2)) (ks.map (·.2)) []->RdF K H (.ref a) (.dict (JU ks)) [a]
 | dik {a:Addr} {kv:List (aM×V)} {ks:List (Int×Ad)}:H a=some (.dK kv)->kv.map (·.1)=ks.map (λp=>(Tt p.1:aM))->RdFs K H (kv.map (·.2)) (ks.map (·.2)) []->RdF K H (.ref a) (.dict (LL ks)) [a]
 | dnm {a:Addr} {kv:List (List aM×V)} {ks:List (List Int×Ad)}:H a=some (.dT kv)->kv.map (·.1)=ks.map (λp=>GV p.1)->RdFs K H (kv.map (·.2)) (ks.map (·.2)) []->RdF K H (.ref a) (.dict (KN a ks)) [a]
inductive RdFs (K:PySem.W.Frag) (H:Hp):List V->List Ad->List Addr->Prop
 | nil:RdFs K H [] [] []
 | cons {x:V} {d:Ad} {xs:List V} {ds:List Ad} {F G:List Addr}:RdF K H x d F->RdFs K H xs ds G->RdFs K H (x::xs) (d::ds) (F++G)
end
def MB(o:HO):Prop:=(∃a,o=.tup a)\/∃b u,o=.frz b u
def Kp(F:List Addr)(H H':Hp):Prop:=∀b o,H b=some o->(b∈F\/MB o)->H' b=some o
theorem Kp.of{F:List Addr}{H H':Hp}(s:Lu H H'):Kp F H H':=λb o e _=>s b o e
theorem Kp.sub{F G:List Addr}{H H':Hp}(k:Kp F H H')(h:∀a∈G,a∈F):Kp G H H':=λb o e z=>k b o e (z.imp (h b) id)
section
variable{K:PySem.W.Frag}{H H':Hp}
theorem KL.kp{a:Addr}{xs:List V}{F:List Addr}(h:KL K H a xs)(k:Kp F H H'):KL K H' a xs:=by
 rcases h with ⟨o,h⟩ | h
 ·exact .inl ⟨o,k _ _ h (.inr (.inr ⟨_,_,rfl⟩))⟩
 ·exact .inr h
theorem KL.sq{a:Addr}{xs:List V}(h:KL K H a xs):Ua K H a xs:=by
 rcases h with ⟨o,h⟩ | ⟨b,n,h,c,r⟩
 ·exact .inl (.inr ⟨o,h⟩)
 ·exact .inr ⟨_,b,n,h,rfl,rfl,rfl,c,r⟩
mutual
theorem RdF.kp:∀{v:V} {d:Ad} {F:List Addr},RdF K H v d F->Kp F H H'->RdF K H' v d F
 | _,_,_,.non,_=>.non
 | _,_,_,.bl b,_=>.bl b
 | _,_,_,.int i,_=>.int i
 | _,_,_,.str x,_=>.str x
 | _,_,_,.lst h l hs,k=>.lst (k _ _ h (.inl Ab)) l (RdFs.kp hs (k.sub λ_ z=>Ah _ z))
 | _,_,_,.tup h l hs,k=>.tup (k _ _ h (.inr (.inl ⟨_,rfl⟩))) l (RdFs.kp hs k)
 | _,_,_,.dic h e hs,k=>.dic (k _ _ h (.inl Ab)) e (RdFs.kp hs (k.sub λ_ z=>nomatch z))
 | _,_,_,.dik h e hs,k=>.dik (k _ _ h (.inl Ab)) e (RdFs.kp hs (k.sub λ_ z=>nomatch z))
 | _,_,_,.dnm h e hs,k=>.dnm (k _ _ h (.inl Ab)) e (RdFs.kp hs (k.sub λ_ z=>nomatch z))
theorem RdFs.kp:∀{v:List V} {d:List Ad} {F:List Addr},RdFs K H v d F->Kp F H H'->RdFs K H' v d F
 | _,_,_,.nil,_=>.nil
 | _,_,_,.cons h hs,k=>.cons (RdF.kp h (k.sub λ_ z=>Ae _ z)) (RdFs.kp hs (k.sub λ_ z=>Ag _ z))
end
theorem Ot:∀n,(dM n).depth=n
 | 0=>by simp [dM,Cu]
 | n+1=>by
  have:=Ot n
  simp only[dM,Cu,Bl,this]
  omega
theorem G6{a:List (Int×Ad)}:100<=(PyData.dict (LL a)).depth:=by
 have:=Ot 100
 simp only[LL,Cu,PyData.depthKv,this]
 omega
theorem zZ{a:Addr}{b:List (List Int×Ad)}:100<=(PyData.dict (KN a b)).depth:=by
 have:=Ot 100
 simp only[KN,Cu,PyData.depthKv,this]
 omega
theorem L0{a:List (List Int×Ad)}:100<=(PyData.dict (JU a)).depth:=by
 have:=Ot 100
 simp only[JU,Cu,PyData.depthKv,this]
 omega
mutual
theorem RdF.rd:∀{v:V} {d:Ad} {F:List Addr},RdF K H v d F->d.depth<=90->RdV K H v d
 | _,_,_,.non,_=>.non
 | _,_,_,.bl b,_=>.bl b
 | _,_,_,.int i,_=>.int i
 | _,_,_,.str x,_=>.str x
 | _,_,_,.lst h l hs,z=>.lst (Ua.of h) (RdFs.rd hs (by simp only[Cu] at z; omega))
 | _,_,_,.tup h l hs,z=>.tup (Tr.of h) (RdFs.rd hs (by simp only[Cu] at z; omega))
 | _,_,_,.dic h e hs,z=>absurd (Bw L0 z) (by decide)
 | _,_,_,.dik h e hs,z=>absurd (Bw G6 z) (by decide)
 | _,_,_,.dnm h e hs,z=>absurd (Bw zZ z) (by decide)
theorem RdFs.rd:∀{v:List V} {d:List Ad} {F:List Addr},RdFs K H v d F->Bl d<=90->RdVs K H v d
 | _,_,_,.nil,_=>.nil
 | _,_,_,.cons h hs,z=>.cons (RdF.rd h (by simp only[Bl] at z; omega)) (RdFs.rd hs (by simp only[Bl] at z; omega))
end
mutual
theorem RdF.dom:∀{v:V} {d:Ad} {F:List Addr},RdF K H v d F->∀a∈F,∃o,H a=some o
 | _,_,_,.non,_,z=>nomatch z
 | _,_,_,.bl b,_,z=>nomatch z
 | _,_,_,.int i,_,z=>nomatch z
 | _,_,_,.str x,_,z=>nomatch z
 | _,_,_,.lst h l hs,b,z=>by
  rcases Ai.mp z with rfl | z
  ·exact ⟨_,h⟩
  ·exact RdFs.dom hs b z
 | _,_,_,.tup h l hs,b,z=>RdFs.dom hs b z
 | _,_,_,.dic h e hs,b,z=>⟨_,Aj.mp z▸h⟩
 | _,_,_,.dik h e hs,b,z=>⟨_,Aj.mp z▸h⟩
 | _,_,_,.dnm h e hs,b,z=>⟨_,Aj.mp z▸h⟩
theorem RdFs.dom:∀{v:List V} {d:List Ad} {F:List Addr},RdFs K H v d F->∀a∈F,∃o,H a=some o
 | _,_,_,.nil,_,z=>nomatch z
 | _,_,_,.cons h hs,b,z=>by
  rcases Ar.mp z with z | z
  ·exact RdF.dom h b z
  ·exact RdFs.dom hs b z
end
theorem RdFs.len:∀{v:List V} {d:List Ad} {F:List Addr},RdFs K H v d F->v.length=d.length
 | _,_,_,.nil=>rfl
 | _,_,_,.cons _ t=>by rw[Bp,Bp,RdFs.len t]
theorem RdFs.get:∀{v:List V} {d:List Ad} {F:List Addr} {i:Nat} {e:Ad},RdFs K H v d F->d[i]? = some e->∃x G,v[i]? = some x/\RdF K H x e G/\G.Sublist F
 | _,_,_,_,_,.nil,z=>by simp at z
 | _,_,_,0,_,.cons h _,z=>by
  simp at z
  subst z
  exact ⟨_,_,rfl,h,Ie _ _⟩
 | _,_,_,i+1,e,.cons _ t,z=>by
  obtain ⟨x,G,a,b,c⟩:=RdFs.get (i:=i) (e:=e) t (by simpa using z)
  exact ⟨x,G,by simpa using a,b,c.trans (Bv _ _)⟩
theorem RdFs.app:∀{v w:List V} {d e:List Ad} {F G:List Addr},RdFs K H v d F->RdFs K H w e G->RdFs K H (v++w) (d++e) (F++G)
 | _,_,_,_,_,_,.nil,h=>h
 | _,_,_,_,_,_,.cons a t,h=>by
  rw[Az]
  exact .cons a (RdFs.app t h)
theorem RdFs.snoc{v:List V}{d:List Ad}{F G:List Addr}{x:V}{e:Ad}(t:RdFs K H v d F)(h:RdF K H x e G):RdFs K H (v++[x]) (d++[e]) (F++G):=by
 have:=t.app (.cons h .nil)
 rw[Bo] at this
 exact this
end
mutual
def imm:Ad->Bool
 | .list _=>false
 | .dict _=>false
 | .tuple a=>Eb a
 | _=>true
def Eb:List Ad->Bool
 | []=>true
 | x::xs=>imm x && Eb xs
end
theorem qL:∀{xs:List Ad},Eb xs=true↔∀x∈xs,imm x=true
 | []=>by simp [Eb]
 | x::xs=>by simp [Eb,qL (xs:=xs)]
theorem Rl{b:Type}{f:b->Ad}(h:∀a,imm (f a)=true)(l:List b):Eb (l.map f)=true:=qL.mpr λx c=>by
 obtain ⟨a,_,rfl⟩:=Fb.mp c
 exact h a
theorem mH(ns:List Int):imm (Dc ns)=true:=by
 unfold Dc
 rw[imm]
 exact Rl (λ_=>by simp [imm]) ns
section
variable{K:PySem.W.Frag}{H H':Hp}
mutual
theorem RdF.imm:∀{v:V} {d:Ad} {F:List Addr},RdF K H v d F->DL.imm d=true->F=[]
 | _,_,_,.non,_=>rfl
 | _,_,_,.bl b,_=>rfl
 | _,_,_,.int i,_=>rfl
 | _,_,_,.str x,_=>rfl
 | _,_,_,.lst h l hs,k=>by simp [DL.imm] at k
 | _,_,_,.tup h l hs,k=>RdFs.imm hs (by simpa [DL.imm] using k)
 | _,_,_,.dic h e hs,k=>by simp [DL.imm] at k
 | _,_,_,.dik h e hs,k=>by simp [DL.imm] at k
 | _,_,_,.dnm h e hs,k=>by simp [DL.imm] at k
theorem RdFs.imm:∀{v:List V} {d:List Ad} {F:List Addr},RdFs K H v d F->Eb d=true->F=[]
 | _,_,_,.nil,_=>rfl
 | _,_,_,.cons h hs,k=>by
  rw[Eb,Cz] at k
  rw[RdF.imm h k.1,RdFs.imm hs k.2]
  rfl
end
end
structure Kind where
 a:Addr
 c:Nat
 fl:Str->Option Ad
 P:PySem.W.Frag->Hp->List Addr->Prop
 kp:∀{K:PySem.W.Frag} {H H':Hp} {F:List Addr},P K H F->Kp F H H'->P K H' F
 dom:∀{K:PySem.W.Frag} {H:Hp} {F:List Addr},P K H F->∀b∈F,∃o,H b=some o
 ns:∀{K:PySem.W.Frag} {H:Hp} {F:List Addr},P K H F->∀b∈F.take c,∀o,H b=some o->¬ MB o
 nd:∀{K:PySem.W.Frag} {H:Hp} {F:List Addr} {dr:Addr} {c k:Int} {f:Bool},P K H F->Wu H dr c k f->dr∉F
inductive Md where
 | pk | sh | tp | ow
 deriving DecidableEq
inductive DV where
 | un
 | dat (m:Md) (d:Ad)
 | drw
 | dT (kvs:List (List aM×Ad))
 | val (v:V)
 | scr (ns:List Int)
 | acc (ds:List Ad)
 | grd (Hc:Hp)
 | tpl (xs:List V)
 | obj (κ:Kind)
structure DS where
 sl:List DV
 n:Nat
structure Ent where
 v:Option V
 x:DV
 F:List Addr
def Lr:DV->Bool
 | .dat .pk _=>true
 | _=>false
def Px:DV->Bool
 | .drw=>true
 | _=>false
def O1:DV->Bool
 | .drw=>true
 | .acc _=>true
 | .dT _=>true
 | .grd _=>true
 | .obj _=>true
 | _=>false
def cells(e:Ent):List Addr:=match e.x with
 | .dat .ow _=>e.F
 | .dat .tp _=>e.F.take 1
 | .drw=>e.F
 | .dT _=>e.F
 | .acc _=>e.F.take 1
 | .grd _=>e.F
 | .obj a=>e.F.take a.c
 | _=>[]
theorem Dm(e:Ent):∀a∈cells e,a∈e.F:=by
 obtain ⟨v,x,F⟩:=e
 intro a h
 cases x with
 | un=>exact nomatch h
 | val _=>exact nomatch h
 | scr _=>exact nomatch h
 | drw=>exact h
 | dT _=>exact h
 | grd _=>exact h
 | tpl _=>exact nomatch h
 | acc _=>exact (Dr _ _).subset h
 | obj _=>exact (Dr _ _).subset h
 | dat m d =>
  cases m with
  | pk=>exact nomatch h
  | sh=>exact nomatch h
  | tp=>exact (Dr _ _).subset h
  | ow=>exact h
def Nq(e f:Ent):Prop:=((Lr f.x=false\/O1 e.x=true)->∀a∈cells e,a∉f.F)/\((Lr e.x=false\/O1 f.x=true)->∀a∈cells f,a∉e.F)
theorem Nq.symm{e f:Ent}(h:Nq e f):Nq f e:=⟨h.2,h.1⟩
def Fx(K:PySem.W.Frag)(H:Hp)(n:Nat)(e:Ent):Prop:=match e.x with
 | .un=>e.F=[]
 | .dat m d=>∃v,e.v=some v/\RdF K H v d e.F/\(m=.ow->e.F.Nodup)/\(m=.tp->∀a l,e.F=a::l->a∉l)
 | .drw=>∃i c k f,e.v=some (.ref i)/\e.F=[i]/\Wu H i c k f/\0<=k/\k<=(n:Int)
 | .dT b=>∃a h,e.v=some (.ref a)/\e.F=[a]/\H a=some (.dT h)/\h.map (·.1)=b.map (·.1)/\RdFs K H (h.map (·.2)) (b.map (·.2)) []
 | .val v=>e.v=some v/\e.F=[]
 | .scr q=>∃a,e.v=some (.ref a)/\e.F=[]/\KL K H a (q.map V.int)/\q.length<=63
 | .acc p=>∃a g G,e.v=some (.ref a)/\e.F=a::G/\H a=some (.lst g)/\RdFs K H g p G/\p.length<=Ba/\a∉G
 | .grd r=>∀a∈e.F,∃o,r a=some o/\H a=some o
 | .tpl g=>∃t,e.v=some (.ref t)/\H t=some (.tup g)/\e.F=[]
 | .obj j=>e.v=some (.ref j.a)/\j.P K H e.F
structure At(K:PySem.W.Frag)(H0:Hp)(X:Addr->Prop)(n:Nat)(E:List Ent)(H:Hp):Prop where
 ok:∀e∈E,Fx K H n e
 sep:E.Pairwise Nq
 new:∀e∈E,∀a∈cells e,H0 a=none\/(X a/\Px e.x=true)
 same:∀b o,¬ X b->H0 b=some o->H b=some o
 dom:∀b o,H0 b=some o->∃o',H b=some o'
 xd:∀b,X b->H0 b≠none/\∃c k f,Wu H b c k f/\0<=k/\k<=(n:Int)
section
variable{K:PySem.W.Frag}{H0 H H':Hp}{X:Addr->Prop}{n n':Nat}{E E' S T:List Ent}{e f:Ent}
theorem At.perm(h:At K H0 X n E H)(p:E.Perm E'):At K H0 X n E' H :=
 ⟨λe c=>h.ok e (p.mem_iff.mpr c),(p.pairwise_iff λ{a b}=>Nq.symm).mp h.sep,λe c=>h.new e (p.mem_iff.mpr c),h.same,h.dom,h.xd⟩
theorem At.sub(h:At K H0 X n E H)(p:E'.Sublist E):At K H0 X n E' H :=
 ⟨λe a=>h.ok e (p.subset a),h.sep.sublist p,λe a=>h.new e (p.subset a),h.same,h.dom,h.xd⟩
theorem At.drop(h:At K H0 X n (S++e::T) H):At K H0 X n (S++T) H:=h.sub ((Bm S).append (Dj _ _))
theorem yV:(S++e::T).Perm (e::(S++T)):=Cy
theorem At.mid(h:At K H0 X n (S++e::T) H):At K H0 X n (e::(S++T)) H:=h.perm yV
theorem At.tomid(h:At K H0 X n (e::(S++T)) H):At K H0 X n (S++e::T) H:=h.perm yV.symm
theorem Fx.dom(h:Fx K H n e):∀a∈e.F,∃o,H a=some o:=by
 obtain ⟨v,x,F⟩:=e
 intro a ha
 cases x with
 | un=>rw[show F=[] from h] at ha; cases ha
 | val _=>rw[show F=[] from h.2] at ha; cases ha
 | scr _ =>
  obtain ⟨_,_,g,_⟩:=h
  rw[show F=[] from g] at ha; cases ha
 | dat m d =>
  obtain ⟨w,_,h,_⟩:=h
  obtain ⟨i,z⟩:=h.dom a ha
  exact ⟨_,z⟩
 | drw =>
  obtain ⟨r,c,k,f,_,g,h,_⟩:=h
  rw[show F=[r] from g] at ha
  rw[Aj.mp ha]
  exact ⟨_,h⟩
 | grd t =>
  obtain ⟨o,_,z⟩:=h a ha
  exact ⟨o,z⟩
 | tpl i =>
  obtain ⟨_,_,_,g⟩:=h
  rw[show F=[] from g] at ha; cases ha
 | obj j=>exact j.dom h.2 a ha
 | dT p =>
  obtain ⟨b,l,_,g,h,_⟩:=h
  rw[show F=[b] from g] at ha
  rw[Aj.mp ha]
  exact ⟨_,h⟩
 | acc s =>
  obtain ⟨b,l,G,_,g,h,q,_⟩:=h
  rw[show F=b::G from g] at ha
  rcases Ai.mp ha with rfl | ha
  ·exact ⟨_,h⟩
  ·obtain ⟨i,z⟩:=q.dom a ha
   exact ⟨_,z⟩
theorem Fx.kp(h:Fx K H n e)(k:Kp e.F H H')(E:n<=n'):Fx K H' n' e:=by
 obtain ⟨v,x,F⟩:=e
 cases x with
 | un=>exact h
 | val _=>exact h
 | scr _ =>
  obtain ⟨a,g,i,j,p⟩:=h
  exact ⟨a,g,i,j.kp k,p⟩
 | dat m d =>
  obtain ⟨w,g,i,j⟩:=h
  exact ⟨w,g,i.kp k,j⟩
 | drw =>
  obtain ⟨u,c,B,f,g,q,i,j,p⟩:=h
  have l:F=[u]:=q
  subst l
  exact ⟨u,c,B,f,g,rfl,k _ _ i (.inl Ab),j,by omega⟩
 | tpl C =>
  obtain ⟨t,g,i,j⟩:=h
  exact ⟨t,g,k _ _ i (.inr (.inl ⟨_,rfl⟩)),j⟩
 | grd I =>
  intro a s
  obtain ⟨o,g,i⟩:=h a s
  exact ⟨o,g,k _ _ i (.inl s)⟩
 | obj y=>exact ⟨h.1,y.kp h.2 k⟩
 | dT A =>
  obtain ⟨b,r,g,q,i,j,p⟩:=h
  have l:F=[b]:=q
  subst l
  exact ⟨b,r,g,rfl,k _ _ i (.inl Ab),j,p.kp (k.sub λ_ z=>nomatch z)⟩
 | acc D =>
  obtain ⟨b,r,G,g,q,i,j,p⟩:=h
  have l:F=b::G:=q
  subst l
  exact ⟨b,r,G,g,rfl,k _ _ i (.inl Ab),j.kp (k.sub λ_ z=>Ah _ z),p⟩
theorem At.grow(h:At K H0 X n E H)(s:Lu H H')(a:n<=n'):At K H0 X n' E H' :=
 ⟨λe d=>(h.ok e d).kp (Kp.of s) a,h.sep,h.new,λb o g e=>s _ _ (h.same b o g e),λb o e=>let ⟨o',q⟩:=h.dom b o e; ⟨o',s _ _ q⟩,λb i=>let ⟨z,c,k,f,h1,h2,h3⟩:=h.xd b i; ⟨z,c,k,f,s _ _ h1,h2,by omega⟩⟩
theorem At.free(h:At K H0 X n E H){a:Addr}(c:H a=none):∀e∈E,a∉e.F:=λe b z=>by
 obtain ⟨o,q⟩:=(h.ok e b).dom a z
 rw[c] at q; cases q
theorem At.push(h:At K H0 X n E H)(ok:Fx K H n e)(b:∀f∈E,Nq e f)(new:∀a∈cells e,H0 a=none\/(X a/\Px e.x=true)):At K H0 X n (e::E) H :=
 ⟨λg hg=>by
  rcases Ai.mp hg with rfl | hg
  ·exact ok
  ·exact h.ok g hg,Ax.mpr ⟨b,h.sep⟩,λg hg=>by
  rcases Ai.mp hg with rfl | hg
  ·exact new
  ·exact h.new g hg,h.same,h.dom,h.xd⟩
theorem At.new0(h:At K H0 X n E H){p:Addr}(a:H p=none):H0 p=none:=by
 cases q:H0 p with
 | none=>rfl
 | some o =>
  obtain ⟨b,z⟩:=h.dom p o q
  rw[a] at z; cases z
theorem P8{v:Option V}{m:Md}{d:Ad}:Nq ⟨v,.dat m d,[]⟩ f:=by
 refine ⟨λ_ a b=>?_,λ_ a _=>Bc⟩
 have:=Dm _ a b
 cases this
theorem At.pushI(h:At K H0 X n (S++T) H){v:V}{m:Md}{d:Ad}(r:RdF K H v d []):At K H0 X n (S++⟨some v,.dat m d,[]⟩::T) H :=
 (h.push (e:=⟨some v,.dat m d,[]⟩) ⟨v,rfl,r,λ_=>Fw,λ_ a l z=>nomatch z⟩ (λf _=>P8) (λa b=>nomatch Dm _ a b)).tomid
def wk:Md->Md->Bool
 | _,.pk=>true
 | .pk,_=>false
 | _,.sh=>true
 | .sh,_=>false
 | _,.tp=>true
 | .tp,.ow=>false
 | .ow,.ow=>true
theorem oI{v:Option V}{m b:Md}{d:Ad}{F:List Addr}(w:wk m b=true):∀a∈cells ⟨v,.dat b d,F⟩,a∈cells ⟨v,.dat m d,F⟩:=by
 intro a c
 cases m <;> cases b <;> first | exact absurd w (by decide) | exact c | exact absurd c Bc | exact (Dr 1 F).subset c
theorem wI{b:Type}{F:List b}(h:F.Nodup):∀a l,F=a::l->a∉l:=λa l e=>by
 subst e
 exact (Da.mp h).1
theorem Fx.wk{v:Option V}{m a:Md}{d:Ad}{F:List Addr}(w:wk m a=true)(h:Fx K H n ⟨v,.dat m d,F⟩):Fx K H n ⟨v,.dat a d,F⟩:=by
 obtain ⟨u,c,f,b,g⟩:=h
 refine ⟨u,c,f,λe=>?_,λe=>?_⟩
 ·subst e
  cases m <;> first | exact absurd w (by decide) | exact b rfl
 ·subst e
  cases m <;> first | exact absurd w (by decide) | exact g rfl | exact wI (b rfl)
theorem Nq.wk{v:Option V}{m c:Md}{d:Ad}{F:List Addr}(w:wk m c=true)(h:Nq ⟨v,.dat m d,F⟩ f):Nq ⟨v,.dat c d,F⟩ f:=by
 refine ⟨λhp a b=>?_,λhp a b=>?_⟩
 ·rcases hp with hp | hp
  ·exact h.1 (.inl hp) a (oI w a b)
  ·cases hp
 ·rcases hp with hp | hp
  ·refine h.2 (.inl ?_) a b
   cases m <;> cases c <;> first | rfl | exact absurd w (by decide) | exact absurd hp (by show ¬ (true=false); decide)
  ·exact h.2 (.inr hp) a b
theorem At.wk{v:Option V}{m b:Md}{d:Ad}{F:List Addr}(w:wk m b=true)(h:At K H0 X n (⟨v,.dat m d,F⟩::E) H):At K H0 X n (⟨v,.dat b d,F⟩::E) H:=by
 have e:=Ax.mp h.sep
 refine (h.sub (Dj _ _)).push ((h.ok _ Ab).wk w) (λf c=>(e.1 f c).wk w) λa g=>?_
 rcases h.new _ Ab a (oI w a g) with z | z
 ·exact .inl z
 ·cases z.2
end
abbrev DE:=DS->(DV->DS->Prop)->Prop
abbrev DT:=DS->(Bool->DS->Prop)->Prop
abbrev DA:=DS->(List DV->DS->Prop)->Prop
structure DEnds where
 nx:DS->Prop
 rt:DV->DS->Prop
 bk:DS->Prop:=λ_=>False
 ct:DS->Prop:=λ_=>False
abbrev DB:=DEnds->DS->Prop
abbrev DG:=DV->DS->(DS->Prop)->Prop
abbrev wF:=List DV->DS->(DS->Prop)->Prop
def vs(S:List Ent):L2.St:=S.map Ent.v
def Sl(S:List Ent)(a:DS):Prop:=S.map Ent.x=a.sl
section
variable(K:PySem.W.Frag)
def LE(g:DE):TE:=λe H Q=>∃(d:Hp) (X:Addr->Prop) (S T:List Ent) (c:DS) (P:DV->DS->Prop),vs S=e/\Sl S c/\At K d X c.n (S++T) H/\g c P /\
 ∀x a v F b f,vs b=e->Sl b a->At K d X a.n (b++⟨some v,x,F⟩::T) f->P x a->Q v f
def LT(dt:DT):TT:=λf H Q=>∃(e:Hp) (X:Addr->Prop) (S T:List Ent) (d:DS) (P:Bool->DS->Prop),vs S=f/\Sl S d/\At K e X d.n (S++T) H/\dt d P /\
 ∀b a c g,vs c=f->Sl c a->At K e X a.n (c++T) g->P b a->Q b g
def LA(j:DA):TA:=λg H Q=>∃(f:Hp) (X:Addr->Prop) (S T:List Ent) (d:DS) (P:List DV->DS->Prop),vs S=g/\Sl S d/\At K f X d.n (S++T) H/\j d P /\
 ∀e a b h c i,vs c=g->Sl c a->b.map Ent.x=e->b.map Ent.v=h.map some->At K f X a.n (c++(b++T)) i->P e a->Q h i
def LS(db:DB):TS:=λD g H=>∃(d:Hp) (X:Addr->Prop) (S T:List Ent) (f:DS) (P:DEnds),vs S=g/\Sl S f/\(∀e∈T,Lr e.x=false)/\At K d X f.n (S++T) H/\db P f /\
 (∀a b c,Sl b a->At K d X a.n (b++T) c->P.nx a->D.nx (vs b) c) /\
 (∀x a v F b c,Sl b a->At K d X a.n (b++⟨some v,x,F⟩::T) c->P.rt x a->D.rt v c) /\
 (∀a b c,Sl b a->At K d X a.n (b++T) c->P.bk a->D.bk (vs b) c) /\
 (∀a b c,Sl b a->At K d X a.n (b++T) c->P.ct a->D.ct (vs b) c)
def LG(g:DG):TG:=λv f H Q=>∃(d:Hp) (X:Addr->Prop) (S T:List Ent) (c:DS) (x:DV) (F:List Addr) (P:DS->Prop),vs S=f/\Sl S c/\At K d X c.n (S++⟨some v,x,F⟩::T) H/\g x c P /\
 ∀a b e,Sl b a->At K d X a.n (b++T) e->P a->Q (vs b) e
def NF(h:wF):d0:=λi g H Q=>∃(e:Hp) (X:Addr->Prop) (S T b:List Ent) (d:DS) (P:DS->Prop),vs S=g/\Sl S d/\b.map Ent.v=i.map some/\At K e X d.n (S++(b++T)) H/\h (b.map Ent.x) d P /\
 ∀a c f,Sl c a->At K e X a.n (c++T) f->P a->Q (vs c) f
end
abbrev Fg(X:Cx)(e:Expr)(a:DE):Prop:=PE X e (LE X.K a)
abbrev fH(X:Cx)(e:Expr)(dt:DT):Prop:=PT X e (LT X.K dt)
abbrev JH(X:Cx)(e:Expr)(dt:DT):Prop:=PW X e (LT X.K dt)
abbrev Wb(X:Cx)(es:List Expr)(a:DA):Prop:=PA X es (LA X.K a)
abbrev oV(X:Cx)(st:Stmt)(db:DB):Prop:=PS X st (LS X.K db)
abbrev Uq(X:Cx)(st:List Stmt)(db:DB):Prop:=Uo X st (LS X.K db)
abbrev Y2(X:Cx)(a:Expr)(b:DG):Prop:=PG X a (LG X.K b)
abbrev w4(X:Cx)(a:List Expr)(b:wF):Prop:=AA X a (NF X.K b)
theorem PE.imp{X:Cx}{e:Expr}{t t':TE}(h:PE X e t)(k:∀b H Q,t' b H Q->t b H Q):PE X e t':=λa s b H Q I q=>h a s b H Q I (k b H Q q)
theorem PT.imp{X:Cx}{e:Expr}{t t':TT}(h:PT X e t)(k:∀b H Q,t' b H Q->t b H Q):PT X e t':=λa s b H Q I q=>h a s b H Q I (k b H Q q)
theorem PW.imp{X:Cx}{e:Expr}{t t':TT}(h:PW X e t)(k:∀b H Q,t' b H Q->t b H Q):PW X e t':=λc a s b H Q I q=>h c a s b H Q I (k b H Q q)
theorem PA.imp{X:Cx}{e:List Expr}{t t':TA}(h:PA X e t)(k:∀b H Q,t' b H Q->t b H Q):PA X e t':=λc a s b H Q I q=>h c a s b H Q I (k b H Q q)
theorem PG.imp{X:Cx}{e:Expr}{t t':TG}(h:PG X e t)(k:∀v b H Q,t' v b H Q->t v b H Q):PG X e t':=λa s b H v u Q I r q=>h a s b H v u Q I r (k v b H Q q)
theorem AA.imp{X:Cx}{e:List Expr}{t t':d0}(h:AA X e t)(k:∀v b H Q,t' v b H Q->t v b H Q):AA X e t':=λa s b H v u Q I r q=>h a s b H v u Q I r (k v b H Q q)
section
variable{K:PySem.W.Frag}{H:Hp}{v:V}{F:List Addr}
theorem RdF.int_inv{i:Int}(h:RdF K H v (.int i) F):v=.int i/\F=[]:=by cases h; exact ⟨rfl,rfl⟩
theorem RdF.bl_inv{i:Bool}(h:RdF K H v (.bool i) F):v=.bl i/\F=[]:=by cases h; exact ⟨rfl,rfl⟩
theorem RdF.str_inv{i:Str}(h:RdF K H v (.str i) F):v=.str i/\F=[]:=by cases h; exact ⟨rfl,rfl⟩
theorem RdF.non_inv(h:RdF K H v .none F):v=.non/\F=[]:=by cases h; exact ⟨rfl,rfl⟩
theorem RdF.list_inv{ds:List Ad}(h:RdF K H v (.list ds) F):∃a xs G,v=.ref a/\H a=some (.lst xs)/\RdFs K H xs ds G/\F=a::G/\ds.length<=Ba:=by
 cases h with
 | lst h l b=>exact ⟨_,_,_,rfl,h,b,rfl,l⟩
theorem RdF.tup_inv{ds:List Ad}(h:RdF K H v (.tuple ds) F):∃a xs,v=.ref a/\H a=some (.tup xs)/\RdFs K H xs ds F/\ds.length<=Ba:=by
 cases h with
 | tup h l b=>exact ⟨_,_,rfl,h,b,l⟩
end
section
variable{K:PySem.W.Frag}{H0 H H':Hp}{X:Addr->Prop}{n:Nat}{E S T:List Ent}{v:V}{m:Md}{d:Ad}{F:List Addr}
theorem At.told(h:At K H0 X n E H)(a:⟨some v,.dat m d,F⟩∈E):RdF K H v d F:=by
 obtain ⟨w,c,b,_⟩:=h.ok _ a
 cases c
 exact b
theorem mem_mid{e:Ent}:e∈S++e::T:=Ag _ Ab
theorem Gm{e f:Ent}:f∈S++e::f::T:=Ag _ (Ah _ Ab)
theorem At.drop2{e f:Ent}(h:At K H0 X n (S++e::f::T) H):At K H0 X n (S++T) H:=h.drop.drop
theorem At.dropL{As:List Ent}(h:At K H0 X n (S++(As++T)) H):At K H0 X n (S++T) H:=h.sub ((Bm S).append (Bv As T))
end
def iS:Md->Md
 | .ow=>.pk
 | .tp=>.pk
 | m=>m
def DU(i:Nat):DE:=λa P=>match a.sl[i]? with
 | some (.dat m d)=>P (.dat (iS m) d) a
 | _=>False
def dC(d:Ad):DE:=λa P=>P (.dat .ow d) a
theorem Hn{S:List Ent}{b:DS}{i:Nat}{x:DV}(h:Sl S b)(e:b.sl[i]? = some x):∃a,S[i]? = some a/\a.x=x:=by
 unfold Sl at h
 rw[<- h,Bu] at e
 cases q:S[i]? with
 | none=>rw[q] at e; cases e
 | some a=>rw[q] at e; exact ⟨a,rfl,Br e⟩
theorem Lv{S:List Ent}{i:Nat}{e:Ent}(h:S[i]? = some e):(vs S)[i]? = some e.v:=by
 unfold vs
 rw[Bu,h]
 rfl
theorem At.look{K:PySem.W.Frag}{H0 H:Hp}{X:Addr->Prop}{n:Nat}{S T:List Ent}{u:Option V}{v:V}{m:Md}{d:Ad}{F:List Addr}(h:At K H0 X n (S++T) H)(k:⟨u,.dat m d,F⟩∈S)(o:u=some v):At K H0 X n (S++⟨some v,.dat (iS m) d,F⟩::T) H:=by
 subst o
 obtain ⟨g,i,rfl⟩:=List.append_of_mem k
 have j:((g++⟨some v,.dat m d,F⟩::i)++T).Perm (⟨some v,.dat m d,F⟩::(g++(i++T))):=by
  rw[Az,Cd]
  exact Cy
 have c:=h.perm j
 have p:=Ax.mp c.sep
 refine (h.push (e:=⟨some v,.dat (iS m) d,F⟩) ?_ (λf hf=>?_) λa b=>?_).tomid
 ·obtain ⟨w,q,l,_⟩:=c.ok _ Ab
  refine ⟨w,q,l,λz=>?_,λz=>?_⟩ <;> cases m <;> cases z
 ·refine ⟨λ_ a b=>?_,λhq a b=>?_⟩
  ·cases m <;> exact nomatch b
  ·rcases Ai.mp (j.mem_iff.mp hf) with rfl | hf
   ·rcases hq with hq | hq
    ·cases m <;> first | cases hq; done | exact nomatch b
    ·cases hq
   ·refine (p.1 f hf).2 ?_ a b
    rcases hq with hq | hq
    ·refine .inl ?_
     cases m <;> first | rfl | exact hq
    ·exact .inr hq
 ·cases m <;> exact nomatch b
section
variable{X:Cx}{e:Expr}
theorem Ao{i:Nat}(h:PE X e (Kc i)):Fg X e (DU i):=by
 refine PE.imp h λr H Q h=>?_
 obtain ⟨q,Y,S,T,o,P,rfl,g,l,b,k⟩:=h
 unfold DU at b
 split at b
 ·rename_i m d p
  obtain ⟨a,c,n⟩:=Hn g p
  have f:a∈S:=Bf c
  obtain ⟨u,x,F⟩:=a
  subst n
  obtain ⟨v,j,_⟩:=l.ok _ (Ae _ f)
  refine ⟨v,by rw[Lv c]; exact congrArg some j,k _ o v F S H rfl g (l.look f j) b⟩
 ·exact b.elim
theorem Xi{v:V}{d:Ad}(h:PE X e (tC v))(r:∀H,RdF X.K H v d []):Fg X e (dC d):=by
 refine PE.imp h λi H Q h=>?_
 obtain ⟨g,Y,S,T,c,P,rfl,b,f,a,k⟩:=h
 exact k _ c v [] S H rfl b (f.pushI (r H)) a
theorem Bh{i j pos}:Fg X (.Constant (.int i) j pos) (dC (.int i)):=Xi Gi λ_=>.int i
theorem Zf{i j pos}:Fg X (.Constant (.bool i) j pos) (dC (.bool i)):=Xi GP λ_=>.bl i
theorem Er{i j pos}:Fg X (.Constant (.str i) j pos) (dC (.str i)):=Xi Xz λ_=>.str i
theorem Oe{j pos}:Fg X (.Constant .none j pos) (dC .none):=Xi pJ λ_=>.non
end
def GA(c:DE):DE:=λb P=>c b λx a=>match x with
 | .dat _ d=>imm d=true/\P (.dat .ow d) a
 | _=>False
theorem Ln{X:Cx}{e:Expr}{c:DE}(h:Fg X e c):Fg X e (GA c):=by
 refine PE.imp h λt H Q h=>?_
 obtain ⟨i,Y,S,T,n,P,rfl,l,s,j,k⟩:=h
 refine ⟨i,Y,S,T,n,_,rfl,l,s,j,λx b v F g q o f a p=>?_⟩
 cases x with
 | dat m d =>
  have r:=a.told mem_mid
  obtain rfl:=r.imm p.1
  exact k _ b v [] g q o f (a.drop.pushI r) p.2
 | _=>exact p.elim
def C8(i:Nat):DE:=λa P=>match a.sl[i]? with
 | some (.dat m d)=>P (.dat m d) ⟨a.sl.set i .un,a.n⟩
 | _=>False
theorem Ta{a:Type}:∀{l:List a} {i:Nat} {x y:a},l[i]? = some x->(y::l).Perm (x::l.set i y)
 | [],i,x,y,h=>by simp at h
 | z::l,0,x,y,h=>by
  simp at h
  subst h
  exact Dq _ _ _
 | z::l,i+1,x,y,h=>by
  have b:=Ta (l:=l) (i:=i) (x:=x) (y:=y) (by simpa using h)
  rw[List.set_cons_succ]
  exact (Dq z y l).trans ((b.cons z).trans (Dq x z _))
theorem jU{X:Cx}{e:Expr}{i:Nat}(h:PE X e (Kc i)):Fg X e (C8 i):=by
 refine PE.imp h λG H Q h=>?_
 obtain ⟨I,Y,S,T,B,P,rfl,q,s,g,k⟩:=h
 unfold C8 at g
 split at g
 ·rename_i m d w
  obtain ⟨c,b,t⟩:=Hn q w
  have A:c∈S:=Bf b
  obtain ⟨u,x,F⟩:=c
  subst t
  obtain ⟨v,C,z⟩:=s.ok _ (Ae _ A)
  have l:u=some v:=C
  subst l
  refine ⟨v,by rw[Lv b],k _ _ v F (S.set i ⟨some v,.un,[]⟩) H ?_ ?_ ?_ g⟩
  ·unfold vs
   rw[Fc]
   apply aF
   intro j
   rw[Qn]
   split
   ·rename_i o
    subst o
    rw[Bu,b]
    split
    ·rfl
    ·rename_i r
     rw[Af] at r
     exact absurd (Aw.mp b).1 r
   ·rfl
  ·unfold Sl at q ⊢
   rw[Fc,q]
  ·have E:=s.push (e:=⟨some v,.un,[]⟩) (show Fx X.K H B.n ⟨some v,.un,[]⟩ from rfl) (λf _=>⟨λ_ a p=>(nomatch p),λ_ a _=>Bc⟩) (λa p=>(nomatch p))
   have D:(⟨some v,.un,[]⟩::(S++T)).Perm ((S.set i ⟨some v,.un,[]⟩)++⟨some v,.dat m d,F⟩::T):=by
    rw[<- Cd]
    exact ((Ta (y:=(⟨some v,.un,[]⟩ : Ent)) b).append_right T).trans (by rw[Cd]; exact Cy.symm)
   exact E.perm D
 ·exact g.elim
abbrev D2:=DV->DV->(DV->Prop)->Prop
def qY(K:PySem.W.Frag)(r:R2)(rd:D2):Prop:=∀(a:Hp) (X:Addr->Prop) (n:Nat) (S T:List Ent) (x y:DV) (v w:V) (F G:List Addr) (H:Hp) (Q:VK) (P:DV->Prop),
 At K a X n (S++⟨some w,y,G⟩::⟨some v,x,F⟩::T) H->rd x y P->(∀z u c b,At K a X n (S++⟨some u,z,c⟩::T) b->P z->Q u b)->r v w H Q
def dY(rd:D2)(d db:DE):DE:=λc P=>d c λx b=>db b λy a=>rd x y λz=>P z a
theorem uJ{K:PySem.W.Frag}{r:R2}{rd:D2}{j db:DE}(o:qY K r rd):∀b H Q,LE K (dY rd j db) b H Q->HI r (LE K j) (LE K db) b H Q:=by
 intro b H Q h
 obtain ⟨e,Y,S,T,A,P,rfl,D,M,t,k⟩:=h
 refine ⟨e,Y,S,T,A,_,rfl,D,M,t,λx d v F I N p q f J=>?_⟩
 refine ⟨e,Y,I,⟨some v,x,F⟩::T,d,_,p,q,f,J,λy a w G i s l m g E=>?_⟩
 exact o e Y a.n i T x y v w F G s Q _ g E λz u C B c L=>k z a u C i B l m c L
section
variable{X:Cx}{a b:Expr}{c db:DE}{pos:Pos}{r:R2}{rd:D2}
theorem bQ{d:Operator}(f:Xa X (Lw d) r)(o:qY X.K r rd)(e:Fg X a c)(hb:Fg X b db):Fg X (.BinOp a d b pos) (dY rd c db):=PE.imp (Ke f e hb) (uJ o)
theorem rH{d:CmpOp}(g:Xa X (Ii d) r)(o:qY X.K r rd)(f:Fg X a c)(hb:Fg X b db)(e:Iy d b=false):Fg X (.Compare a [d] [b] pos) (dY rd c db):=PE.imp (sY g f hb e) (uJ o)
theorem HV(f:R7 X r)(o:qY X.K r rd)(e:Fg X a c)(hb:Fg X b db)(d:kB b):Fg X (.Subscript a b pos) (dY rd c db):=PE.imp (cS f e hb d) (uJ o)
end
def FR(C:Int->Int->Prop)(g:Int->Int->Ad):D2:=λx y P=>match x,y with
 | .dat _ (.int i),.dat _ (.int j)=>C i j/\P (.dat .ow (g i j))
 | _,_=>False
def qO(g:Int->Int->Ad):D2:=λx y P=>match x,y with
 | .dat _ (.int i),.dat _ (.int j)=>P (.dat .ow (g i j))
 | _,_=>False
section
variable{K:PySem.W.Frag}
theorem BC{C:Int->Int->Prop}{g:Int->Int->V}{g':Int->Int->Ad}(h:∀i j H,RdF K H (g i j) (g' i j) []):qY K (rI C g) (FR C g'):=by
 intro c X n S T x y v w F G H Q P b a k
 unfold FR at a
 split at a
 ·obtain ⟨rfl,_⟩:=(b.told Gm).int_inv
  obtain ⟨rfl,_⟩:=(b.told mem_mid).int_inv
  exact ⟨_,_,rfl,rfl,a.1,k _ _ [] H (b.drop2.pushI (h _ _ H)) a.2⟩
 ·exact a.elim
theorem uX{g:Int->Int->V}{g':Int->Int->Ad}(h:∀i j H,RdF K H (g i j) (g' i j) []):qY K (BZ g) (qO g'):=by
 intro c X n S T x y v w F G H Q P b a k
 unfold qO at a
 split at a
 ·obtain ⟨rfl,_⟩:=(b.told Gm).int_inv
  obtain ⟨rfl,_⟩:=(b.told mem_mid).int_inv
  exact ⟨_,_,rfl,rfl,k _ _ [] H (b.drop2.pushI (h _ _ H)) a⟩
 ·exact a.elim
end
abbrev rdAdd:D2:=qO λi j=>.int (i+j)
abbrev rdDiv:D2:=FR ES λi j=>.int (i / j)
abbrev rdMod:D2:=FR (λ_ j=>0<j) λi j=>.int (i % j)
abbrev GQ:D2:=FR CA λi j=>.int (i ^ j.toNat)
abbrev rdLt:D2:=qO λi j=>.bool (decide (i<j))
abbrev rdGt:D2:=qO λi j=>.bool (decide (j<i))
abbrev rdGe:D2:=qO λi j=>.bool (decide (j<=i))
section
variable{X:Cx}{a b:Expr}{c db:DE}{pos:Pos}
theorem F6(d:Fg X a c)(hb:Fg X b db):Fg X (.BinOp a .Add b pos) (dY rdAdd c db):=bQ bK (uX λ_ _ _=>.int _) d hb
theorem Sj(d:Fg X a c)(hb:Fg X b db):Fg X (.BinOp a .FloorDiv b pos) (dY rdDiv c db):=bQ jY (BC λ_ _ _=>.int _) d hb
theorem Kh(d:Fg X a c)(hb:Fg X b db):Fg X (.BinOp a .Mod b pos) (dY rdMod c db):=bQ Yd (BC λ_ _ _=>.int _) d hb
theorem e7(d:Fg X a c)(hb:Fg X b db):Fg X (.BinOp a .Pow b pos) (dY GQ c db):=bQ jA (BC λ_ _ _=>.int _) d hb
end
def jN(ne:Bool):D2:=λx y P=>match x,y with
 | .dat _ d,.dat _ e=>d.depth<=60/\e.depth<=60/\P (.dat .ow (.bool (match ne with | true=>!Dt d e | false=>Dt d e)))
 | _,_=>False
def xY(ne:Bool):D2:=λx y P=>match x,y with
 | .dat _ d,.dat _ (.list es)=>Bl es<=60/\d.depth<=60/\P (.dat .ow (.bool (match ne with | true=>!(es.any λe=>Dt e d) | false=>es.any λe=>Dt e d)))
 | .dat _ d,.dat _ (.tuple es)=>Bl es<=60/\d.depth<=60/\P (.dat .ow (.bool (match ne with | true=>!(es.any λe=>Dt e d) | false=>es.any λe=>Dt e d)))
 | _,_=>False
section
variable{K:PySem.W.Frag}
theorem Y1:qY K (GR K) (jN false):=by
 intro c X n S T x y v w F G H Q P b a k
 unfold jN at a
 split at a
 ·exact ⟨_,_,(b.told Gm).rd (Bw a.1 (by decide)),(b.told mem_mid).rd (Bw a.2.1 (by decide)),a.1,k _ _ [] H (b.drop2.pushI (.bl _)) a.2.2⟩
 ·exact a.elim
theorem IL:qY K (HZ K) (jN true):=by
 intro c X n S T x y v w F G H Q P b a k
 unfold jN at a
 split at a
 ·exact ⟨_,_,(b.told Gm).rd (Bw a.1 (by decide)),(b.told mem_mid).rd (Bw a.2.1 (by decide)),a.1,k _ _ [] H (b.drop2.pushI (.bl _)) a.2.2⟩
 ·exact a.elim
theorem AM{ne:Bool}:qY K (DD K ne) (xY ne):=by
 intro g X n S T x y v w F G H Q P c b k
 unfold xY at b
 split at b
 ·obtain ⟨a,d,h,rfl,e,f,_,_⟩:=(c.told mem_mid).list_inv
  refine ⟨a,d,_,_,rfl,.inl (Ua.of e),(c.told Gm).rd (Bw b.2.1 (by decide)),f.rd (Bw b.1 (by decide)),b.1,?_⟩
  cases ne with
  | true=>exact k _ _ [] H (c.drop2.pushI (.bl _)) b.2.2
  | false=>exact k _ _ [] H (c.drop2.pushI (.bl _)) b.2.2
 ·obtain ⟨a,d,rfl,e,f,_⟩:=(c.told mem_mid).tup_inv
  refine ⟨a,d,_,_,rfl,.inr (Tr.of e),(c.told Gm).rd (Bw b.2.1 (by decide)),f.rd (Bw b.1 (by decide)),b.1,?_⟩
  cases ne with
  | true=>exact k _ _ [] H (c.drop2.pushI (.bl _)) b.2.2
  | false=>exact k _ _ [] H (c.drop2.pushI (.bl _)) b.2.2
 ·exact b.elim
def isNone:Ad->Bool
 | .none=>true
 | _=>false
theorem O2{v:V}{H:Hp}{d:Ad}{F:List Addr}(r:RdF K H v d F):decide (v=.non)=isNone d:=by
 cases r <;> simp [isNone]
end
section
variable{X:Cx}{a b:Expr}{c db:DE}{pos:Pos}
theorem Yy(e:X.A.units+64<cLine)(d:Fg X a c)(hb:Fg X b db):Fg X (.Compare a [.Eq] [b] pos) (dY (jN false) c db):=rH (C0 e) Y1 d hb (Qr _)
theorem FV(f:X.A.units+64<cLine)(e:Fg X a c)(hb:Fg X b db)(d:Iy .In b=false:=by with_unfolding_all rfl):Fg X (.Compare a [.In] [b] pos) (dY (xY false) c db):=rH (AO f) AM e hb d
end
def Mn:Md->Md
 | .ow=>.ow
 | .tp=>.sh
 | m=>m
theorem At.part{K:PySem.W.Frag}{H0 H:Hp}{X:Addr->Prop}{n:Nat}{S T:List Ent}{v w:V}{m:Md}{d e:Ad}{F G:List Addr}(h:At K H0 X n (S++⟨some v,.dat m d,F⟩::T) H)(r:RdF K H w e G)(g:G.Sublist F):At K H0 X n (S++⟨some w,.dat (Mn m) e,G⟩::T) H:=by
 have c:=h.mid
 have j:=Ax.mp c.sep
 obtain ⟨l,q,o,k,p⟩:=c.ok _ Ab
 have cs:∀a∈cells ⟨some w,.dat (Mn m) e,G⟩,a∈cells ⟨some v,.dat m d,F⟩:=λa b=>by
  cases m with
  | ow=>exact g.subset b
  | tp=>exact nomatch b
  | sh=>exact nomatch b
  | pk=>exact nomatch b
 refine (h.drop.push (e:=⟨some w,.dat (Mn m) e,G⟩) ⟨w,rfl,r,λz=>?_,λz=>?_⟩ (λf i=>?_) λa b=>?_).tomid
 ·cases m with
  | ow=>exact (k rfl).sublist g
  | _=>cases z
 ·cases m <;> cases z
 ·refine ⟨λhp a b=>(j.1 f i).1 ?_ a (cs a b),λhp a b z=>(j.1 f i).2 ?_ a b (g.subset z)⟩
  ·rcases hp with hp | hp
   ·exact .inl hp
   ·cases hp
  ·rcases hp with hp | hp
   ·refine .inl ?_
    cases m <;> first | rfl | exact hp
   ·exact .inr hp
 ·rcases c.new _ Ab a (cs a b) with z | z
  ·exact .inl z
  ·cases z.2
def w8:D2:=λx y P=>match x,y with
 | .dat m (.list ds),.dat _ (.int i)=>∃d,Yw ds i=some d/\P (.dat (Mn m) d)
 | .dat m (.tuple ds),.dat _ (.int i)=>∃d,Yw ds i=some d/\P (.dat (Mn m) d)
 | .dat _ (.str z),.dat _ (.int i)=>z.length<=Ba/\∃c,Yw z.cps.toList i=some c/\P (.dat .ow (.str ⟨#[c]⟩))
 | _,_=>False
theorem zC{K:PySem.W.Frag}{H:Hp}{xs:List V}{ds:List Ad}{F:List Addr}{i:Int}{d:Ad}(r:RdFs K H xs ds F)(h:Yw ds i=some d):∃x G,Yw xs i=some x/\RdF K H x d G/\G.Sublist F:=by
 unfold Yw at h ⊢
 rw[r.len]
 cases e:X3 ds.length i with
 | none=>rw[e] at h; cases h
 | some j =>
  rw[e] at h
  exact r.get h
theorem GJ{K:PySem.W.Frag}:qY K (ML K) w8:=by
 intro u X n S T x y v w F G H Q P b f k
 unfold w8 at f
 split at f
 ·obtain ⟨d,g,p⟩:=f
  obtain ⟨rfl,_⟩:=(b.told mem_mid).int_inv
  have r:=b.told Gm
  have e:=b.drop
  obtain ⟨a,q,z,rfl,j,l,t,_⟩:=r.list_inv
  obtain ⟨x,o,h,i,m⟩:=zC l g
  subst t
  exact .inl ⟨_,_,_,_,rfl,rfl,Ua.of j,h,k _ _ o H (e.part i (m.trans (Dj _ _))) p⟩
 ·obtain ⟨d,g,p⟩:=f
  obtain ⟨rfl,_⟩:=(b.told mem_mid).int_inv
  have r:=b.told Gm
  have e:=b.drop
  obtain ⟨a,q,rfl,j,l,_⟩:=r.tup_inv
  obtain ⟨x,o,h,i,m⟩:=zC l g
  exact .inr (.inl ⟨_,_,_,_,rfl,rfl,Tr.of j,h,k _ _ o H (e.part i m) p⟩)
 ·obtain ⟨s,c,g,p⟩:=f
  obtain ⟨rfl,_⟩:=(b.told mem_mid).int_inv
  obtain ⟨rfl,_⟩:=(b.told Gm).str_inv
  exact .inr (.inr ⟨_,_,_,rfl,rfl,s,g,k _ _ [] H (b.drop2.pushI (.str _)) p⟩)
 ·exact f.elim
theorem Gv{X:Cx}{a b:Expr}{c db:DE}{pos:Pos}(e:Fg X a c)(hb:Fg X b db)(d:kB b:=by intro _ _; rfl):Fg X (.Subscript a b pos) (dY w8 c db):=HV BA GJ e hb d
def vC:Md->Md
 | .ow=>.ow
 | .pk=>.pk
 | _=>.tp
def Zc(i:Bool)(m:Md)(ds:List Ad)(P:DV->Prop):Prop:=match i with
 | true=>Eb ds=true/\P (.dat .ow (.list ds))
 | false=>P (.dat (vC m) (.list ds))
def iR(i:Bool)(m:Md)(ds:List Ad)(P:DV->Prop):Prop:=match i with
 | true=>Eb ds=true/\P (.dat .ow (.tuple ds))
 | false=>P (.dat (Mn m) (.tuple ds))
section
variable{K:PySem.W.Frag}{H0 H:Hp}{X:Addr->Prop}{n:Nat}{S T:List Ent}{v w:V}{m:Md}{d e:Ad}{F G:List Addr}{p:Addr}{xs:List V}{ds:List Ad}{P:DV->Prop}{i:Bool}
theorem At.newI(h:At K H0 X n (S++T) H)(r:RdFs K H xs ds G)(o:Eb ds=true)(j:ds.length<=Ba)(c:H p=none)(m:Md):At K H0 X n (S++⟨some (.ref p),.dat m (.list ds),[p]⟩::T) (upd H p (.lst xs)):=by
 obtain rfl:=r.imm o
 have g:=Et c (.lst xs)
 have k:=h.grow (n':=n) g (Au _)
 refine (k.push (e:=⟨some (.ref p),.dat m (.list ds),[p]⟩) ⟨_,rfl,.lst Cg j (r.kp (Kp.of g)),λ_=>Da.mpr ⟨Bc,Fw⟩,λ_ a l z=>by cases z; exact Bc⟩ (λf i=>?_) λa b=>?_).tomid
 ·have d:=h.free c f i
  refine ⟨λ_ a b z=>?_,λ_ a b z=>?_⟩
  ·have:=Dm _ a b
   rw[Aj.mp this] at z
   exact d z
  ·rw[Aj.mp z] at b
   exact d (Dm _ _ b)
 ·have:=Dm _ a b
  rw[Aj.mp this]
  exact .inl (h.new0 c)
theorem At.newL(h:At K H0 X n (S++⟨some v,.dat m d,F⟩::T) H)(r:RdFs K H xs ds G)(k:G.Sublist F)(t:ds.length<=Ba)(j:H p=none)(q:Zc i m ds P):∃z F',At K H0 X n (S++⟨some (.ref p),z,F'⟩::T) (upd H p (.lst xs))/\P z:=by
 cases i with
 | true=>exact ⟨_,_,h.drop.newI r q.1 t j .ow,q.2⟩
 | false =>
  have q:P (.dat (vC m) (.list ds)):=q
  refine ⟨_,p::G,?_,q⟩
  have x:=Et j (.lst xs)
  have c:=h.mid
  have w:=Ax.mp c.sep
  obtain ⟨B,C,_,A,_⟩:=c.ok _ Ab
  have y:=h.drop.grow (n':=n) x (Au _)
  have s:p∉F:=c.free j _ Ab
  have g:p∉G:=λz=>s (k.subset z)
  have cs:∀a∈cells ⟨some (.ref p),.dat (vC m) (.list ds),p::G⟩,a=p\/(a∈cells ⟨some v,.dat m d,F⟩):=λa b=>by
   cases m with
   | ow =>
    rcases Ai.mp b with z | z
    ·exact .inl z
    ·exact .inr (k.subset z)
   | tp=>exact .inl (Aj.mp b)
   | sh=>exact .inl (Aj.mp b)
   | pk=>exact nomatch b
  refine (y.push (e:=⟨some (.ref p),.dat (vC m) (.list ds),p::G⟩) ⟨_,rfl,.lst Cg t (r.kp (Kp.of x)),λz=>?_,λz a l e=>?_⟩ (λf o=>?_) λa b=>?_).tomid
  ·cases m with
   | ow=>exact Da.mpr ⟨g,(A rfl).sublist k⟩
   | _=>cases z
  ·cases e
   exact g
  ·have u:=c.free j f (Ah _ o)
   refine ⟨λhq a b z=>?_,λhq a b z=>?_⟩
   ·rcases cs a b with rfl | hc
    ·exact u z
    ·refine (w.1 f o).1 ?_ a hc z
     rcases hq with hq | hq
     ·exact .inl hq
     ·cases hq
   ·rcases Ai.mp z with rfl | z
    ·exact u (Dm _ _ b)
    ·refine (w.1 f o).2 ?_ a b (k.subset z)
     rcases hq with hq | hq
     ·refine .inl ?_
      cases m <;> first | rfl | exact hq
     ·exact .inr hq
  ·rcases cs a b with rfl | hc
   ·exact .inl (c.new0 j)
   ·rcases c.new _ Ab a hc with z | z
    ·exact .inl z
    ·cases z.2
theorem At.newT(h:At K H0 X n (S++⟨some v,.dat m d,F⟩::T) H)(r:RdFs K H xs ds G)(f:G.Sublist F)(b:ds.length<=Ba)(e:H p=none)(q:iR i m ds P):∃z F',At K H0 X n (S++⟨some (.ref p),z,F'⟩::T) (upd H p (.tup xs))/\P z:=by
 have a:=Et e (.tup xs)
 have c:=h.grow (n':=n) a (Au _)
 cases i with
 | true =>
  obtain rfl:=r.imm q.1
  exact ⟨_,[],c.drop.pushI (.tup Cg b (r.kp (Kp.of a))),q.2⟩
 | false=>exact ⟨_,G,c.part (.tup Cg b (r.kp (Kp.of a))) f,q⟩
theorem At.oldT{t:Addr}(h:At K H0 X n (S++⟨some v,.dat m d,F⟩::T) H)(r:RdFs K H xs ds G)(c:G.Sublist F)(a:ds.length<=Ba)(b:H t=some (.tup xs))(q:iR i m ds P):∃z F',At K H0 X n (S++⟨some (.ref t),z,F'⟩::T) H/\P z:=by
 cases i with
 | true =>
  obtain rfl:=r.imm q.1
  exact ⟨_,[],h.drop.pushI (.tup b a r),q.2⟩
 | false=>exact ⟨_,G,h.part (.tup b a r) c,q⟩
end
def pW:DA:=λa P=>P [] a
def sW(f:DE)(d:DA):DA:=λe P=>f e λx b=>d b λc a=>P (x::c) a
section
variable{X:Cx}{e:Expr}{es:List Expr}{a:DE}{b:DA}
theorem Al:Wb X [] pW:=by
 refine PA.imp Ir λf H Q h=>?_
 obtain ⟨e,Y,S,T,c,P,rfl,b,d,a,k⟩:=h
 exact k [] c [] [] S H rfl b rfl rfl d a
theorem Ac(t:Fg X e a)(n:Wb X es b)(o:An (e::es) X.env=(false,eval e X.env)::An es X.env:=by rfl):Wb X (e::es) (sW a b):=by
 refine PA.imp (Do t n o) λJ H Q h=>?_
 obtain ⟨j,Y,S,T,w,P,rfl,z,D,u,k⟩:=h
 refine ⟨j,Y,S,T,w,_,rfl,z,D,u,λx c v F B I q r f C=>?_⟩
 refine ⟨j,Y,B,⟨some v,x,F⟩::T,c,_,q,r,f,C,λy d l G i s m p ex E g A=>?_⟩
 refine k (x::y) d (⟨some v,x,F⟩::l) (v::G) i s m p (by rw[Ap,ex]) (by rw[Ap,Ap,E]) (g.perm ((Nn i).append ?_)) A
 exact Cy
end
def allOw:List DV->Bool
 | []=>true
 | .dat .ow _::xs=>allOw xs
 | _=>false
def noPk:List DV->Bool
 | []=>true
 | .dat .pk _::_=>false
 | .dat _ _::xs=>noPk xs
 | _=>false
def datas:List DV->Option (List Ad)
 | []=>some []
 | .dat _ d::xs=>(datas xs).map (d::·)
 | _=>none
def pkMd(top:Md)(xs:List DV):Md:=if allOw xs=true then .ow else if noPk xs=true then top else .pk
section
variable{K:PySem.W.Frag}{H0 H:Hp}{X:Addr->Prop}{n:Nat}{S T As:List Ent}
theorem Wt:∀{As:List Ent} {us:List V} {ds:List Ad},As.map Ent.v=us.map some->datas (As.map Ent.x)=some ds->(∀e∈As,Fx K H n e)->RdFs K H us ds (As.flatMap Ent.F)
 | [],us,ds,e,h,_=>by
  cases us with
  | nil=>cases h; exact .nil
  | cons _ _=>cases e
 | ent::As,us,ds,e,h,ok=>by
  cases us with
  | nil=>cases e
  | cons u us =>
   rw[Ap,Ap] at e
   obtain ⟨i,g⟩:=Fp e
   obtain ⟨v,x,F⟩:=ent
   have b:v=some u:=i
   subst b
   rw[Ap] at h
   cases x with
   | dat m d =>
    rw[show datas (DV.dat m d::As.map Ent.x)=(datas (As.map Ent.x)).map (d::·) from rfl] at h
    cases q:datas (As.map Ent.x) with
    | none=>rw[q] at h; cases h
    | some k =>
     rw[q] at h
     cases h
     obtain ⟨w,j,a,_⟩:=ok _ Ab
     cases j
     rw[Qo]
     exact .cons a (Wt g q λf c=>ok f (Ah _ c))
   | _=>cases h
theorem Pq:∀{As:List Ent},allOw (As.map Ent.x)=true->∀e∈As,∃d,e.x=.dat .ow d
 | [],_,_,h=>nomatch h
 | ⟨v,x,F⟩::As,h,e,he=>by
  rw[Ap] at h
  have a:(∃d,x=.dat .ow d)/\allOw (As.map Ent.x)=true:=by
   cases x with
   | dat m d=>cases m <;> first | exact ⟨⟨d,rfl⟩,h⟩ | cases h
   | _=>cases h
  rcases Ai.mp he with rfl | he
  ·exact a.1
  ·exact Pq a.2 e he
theorem Sh:∀{As:List Ent},noPk (As.map Ent.x)=true->∀e∈As,Lr e.x=false
 | [],_,_,h=>nomatch h
 | ⟨v,x,F⟩::As,h,e,he=>by
  rw[Ap] at h
  have a:Lr x=false/\noPk (As.map Ent.x)=true:=by
   cases x with
   | dat m d=>cases m <;> first | exact ⟨rfl,h⟩ | cases h
   | _=>cases h
  rcases Ai.mp he with rfl | he
  ·exact a.1
  ·exact Sh a.2 e he
theorem dU:∀{As:List Ent},(∀e∈As,∃d,e.x=.dat .ow d)->(∀e∈As,Fx K H n e)->As.Pairwise Nq->(As.flatMap Ent.F).Nodup
 | [],_,_,_=>Fw
 | ent::As,ho,ok,hs=>by
  rw[Qo]
  have j:=Ax.mp hs
  obtain ⟨v,x,F⟩:=ent
  obtain ⟨d,l⟩:=ho _ Ab
  have c:x=.dat .ow d:=l
  subst c
  obtain ⟨w,_,_,m,_⟩:=ok _ Ab
  refine List.nodup_append.mpr ⟨m rfl,dU (λe g=>ho e (Ah _ g)) (λe g=>ok e (Ah _ g)) j.2,λa k b h z=>?_⟩
  subst z
  obtain ⟨f,i,h⟩:=Gd.mp h
  obtain ⟨o,c⟩:=ho f (Ah _ i)
  exact (j.1 f i).1 (.inl (by rw[c]; rfl)) a k h
theorem At.pack{v:V}{d:Ad}{N:List Addr}{H':Hp}{top:Md}(h:At K H0 X n (S++(As++T)) H)(s:Lu H H')(G:∀a∈N,H a=none)(C:N.Nodup)(m:(top=.tp/\N.length=1)\/(top=.sh/\N=[]))(r:RdF K H' v d (N++As.flatMap Ent.F)):At K H0 X n (S++⟨some v,.dat (pkMd top (As.map Ent.x)) d,N++As.flatMap Ent.F⟩::T) H':=by
 have L:(S++(As++T)).Perm (As++(S++T)):=by
  rw[<- Az,<- Az]
  exact Ej.append_right T
 have y:=h.perm L
 have B:=Bs.mp y.sep
 have t:=(h.dropL).grow (n':=n) s (Au _)
 have D:∀a∈N,∀f∈As++(S++T),a∉f.F:=λa c f o=>y.free (G a c) f o
 have i:∀a∈N,a∉As.flatMap Ent.F:=λa c z=>by
  obtain ⟨f,o,z⟩:=Gd.mp z
  exact D a c f (Ae _ o) z
 have cs:∀a∈cells ⟨some v,.dat (pkMd top (As.map Ent.x)) d,N++As.flatMap Ent.F⟩,a∈N\/(allOw (As.map Ent.x)=true/\∃f∈As,a∈cells f):=λa c=>by
  unfold pkMd at c
  by_cases j:allOw (As.map Ent.x)=true
  ·rw[if_pos j] at c
   rcases Ar.mp c with z | z
   ·exact .inl z
   ·obtain ⟨f,o,z⟩:=Gd.mp z
    obtain ⟨I,k⟩:=Pq j f o
    refine .inr ⟨j,f,o,?_⟩
    unfold cells
    rw[k]
    exact z
  ·rw[if_neg j] at c
   by_cases u:noPk (As.map Ent.x)=true
   ·rw[if_pos u] at c
    rcases m with ⟨rfl,t⟩ | ⟨rfl,rfl⟩
    ·match N,t,c with
     | [b],_,c=>exact .inl c
    ·exact nomatch c
   ·rw[if_neg u] at c
    exact nomatch c
 refine (t.push (e:=⟨some v,.dat (pkMd top (As.map Ent.x)) d,N++As.flatMap Ent.F⟩) ⟨_,rfl,r,λz=>?_,λz a l e=>?_⟩ (λf o=>?_) λa c=>?_).tomid
 ·have j:allOw (As.map Ent.x)=true:=by
   unfold pkMd at z
   by_cases j:allOw (As.map Ent.x)=true
   ·exact j
   ·rw[if_neg j] at z
    split at z
    ·rcases m with ⟨rfl,_⟩ | ⟨rfl,_⟩ <;> cases z
    ·cases z
  refine List.nodup_append.mpr ⟨C,dU (Pq j) (λe J=>y.ok e (Ae _ J)) B.1,λa c b M e=>?_⟩
  subst e
  exact i a c M
 ·have O:top=.tp:=by
   unfold pkMd at z
   split at z
   ·cases z
   ·split at z
    ·exact z
    ·cases z
  subst O
  rcases m with ⟨_,t⟩ | ⟨t,_⟩
  ·match N,t,e,i with
   | [b],_,e,i =>
    cases e
    exact i a Ab
  ·cases t
 ·have w:f∈As++(S++T):=Ag _ o
  refine ⟨λhq a c z=>?_,λhq a c z=>?_⟩
  ·rcases cs a c with E | ⟨_,g,q,A⟩
   ·exact D a E f w z
   ·refine (B.2.2 g q f o).1 ?_ a A z
    rcases hq with hq | hq
    ·exact .inl hq
    ·cases hq
  ·rcases Ar.mp z with z | z
   ·exact D a z f w (Dm _ _ c)
   ·obtain ⟨g,q,z⟩:=Gd.mp z
    refine (B.2.2 g q f o).2 ?_ a c z
    rcases hq with hq | hq
    ·refine .inl ?_
     have p:Lr (.dat (pkMd top (As.map Ent.x)) d)=false:=hq
     unfold pkMd at p
     by_cases j:allOw (As.map Ent.x)=true
     ·obtain ⟨I,k⟩:=Pq j g q
      rw[k]
      rfl
     ·rw[if_neg j] at p
      by_cases u:noPk (As.map Ent.x)=true
      ·exact Sh u g q
      ·rw[if_neg u] at p
       cases p
    ·exact .inr hq
 ·rcases cs a c with E | ⟨_,g,q,A⟩
  ·exact .inl (y.new0 (G a E))
  ·rcases y.new g (Ae _ q) a A with z | z
   ·exact .inl z
   ·obtain ⟨I,k⟩:=Pq (by assumption) g q
    rw[k] at z
    cases z.2
end
def GD(d:DA):DE:=λe P=>d e λb a=>match datas b with
 | some c=>c.length<=1000/\P (.dat (pkMd .sh b) (.tuple c)) a
 | none=>False
def IV(d:DA):DE:=λe P=>d e λb a=>match datas b with
 | some c=>c.length<=1000/\P (.dat (pkMd .tp b) (.list c)) a
 | none=>False
section
variable{X:Cx}{es:List Expr}{b:DA}{pos:Pos}
theorem Cm{x1}(h:Wb X es b):Fg X (.Tuple es x1 pos) (GD b):=by
 refine PE.imp (K6 h) λC H Q h=>?_
 obtain ⟨v,Y,S,T,o,P,rfl,w,x,m,k⟩:=h
 refine ⟨v,Y,S,T,o,_,rfl,w,x,m,λs c B i g D j l ex y a p=>?_⟩
 cases q:datas s with
 | none=>rw[q] at p; exact p.elim
 | some n =>
  rw[q] at p
  subst ex
  have r:=Wt y q λe f=>a.ok e (Ag _ (Ae _ f))
  have E:=r.len
  have u:n.length<=Ba:=sz p.1
  refine ⟨by omega,λt A=>?_⟩
  have d:=Et A (.tup i)
  exact k _ c _ _ g _ j l (a.pack (N:=[]) d (λ_ z=>nomatch z) Fw (.inr ⟨rfl,rfl⟩) (.tup Cg u (r.kp (Kp.of d)))) p.2
theorem Cp(h:Wb X es b):Fg X (.List es pos) (IV b):=by
 refine PE.imp (Yi h) λD H Q h=>?_
 obtain ⟨x,Y,S,T,u,P,rfl,y,A,o,k⟩:=h
 refine ⟨x,Y,S,T,u,_,rfl,y,A,o,λv d C l j E m n ex B c p=>?_⟩
 cases q:datas v with
 | none=>rw[q] at p; exact p.elim
 | some s =>
  rw[q] at p
  subst ex
  have r:=Wt B q λe i=>c.ok e (Ag _ (Ae _ i))
  have F:=r.len
  have w:s.length<=Ba:=sz p.1
  refine ⟨by omega,λt f=>?_⟩
  have g:=Et f (.lst l)
  exact k _ d _ _ j _ m n (c.pack (N:=[t]) g (λa z=>by rw[Aj.mp z]; exact f) (Da.mpr ⟨Bc,Fw⟩) (.inl ⟨rfl,rfl⟩) (.lst Cg w (r.kp (Kp.of g)))) p.2
end
end DL
namespace Nd
open PySem PySem.Spec PyProof.Rows L2
section
variable{X:Cx}
def Z5:V->Option Int->Option Int->Hp->VK->Prop:=λx lo d H Q=>∃a c,x=.ref a/\H a=some (.tup c)/\∀p b,b p=some (.tup (cE c lo d))->Lu H b->Q (.ref p) b
theorem O8:ET X Z5:=by
 intro d s o H x v t y lo n z Q I w j k i h
 obtain ⟨a,b,rfl,e,q⟩:=h
 have l:Tr X.K H a b:=Tr.of e
 cases w
 by_cases f:HT.sIx b.length 0 lo=0/\HT.sIx b.length b.length n=b.length
 ·obtain ⟨g,r,m,A⟩:=I.tuple l
  have c:g.toArray.size=b.length:=by rw[Av]; exact r.length.symm
  refine ⟨"tuple",_,Eh.lookup,m.typeIs,?_⟩
  refine Tz m j k i (by rw[c]; exact f) ⟨.ref a,H,I,rfl,q a H ?_ (Lu.refl _)⟩
  unfold cE
  rw[f.1,f.2,Vl,Nat.sub_zero,Fo]
  exact e
 ·exact AS d s o H (.ref a) (.ref a) t y lo n z Q I rfl j k i ⟨a,b,rfl,l,f,λp u=>q p _ Cg (Et u _)⟩
end
end Nd
namespace Ts
open PySem PyProof.Rows
def le(blt:Keyed->Keyed->Bool)(x y:Keyed):Prop:=blt y x=false
abbrev lst(p q a:Array Keyed)(i j:Nat):Array Keyed:=a++q.extract j q.size++p.extract i p.size
abbrev ge(blt:Keyed->Keyed->Bool)(x y:Keyed):Prop:=le blt y x
def X(xs:Array Keyed)(i:Nat):Keyed:=xs[i]?.getD (Ib,Ib)
variable{blt:Keyed->Keyed->Bool}
end Ts
namespace Ts
open PySem PyProof.Rows L2
end Ts
namespace DL
open PySem L2 Nd
def Qe{a:Type}(xs:List a)(lo b:Option Int):List a:=(xs.drop (HT.sIx xs.length 0 lo)).take (HT.sIx xs.length xs.length b - HT.sIx xs.length 0 lo)
theorem J1{a c:Type}(f:a->c)(xs:List a)(lo b:Option Int):Qe (xs.map f) lo b=(Qe xs lo b).map f:=by
 unfold Qe
 rw[Af,Lf,List.map_drop]
theorem cQ{a:Type}(xs:List a)(lo b:Option Int):(Qe xs lo b).Sublist xs:=(Dr _ _).trans (List.drop_sublist _ _)
theorem Xu{a:Type}(xs:List a)(k:Nat):Qe xs none (some (k:Int))=xs.take k:=by
 unfold Qe
 rw[HT.sIx_none,HT.sIx_nat,Vl,Nat.sub_zero]
 by_cases h:k<=xs.length
 ·rw[Nat.min_eq_left h]
 ·rw[Nat.min_eq_right (by omega),Fo,sM (by omega)]
section
variable{K:PySem.W.Frag}{H:Hp}
theorem RdFs.drop:∀(n:Nat) {xs:List V} {ds:List Ad} {F:List Addr},RdFs K H xs ds F->∃G,RdFs K H (xs.drop n) (ds.drop n) G/\G.Sublist F
 | 0,_,_,F,h=>⟨F,h,Bm _⟩
 | n+1,_,_,_,.nil=>⟨[],.nil,Bm _⟩
 | n+1,_,_,_,.cons _ t=>by
  obtain ⟨G,a,b⟩:=RdFs.drop n t
  exact ⟨G,a,b.trans (Bv _ _)⟩
theorem RdFs.take:∀(n:Nat) {xs:List V} {ds:List Ad} {F:List Addr},RdFs K H xs ds F->∃G,RdFs K H (xs.take n) (ds.take n) G/\G.Sublist F
 | 0,_,_,F,h=>⟨[],.nil,List.nil_sublist _⟩
 | n+1,_,_,_,.nil=>⟨[],.nil,Bm _⟩
 | n+1,_,_,_,.cons a t=>by
  obtain ⟨G,b,c⟩:=RdFs.take n t
  exact ⟨_,.cons a b,(Bm _).append c⟩
theorem RdFs.cut{xs:List V}{ds:List Ad}{F:List Addr}(h:RdFs K H xs ds F)(lo a:Option Int):∃G,RdFs K H (cE xs lo a) (Qe ds lo a) G/\G.Sublist F:=by
 unfold cE Qe
 rw[h.len]
 obtain ⟨G,b,c⟩:=h.drop (HT.sIx ds.length 0 lo)
 obtain ⟨f,d,e⟩:=b.take (HT.sIx ds.length ds.length a - HT.sIx ds.length 0 lo)
 exact ⟨f,d,e.trans c⟩
theorem RdFs.rep{xs:List V}{ds:List Ad}(h:RdFs K H xs ds []):∀k:Nat,RdFs K H (Cb k xs).flatten (Cb k ds).flatten []
 | 0=>.nil
 | k+1=>by
  rw[Gu,Gu,Gq,Gq]
  exact h.app (RdFs.rep h k)
theorem RdFs.ints:∀ns:List Int,RdFs K H (ns.map V.int) (ns.map Bz) []
 | []=>.nil
 | n::ns=>RdFs.cons (F:=[]) (.int n) (RdFs.ints ns)
theorem RdFs.ints_inv:∀{ns:List Int} {xs:List V} {F:List Addr},RdFs K H xs (ns.map Bz) F->xs=ns.map V.int/\F=[]
 | [],_,_,h=>by cases h; exact ⟨rfl,rfl⟩
 | n::ns,_,_,h=>by
  rw[Ap] at h
  cases h with
  | cons a t =>
   obtain ⟨rfl,rfl⟩:=a.int_inv
   obtain ⟨rfl,rfl⟩:=RdFs.ints_inv t
   exact ⟨rfl,rfl⟩
theorem RdFs.bools_inv:∀{ns:List Bool} {xs:List V} {F:List Addr},RdFs K H xs (ns.map Ub) F->xs=ns.map V.bl/\F=[]
 | [],_,_,h=>by cases h; exact ⟨rfl,rfl⟩
 | n::ns,_,_,h=>by
  rw[Ap] at h
  cases h with
  | cons a t =>
   obtain ⟨rfl,rfl⟩:=a.bl_inv
   obtain ⟨rfl,rfl⟩:=RdFs.bools_inv t
   exact ⟨rfl,rfl⟩
end
theorem Va{a b:List Ad}:Eb (a++b)=(Eb a && Eb b):=by
 induction a with
 | nil=>simp [Eb]
 | cons x a c=>simp [Eb,c,Bool.and_assoc]
theorem bJ{a b:List Ad}(h:a.Sublist b)(hb:Eb b=true):Eb a=true:=qL.mpr λx c=>qL.mp hb x (h.subset c)
theorem Za(ns:List Int):Eb (ns.map Bz)=true:=Rl (λ_=>by simp [imm]) ns
def tO:D2:=λx y P=>match x,y with
 | .dat _ (.list ds),.dat _ (.list es)=>Eb ds=true/\Eb es=true/\ds.length+es.length<=1000000/\P (.dat .ow (.list (ds++es)))
 | _,_=>False
def tP:D2:=λx y P=>match x,y with
 | .dat _ (.list ds),.dat _ (.int k)=>Eb ds=true /\ -1000000<=k/\k<=1000000/\ds.length * k.toNat<=1000000/\P (.dat .ow (.list (Cb k.toNat ds).flatten))
 | _,_=>False
section
variable{K:PySem.W.Frag}
theorem CC:qY K FI tO:=by
 intro u X n S T x y v w F G H Q P d c k
 unfold tO at c
 split at c
 ·obtain ⟨j,o,r,p⟩:=c
  obtain ⟨b,i,z,rfl,l,e,_,_⟩:=(d.told mem_mid).list_inv
  obtain ⟨a,g,t,rfl,h,f,_,_⟩:=(d.told Gm).list_inv
  have A:=f.len
  have s:=e.len
  refine ⟨a,b,g,i,rfl,rfl,h,l,pB (by omega),λq m=>?_⟩
  exact k _ _ _ _ (d.drop2.newI (f.app e) (by rw[Va,j,o]; rfl) (by rw[Bn]; exact pB (by omega)) m .ow) p
 ·exact c.elim
theorem EK:qY K GU tP:=by
 intro u X n S T x y v w F G H Q P d c k
 unfold tP at c
 split at c
 ·obtain ⟨g,t,A,f,p⟩:=c
  obtain ⟨rfl,_⟩:=(d.told mem_mid).int_inv
  obtain ⟨a,h,s,rfl,i,e,_,_⟩:=(d.told Gm).list_inv
  have o:=e.len
  obtain rfl:=e.imm g
  rename_i j
  refine ⟨a,_,h,rfl,rfl,i,by omega,by omega,pB (by rw[o]; exact f),λq r=>?_⟩
  refine k _ _ _ _ (d.drop2.newI (e.rep _) ?_ (by rw[tL,Nat.mul_comm]; exact pB f) r .ow) p
  refine qL.mpr λz b=>?_
  obtain ⟨l,m,b⟩:=List.mem_flatten.mp b
  rw[(Gc.mp m).2] at b
  exact qL.mp g z b
 ·exact c.elim
end
section
variable{X:Cx}{a b:Expr}{c db:DE}{pos:Pos}
theorem Od(d:Fg X a c)(hb:Fg X b db):Fg X (.BinOp a .Add b pos) (dY tO c db):=bQ yZ CC d hb
theorem CQ(d:Fg X a c)(hb:Fg X b db):Fg X (.BinOp a .Mult b pos) (dY tP c db):=bQ EX EK d hb
end
abbrev DO:=DS->(Option Int->DS->Prop)->Prop
def LO(K:PySem.W.Frag)(d:DO):TO:=λf H Q=>∃(e:Hp) (X:Addr->Prop) (S T:List Ent) (c:DS) (P:Option Int->DS->Prop),vs S=f/\Sl S c/\At K e X c.n (S++T) H/\d c P /\
 ∀o a b g,vs b=f->Sl b a->At K e X a.n (b++T) g->P o a->Q o g
abbrev FO(X:Cx)(e:Option Expr)(d:DO):Prop:=PO X e (LO X.K d)
theorem PO.imp{X:Cx}{e:Option Expr}{t t':TO}(h:PO X e t)(k:∀b H Q,t' b H Q->t b H Q):PO X e t':=λa s b H Q I q=>h a s b H Q I (k b H Q q)
def vA:DO:=λa P=>P none a
def Z9(c:DE):DO:=λb P=>c b λx a=>match x with
 | .dat _ (.int i)=>P (some i) a
 | _=>False
section
variable{X:Cx}{e:Expr}{b:DE}{lo c:Option Expr}{dl d:DO}{pos f:Pos}
theorem dX:FO X none vA:=by
 refine PO.imp O9 λf H Q h=>?_
 obtain ⟨e,Y,S,T,c,P,rfl,b,d,a,k⟩:=h
 exact k _ c S H rfl b d a
theorem cX(h:Fg X e b):FO X (some e) (Z9 b):=by
 refine PO.imp (P9 h) λq H Q h=>?_
 obtain ⟨g,Y,S,T,l,P,rfl,j,o,i,k⟩:=h
 refine ⟨g,Y,S,T,l,_,rfl,j,o,i,λx c v F f n m d a p=>?_⟩
 split at p
 ·obtain ⟨rfl,_⟩:=(a.told mem_mid).int_inv
  exact ⟨_,rfl,k _ c f n m d a.drop p⟩
 ·exact p.elim
def MQ(i:Bool)(b:DE)(dl d:DO):DE:=λf P=>b f λx e=>dl e λl c=>d c λh a=>match x with
 | .dat m (.list ds)=>Zc i m (Qe ds l h) λz=>P z a
 | .dat m (.tuple ds)=>iR i m (Qe ds l h) λz=>P z a
 | _=>False
def KM(K:PySem.W.Frag):V->Option Int->Option Int->Hp->VK->Prop:=λx lo c H Q=>EH K x lo c H Q\/Z5 x lo c H Q
theorem lR{i:Bool}(R:Fg X e b)(hl:FO X lo dl)(hh:FO X c d):Fg X (.Subscript e (.Slice lo c none f) pos) (MQ i b dl d):=by
 refine PE.imp (oX (r:=KM X.K) (Q6.or O8) R hl hh) λσ H Q h=>?_
 obtain ⟨y,Y,S,T,δ,P,rfl,hS,hA,hd,k⟩:=h
 refine ⟨y,Y,S,T,δ,_,rfl,hS,hA,hd,λx t v F S1 H1 Z e2 E p1=>?_⟩
 refine ⟨y,Y,S1,⟨some v,x,F⟩::T,t,_,Z,e2,E,p1,λl B V H2 U W I f=>?_⟩
 refine ⟨y,Y,V,⟨some v,x,F⟩::T,B,_,U,W,I,f,λh m N H3 L M g n=>?_⟩
 split at n
 ·obtain ⟨a,u,G,rfl,q,o,rfl,w⟩:=(g.told mem_mid).list_inv
  refine .inl ⟨a,u,rfl,Ua.of q,λp C=>?_⟩
  obtain ⟨G',D,A⟩:=o.cut l h
  obtain ⟨z,s,j,J⟩:=g.newL D (A.trans (Dj _ _)) (Bw (cQ _ _ _).length_le w) C n
  exact k z m _ s N _ L M j J
 ·obtain ⟨a,u,rfl,q,o,w⟩:=(g.told mem_mid).tup_inv
  refine .inr ⟨a,u,rfl,q,λp H' C O=>?_⟩
  obtain ⟨G',D,A⟩:=o.cut l h
  obtain ⟨z,s,j,J⟩:=(g.grow O (Au _)).oldT (D.kp (Kp.of O)) A (Bw (cQ _ _ _).length_le w) C n
  exact k z m _ s N _ L M j J
 ·exact n.elim
end
end DL
namespace NdS
open PySem PyProof.Rows
end NdS
namespace Nd
open PySem PySem.Spec PyProof.Rows L2 NdS
end Nd
namespace DL
open PySem L2 Nd
def lK(x:Int):List Int->List Int
 | []=>[x]
 | y::l=>if x<y then x::y::l else if x=y then y::l else y::lK x l
def dR(ns:List Int):List Int:=ns.foldr lK []
theorem mC{x z:Int}:∀{l:List Int},z∈lK x l↔z=x\/z∈l
 | []=>by simp [lK]
 | y::l=>by
  unfold lK
  split
  ·simp
  ·split
   ·rename_i b a
    subst a
    simp
   ·simp only[Ai,mC (l:=l)]
    constructor
    ·rintro (h | h | h) <;> simp [h]
    ·rintro (h | h | h) <;> simp [h]
theorem fY{x:Int}:∀{l:List Int},l.Pairwise (· < ·)->(lK x l).Pairwise (· < ·)
 | [],_=>En _ _
 | y::l,h=>by
  obtain ⟨a,c⟩:=Ax.mp h
  unfold lK
  split
  ·rename_i b
   refine Ax.mpr ⟨λz hz=>?_,h⟩
   rcases Ai.mp hz with rfl | hz
   ·exact b
   ·exact Int.lt_trans b (a z hz)
  ·split
   ·exact h
   ·refine Ax.mpr ⟨λz hz=>?_,fY c⟩
    rcases mC.mp hz with rfl | hz
    ·omega
    ·exact a z hz
theorem Xm:∀ns:List Int,(dR ns).Pairwise (· < ·)
 | []=>Es
 | n::ns=>fY (Xm ns)
theorem i8{x:Int}:∀{ns:List Int},x∈dR ns↔x∈ns
 | []=>Iff.rfl
 | n::ns=>by
  rw[show dR (n::ns)=lK n (dR ns) from rfl,mC,i8 (ns:=ns),Ai]
theorem O3{l ns:List Int}(h:l.Pairwise (· < ·))(m:∀x,x∈l↔x∈ns):l=dR ns:=gS h (Xm ns) λx=>(m x).trans i8.symm
abbrev DC:=List DV->(DV->Prop)->Prop
def Wj(K:PySem.W.Frag)(r:List V->Hp->VK->Prop)(rd:DC):Prop:=∀(b:Hp) (X:Addr->Prop) (n:Nat) (S T a:List Ent) (c:List V) (H:Hp) (Q:VK) (P:DV->Prop),
 a.map Ent.v=c.map some->At K b X n (S++(a++T)) H->rd (a.map Ent.x) P->(∀z u e d,At K b X n (S++⟨some u,z,e⟩::T) d->P z->Q u d)->r c H Q
def JP(rd:DC)(d:DA):DE:=λb P=>d b λc a=>rd c λz=>P z a
section
variable{X:Cx}{x:Str}{p pos:Pos}{e:Expr}{es:List Expr}{a:DA}{id T:String}{r:List V->Hp->VK->Prop}{rd:DC}
theorem X5{K:PySem.W.Frag}(o:Wj K r rd):∀c H Q,LE K (JP rd a) c H Q->MC r (LA K a) c H Q:=by
 intro c H Q h
 obtain ⟨i,Y,S,T,s,P,rfl,w,y,q,k⟩:=h
 refine ⟨i,Y,S,T,s,_,rfl,w,y,q,λC b j B g t l m ex A f p=>?_⟩
 subst ex
 exact o i Y b.n g T j B t Q _ A f p λz u v e d x=>k z b u v g e l m d x
theorem Km(h:Na X (.builtin id) r)(o:Wj X.K r rd)(j:Gl X x)(g:X.mg x=none)(hv:Jz x=some (.builtin id))(f:Wb X (e::es) a)(i:x ≠ "__name__" := by decide)(b:(x == ("__debug__" : Str))=false:=by decide)(d:An (e::es) X.env=(false,eval e X.env)::An es X.env:=by rfl)(c:(Cq pos (An es X.env)).any (·.1)=false:=by rfl):Fg X (.Call (.Name x p) (e::es) [] pos) (JP rd a) :=
 PE.imp (bS h j g hv f i b d c) (X5 o)
theorem To(h:Na X (.type T) r)(o:Wj X.K r rd)(j:Gl X x)(g:X.mg x=none)(hv:Jz x=some (.type T))(f:Wb X (e::es) a)(i:x ≠ "__name__" := by decide)(b:(x == ("__debug__" : Str))=false:=by decide)(d:An (e::es) X.env=(false,eval e X.env)::An es X.env:=by rfl)(c:(Cq pos (An es X.env)).any (·.1)=false:=by rfl):Fg X (.Call (.Name x p) (e::es) [] pos) (JP rd a) :=
 PE.imp (Tn h j g hv f i b d c) (X5 o)
end
theorem AQ{b c:Type}{f:b->c}{l:List b}{x:c}(h:l.map f=[x]):∃a,l=[a]/\f a=x:=by
 cases l with
 | nil=>cases h
 | cons a t =>
  obtain ⟨d,e⟩:=Fp h
  exact ⟨a,by rw[List.map_eq_nil_iff.mp e],d⟩
theorem GZ{c d:Type}{f:c->d}{l:List c}{x y:d}(h:l.map f=[x,y]):∃a b,l=[a,b]/\f a=x/\f b=y:=by
 cases l with
 | nil=>cases h
 | cons a t =>
  obtain ⟨e,g⟩:=Fp h
  obtain ⟨b,rfl,i⟩:=AQ g
  exact ⟨a,b,rfl,e,i⟩
theorem Kt{K:PySem.W.Frag}{H0 H:Hp}{X:Addr->Prop}{n:Nat}{S T As:List Ent}{us:List V}{x:DV}(d:As.map Ent.v=us.map some)(f:At K H0 X n (S++(As++T)) H)(ex:As.map Ent.x=[x]):∃v F,us=[v]/\At K H0 X n (S++⟨some v,x,F⟩::T) H:=by
 obtain ⟨⟨v,y,F⟩,rfl,c⟩:=AQ ex
 obtain ⟨u,rfl,e⟩:=AQ d.symm
 have b:y=x:=c
 have a:some u=v:=e
 subst b a
 exact ⟨u,F,rfl,f⟩
theorem A8{K:PySem.W.Frag}{H0 H:Hp}{X:Addr->Prop}{n:Nat}{S T As:List Ent}{us:List V}{x y:DV}(g:As.map Ent.v=us.map some)(m:At K H0 X n (S++(As++T)) H)(ex:As.map Ent.x=[x,y]):∃v F w G,us=[v,w]/\At K H0 X n (S++⟨some v,x,F⟩::⟨some w,y,G⟩::T) H:=by
 obtain ⟨⟨v,l,F⟩,⟨w,i,G⟩,rfl,f,h⟩:=GZ ex
 obtain ⟨u,e,rfl,j,k⟩:=GZ g.symm
 have b:l=x:=f
 have a:i=y:=h
 have c:some u=v:=j
 have d:some e=w:=k
 subst b a c d
 exact ⟨u,F,e,G,rfl,m⟩
def zD:DC:=λa P=>match a with
 | [.dat _ (.list ds)]=>P (.dat .ow (.int ds.length))
 | [.dat _ (.tuple ds)]=>P (.dat .ow (.int ds.length))
 | [.dat _ (.str z)]=>z.length<=1000000/\P (.dat .ow (.int z.length))
 | _=>False
def rP(i:Bool):DC:=λa P=>match a with
 | [.dat m (.list ds)]=>Zc i m ds P
 | [.dat m (.tuple ds)]=>Zc i m ds P
 | _=>False
def jT(i:Bool):DC:=λa P=>match a with
 | [.dat m (.list ds)]=>iR i m ds P
 | [.dat m (.tuple ds)]=>P (.dat m (.tuple ds))
 | _=>False
def KH:DC:=λb P=>match b with
 | [.dat _ (.list ds)]=>∃a:List Int,ds=a.map Bz/\a≠[]/\∀M∈a,(∀x∈a,M<=x)->P (.dat .ow (.int M))
 | _=>False
def r6:DC:=λa P=>match a with
 | [.dat _ (.list ds)]=>∃bs:List Bool,ds=bs.map Ub/\P (.dat .ow (.bool (bs.all id)))
 | _=>False
def M9:Ad->String
 | .none => "NoneType"
 | .bool _ => "bool"
 | .int _ => "int"
 | .str _ => "str"
 | .list _ => "list"
 | .tuple _ => "tuple"
 | .dict _ => "dict"
def Ux(d:Ad)(n:String):Bool:=M9 d == n || (M9 d == "bool" && n == "int")
def n6:DC:=λa P=>match a with
 | [.dat _ d,.val (.ty n)]=>(n = "int" \/ n = "bool" \/ n = "str" \/ n = "list" \/ n = "tuple")/\P (.dat .ow (.bool (Ux d n)))
 | _=>False
section
variable{K:PySem.W.Frag}
theorem J4:Wj K (λxs H Q=>∃x n,xs=[x]/\GY K x H n/\Q (.int n) H) zD:=by
 intro h X n S T g i H Q P e b c k
 unfold zD at c
 split at c
 ·rename_i ex
  obtain ⟨v,F,rfl,b⟩:=Kt e b ex
  obtain ⟨a,xs,G,rfl,d,f,_,_⟩:=(b.told mem_mid).list_inv
  exact ⟨_,_,rfl,.inl ⟨xs,Ua.of d,f.len.symm⟩,k _ _ [] H (b.drop.pushI (.int _)) c⟩
 ·rename_i ex
  obtain ⟨v,F,rfl,b⟩:=Kt e b ex
  obtain ⟨a,xs,rfl,d,f,_⟩:=(b.told mem_mid).tup_inv
  exact ⟨_,_,rfl,.inr ⟨xs,Tr.of d,f.len.symm⟩,k _ _ [] H (b.drop.pushI (.int _)) c⟩
 ·rename_i ex
  obtain ⟨v,F,rfl,b⟩:=Kt e b ex
  obtain ⟨rfl,_⟩:=(b.told mem_mid).str_inv
  exact ⟨_,_,rfl,⟨pB c.1,rfl⟩,k _ _ [] H (b.drop.pushI (.int _)) c.2⟩
 ·exact c.elim
theorem iK{i:Bool}:Wj K (X6 K) (rP i):=by
 intro r X n S T q s H Q P o b c k
 unfold rP at c
 split at c
 ·rename_i ex
  obtain ⟨v,F,rfl,b⟩:=Kt o b ex
  obtain ⟨a,d,G,rfl,f,m,rfl,e⟩:=(b.told mem_mid).list_inv
  refine ⟨a,d,rfl,.inl (Ua.of f),λl h=>?_⟩
  obtain ⟨z,p,g,j⟩:=b.newL m (Dj _ _) e h c
  exact k _ _ _ _ g j
 ·rename_i ex
  obtain ⟨v,F,rfl,b⟩:=Kt o b ex
  obtain ⟨a,d,rfl,f,m,e⟩:=(b.told mem_mid).tup_inv
  refine ⟨a,d,rfl,.inr (Tr.of f),λl h=>?_⟩
  obtain ⟨z,p,g,j⟩:=b.newL m (Bm _) e h c
  exact k _ _ _ _ g j
 ·exact c.elim
theorem C1{i:Bool}:Wj K (AH K) (jT i):=by
 intro r X n S T q s H Q P g b c k
 unfold jT at c
 split at c
 ·rename_i ex
  obtain ⟨v,F,rfl,b⟩:=Kt g b ex
  obtain ⟨a,d,G,rfl,e,h,rfl,f⟩:=(b.told mem_mid).list_inv
  refine ⟨a,d,rfl,.inl ⟨Ua.of e,λl m=>?_⟩⟩
  obtain ⟨z,p,j,o⟩:=b.newT h (Dj _ _) f m c
  exact k _ _ _ _ j o
 ·rename_i ex
  obtain ⟨v,F,rfl,b⟩:=Kt g b ex
  obtain ⟨a,d,rfl,e,h,f⟩:=(b.told mem_mid).tup_inv
  exact ⟨a,d,rfl,.inr ⟨Tr.of e,k _ _ F H b c⟩⟩
 ·exact c.elim
theorem u7:Wj K (λxs H Q=>∃(p:Addr) (bs:List Bool),xs=[.ref p]/\Ua K H p (bs.map V.bl)/\Q (.bl (bs.all id)) H) r6:=by
 intro j X n S T i l H Q P f c b k
 unfold r6 at b
 split at b
 ·rename_i ex
  obtain ⟨v,F,rfl,c⟩:=Kt f c ex
  obtain ⟨bs,rfl,d⟩:=b
  obtain ⟨a,xs,G,rfl,e,g,rfl,h⟩:=(c.told mem_mid).list_inv
  obtain ⟨rfl,_⟩:=g.bools_inv
  exact ⟨a,bs,rfl,Ua.of e,k _ _ [] H (c.drop.pushI (.bl _)) d⟩
 ·exact b.elim
theorem P3{T n:String}{b:Bool}(a:(Kf T == Kf n)=false)(c:PySem.W.kitMeta n=true)(d:(fastBuiltinMro T).map (λx=>x.contains (Kf n))=some b):PySem.W.kitOne K (.type T) (.type n)=some b:=CO a c d
theorem U0{d:Ad}{n:String}(b:n = "int" \/ n = "bool" \/ n = "str" \/ n = "list" \/ n = "tuple"):PySem.W.kitOne K (.type (M9 d)) (.type n)=some (Ux d n):=by
 have a:∀T:String,(T = "NoneType" \/ T = "bool" \/ T = "int" \/ T = "str" \/ T = "list" \/ T = "tuple" \/ T = "dict")->PySem.W.kitOne K (.type T) (.type n)=some (T == n || (T == "bool" && n == "int")):=by
  intro T c
  rcases c with rfl | rfl | rfl | rfl | rfl | rfl | rfl <;> rcases b with rfl | rfl | rfl | rfl | rfl <;> first | exact AY | exact P3 (by decide +kernel) (by decide +kernel) (by decide +kernel)
 unfold Ux
 refine a _ ?_
 cases d <;> simp [M9]
theorem dA:Wj K (MO K) n6:=by
 intro m X n S T j o H Q P g c a k
 unfold n6 at a
 split at a
 ·rename_i ex
  obtain ⟨v,F,w,G,rfl,c⟩:=A8 g c ex
  have f:w=.ty _:=Br (c.ok _ Gm).1
  subst f
  have r:=c.told mem_mid
  refine ⟨v,_,.type (M9 _),_,rfl,?_,U0 a.1,k _ _ [] H (c.drop2.pushI (.bl _)) a.2⟩
  ·cases r with
   | non=>exact .non
   | bl b=>exact .bl b
   | int i=>exact .int i
   | str x=>exact .str x
   | lst h l d=>exact .lst h
   | tup h l d=>exact .tup h
   | dic h e d=>exact .dT h
   | dik h e d=>exact .dK h
   | dnm h e d=>exact .dT h
 ·exact a.elim
end
def dV(v:V):DE:=λa P=>P (.val v) a
section
variable{X:Cx}{e:Expr}
theorem BW{v:V}(h:PE X e (tC v)):Fg X e (dV v):=by
 refine PE.imp h λl H Q h=>?_
 obtain ⟨j,Y,S,T,g,P,rfl,d,i,c,k⟩:=h
 exact k _ g v [] S H rfl d ((i.push (e:=⟨some v,.val v,[]⟩) ⟨rfl,rfl⟩ (λf _=>⟨λ_ a b=>(nomatch b),λ_ a _=>Bc⟩) (λa b=>(nomatch b))).tomid) c
theorem mX{x:Str}{n:String}{pos:Pos}(c:Gl X x)(b:X.mg x=none)(hv:Jz x=some (.type n))(a:x ≠ "__name__" := by decide)(hd:(x == ("__debug__" : Str))=false:=by decide):Fg X (.Name x pos) (dV (.ty n)):=BW (tX c b hv rfl a hd)
end
theorem t5{ns:List Int}(h:∀x∈ns,0<=x/\x<60):(dR ns).length<=60 :=
 Bw (NdS.len_leI ((Xm ns).imp λ{x y} h=>Int.ne_of_lt h) λe a=>kP (h e (i8.mp a)).1 (h e (i8.mp a)).2) (by decide)
end DL
namespace Nd
open PySem PySem.Spec PyProof.Rows L2
end Nd
namespace Nd
open PySem PySem.Spec PyProof.Rows L2
open AutoSeq1 (wpAny_loadPart')
section
variable{prog:Bk}{w:World}{A:Cf}{E:Value->Ak->Prop}{s:Ak}
theorem Wm{it t:Addr}{i:Nat}{a:Array Value}{x:Value}{Q:Value->Ak->Prop}(b:s.heap.IsTupleIter it t i)(h:s.heap.IsTuple t a)(j:a[i]? = some x)(k:∀h',h'.IsTupleIter it t (i+1)->Dd it s.heap h'->Q x { s with heap:=h' }):wpAny (model prog w) A (Dv (.ref it)) Q E s:=by
 obtain ⟨o,d,g,c⟩:=id b
 obtain ⟨m,e,_,l,f⟩:=h
 unfold Dv
 refine Aa (Eu (name:=Kv "__next__") b.typeIs PySem.F.slot_tuple_iterator_next
  (Ek PySem.F.slot_tuple_iterator_next b.typeIs PySem.F.entry_tuple_iterator_next ?_ (PySem.F.args_tuple_iterator_next_1 _)))
 show wpAny _ _ (field (.ref it) 0 >>= _) _ _ s
 refine Aa (Ft d c (x:=.ref t) rfl ?_)
 show wpAny _ _ (if (Co t == Ib)=true then _ else _) _ _ s
 rw[if_neg (show ¬ ((Co t == Ib)=true) from Hh)]
 show wpAny _ _ (field (.ref it) 1 >>= _) _ _ s
 refine Aa (Ft d c (x:=.int i 0) rfl ?_)
 show wpAny _ _ (seqItems? (.ref t) >>= _) _ _ s
 refine Aa (Jm e f ?_)
 simp only[Mh,j]
 refine Aa (Rq d c (by simp) (Am ⟨x,rfl,Am (k _ ?_ (Dg ..))⟩))
 exact ⟨_,Jv _ d (Obj.isFreed_of_fields (Obj.data_mapFields c _)),(Obj.cls_mapFields ..).trans g,by
  rw[Obj.data_mapFields c]; simp [Jy]⟩
theorem Yk{it t:Addr}{i:Nat}{b:Array Value}{Q:Value->Ak->Prop}(j:A.handled=none)(c:s.heap.IsTupleIter it t i)(l:s.heap.IsTuple t b)(n:b[i]? = none)(k:∀h' e,Heap.ExtBut it s.heap h'->(∃o,h'.get? e=some o/\o.cls=.type "StopIteration")->E (.ref e) { s with heap:=h' }):wpAny (model prog w) A (Dv (.ref it)) Q E s:=by
 obtain ⟨o,h,q,f⟩:=id c
 obtain ⟨r,d,_,p,g⟩:=l
 unfold Dv
 refine Aa (Eu (name:=Kv "__next__") c.typeIs PySem.F.slot_tuple_iterator_next
  (Ek PySem.F.slot_tuple_iterator_next c.typeIs PySem.F.entry_tuple_iterator_next ?_ (PySem.F.args_tuple_iterator_next_1 _)))
 show wpAny _ _ (field (.ref it) 0 >>= _) _ _ s
 refine Aa (Ft h f (x:=.ref t) rfl ?_)
 show wpAny _ _ (if (Co t == Ib)=true then _ else _) _ _ s
 rw[if_neg (show ¬ ((Co t == Ib)=true) from Hh)]
 show wpAny _ _ (field (.ref it) 1 >>= _) _ _ s
 refine Aa (Ft h f (x:=.int i 0) rfl ?_)
 show wpAny _ _ (seqItems? (.ref t) >>= _) _ _ s
 refine Aa (Jm d g ?_)
 simp only[Mh,n]
 refine Aa (Rr (Aa (Rq h f (by simp) ?_)))
 show wpAny _ _ (newExc (.type "StopIteration") [] >>= _) _ _ _
 refine Aa ?_
 simp only[newExc,newTuple]
 refine Aa (Eo ?_ (by size_fits))
 refine Aa (m:=Zj _ _) (Mp (a:=Ib) (by first | rfl | (simp only[Zj]; rfl)) ?_)
 refine Eo ?_ (by size_fits)
 simp only[raiseNew]
 refine Aa (wpAny_handled ?_)
 first | rw[show A.in1.handled=none from j] | rw[j]
 refine Aa (Am (wpAny_throw ?_))
 exact k _ _ (((Dg ..).extBut.push _).push _) ⟨_,Be _ rfl,rfl⟩
end
theorem pN{prog:Bk}{w:World}{A:Cf}(g:A.handled=none)(it l:Addr)(d:l≠it)(a:Array Value):Draws prog w A it [it,l] a.size (λi v=>a[i]? = some v) (λi h=>h.IsTupleIter it l i/\h.IsTuple l a) where
 live:=λ_ _ st=>let ⟨o,ho,_⟩:=st.1; ⟨o,ho⟩
 frame:=λ_ _ _ st e=>⟨let ⟨o,ho,r⟩:=st.1; ⟨o,e it (by simp) o ho,r⟩,let ⟨o,ho,r⟩:=st.2; ⟨o,e l (by simp) o ho,r⟩⟩
 item:=λi s Q E f st m=>by
  refine Wm st.1 st.2 (x:=a[i]) (by simp [f]) λj c b=>?_
  exact m _ j s.toks (by simp [f]) ⟨c,st.2.extBut b.extBut d⟩ b
 done:=λs Q E st k=>Yk g st.1 st.2 (by simp) k
end Nd
namespace DL
open PySem L2 Nd
def dB(d:DE):DT:=λc P=>d c λx a=>match x with
 | .dat _ (.bool b)=>P b a
 | _=>False
def AD(dt:DT):DT:=λc P=>dt c λb a=>P (!b) a
def GX(dt d:DT):DT:=λc P=>dt c λb a=>match b with
 | true=>P true a
 | false=>d a P
def FZ(d:DE):DE:=λc P=>d c λx a=>match x with
 | .dat _ (.bool b)=>P (.dat .ow (.bool (!b))) a
 | _=>False
def HQ(c db:DE):DE:=λb P=>c b λx a=>match x with
 | .dat _ (.bool true)=>db a P
 | .dat _ (.bool false)=>P (.dat .ow (.bool false)) a
 | _=>False
def HK(dt:DT)(d db:DE):DE:=λc P=>dt c λb a=>match b with
 | true=>d a P
 | false=>db a P
def GI(c:DE):DE:=λb P=>c b λx a=>match x with
 | .dat _ (.int i)=>P (.dat .ow (.int (-i))) a
 | _=>False
section
variable{K:PySem.W.Frag}{a:DE}
theorem T5:∀c H Q,LT K (dB a) c H Q->LE K a c H λx H'=>∃k,x=.bl k/\Q k H':=by
 intro c H Q h
 obtain ⟨i,Y,S,T,n,P,rfl,l,p,j,k⟩:=h
 refine ⟨i,Y,S,T,n,_,rfl,l,p,j,λx e v F m g o f b d=>?_⟩
 split at d
 ·obtain ⟨rfl,_⟩:=(b.told mem_mid).bl_inv
  exact ⟨_,rfl,k _ e m g o f b.drop d⟩
 ·exact d.elim
end
section
variable{X:Cx}{a b c e:Expr}{d db g:DE}{dt f:DT}{pos:Pos}{Mi:List Expr}
theorem Mv(h:Fg X e g)(b:∀a,isTrue e X.env a=(do let v <- a; Gp e.pos; Gf [v] (truthy v)):=by intro _; rfl):fH X e (dB g):=PT.imp (C5 h b) T5
theorem Xk{c:CmpOp}{r:R2}{rd:D2}(i:Xa X (Ii c) r)(o:qY X.K r rd)(e:Fg X a d)(hb:Fg X b db)(f:Iy c b=false):fH X (.Compare a [c] [b] pos) (dB (dY rd d db)):=by
 refine PT.imp (jD i e hb f) λg H Q h=>?_
 exact uJ o _ _ _ (T5 g H Q h)
theorem j6(c:Fg X a d)(hb:Fg X b db):fH X (.Compare a [.Lt] [b] pos) (dB (dY rdLt d db)):=Xk FX (uX λ_ _ _=>.bl _) c hb (Qr _)
theorem AL(c:Fg X a d)(hb:Fg X b db):fH X (.Compare a [.Gt] [b] pos) (dB (dY rdGt d db)):=Xk HX (uX λ_ _ _=>.bl _) c hb (Qr _)
theorem HF(c:Fg X a d)(hb:Fg X b db):fH X (.Compare a [.GtE] [b] pos) (dB (dY rdGe d db)):=Xk Z3 (uX λ_ _ _=>.bl _) c hb (Qr _)
theorem Lk(e:X.A.units+64<cLine)(c:Fg X a d)(hb:Fg X b db):fH X (.Compare a [.Eq] [b] pos) (dB (dY (jN false) d db)):=Xk (C0 e) Y1 c hb (Qr _)
theorem tS(e:X.A.units+64<cLine)(c:Fg X a d)(hb:Fg X b db):fH X (.Compare a [.NotEq] [b] pos) (dB (dY (jN true) d db)):=Xk (DK e) IL c hb (Qr _)
theorem t8(f:X.A.units+64<cLine)(e:Fg X a d)(hb:Fg X b db)(c:Iy .NotIn b=false:=by with_unfolding_all rfl):fH X (.Compare a [.NotIn] [b] pos) (dB (dY (xY true) d db)):=Xk (vO f) AM e hb c
theorem Pe(h:fH X a dt):fH X (.UnaryOp .Not a pos) (AD dt):=by
 refine PT.imp (EI h) λq H Q h=>?_
 obtain ⟨g,Y,S,T,l,P,rfl,j,o,i,k⟩:=h
 exact ⟨g,Y,S,T,l,_,rfl,j,o,i,λb d f n m e c p=>k _ d f n m e c p⟩
theorem dG(h:fH X a dt):JH X (.BoolOp .Or [a] pos) dt:=BH h
theorem Yz(h:fH X a dt)(hb:JH X (.BoolOp .Or (b::Mi) pos) f):JH X (.BoolOp .Or (a::b::Mi) pos) (GX dt f):=by
 refine PW.imp (IE h hb) λr H Q h=>?_
 obtain ⟨i,Y,S,T,n,P,rfl,m,q,l,k⟩:=h
 refine ⟨i,Y,S,T,n,_,rfl,m,q,l,λb d g o j e c p=>?_⟩
 cases b with
 | true=>exact oF (k _ d g o j e c p)
 | false=>exact nU ⟨i,Y,g,T,d,P,j,e,c,p,k⟩
theorem F9(h:JH X a dt):fH X a dt:=PW.pt h
theorem CZ{op}(h:Fg X a d):Fg X (.BoolOp op [a] pos) d:=FE h
theorem AZ(h:Fg X a d)(hb:Fg X (.BoolOp .And (b::Mi) pos) db):Fg X (.BoolOp .And (a::b::Mi) pos) (HQ d db):=by
 refine PE.imp (DH h hb) λr H Q h=>?_
 obtain ⟨i,Y,S,T,p,P,rfl,o,q,n,k⟩:=h
 refine ⟨i,Y,S,T,p,_,rfl,o,q,n,λx e v F j m l g c f=>?_⟩
 split at f
 ·obtain ⟨rfl,_⟩:=(c.told mem_mid).bl_inv
  exact ⟨_,rfl,oF ⟨i,Y,j,T,e,P,l,g,c.drop,f,k⟩⟩
 ·obtain ⟨rfl,_⟩:=(c.told mem_mid).bl_inv
  exact ⟨_,rfl,nU (k _ e _ [] j m l g (c.drop.pushI (.bl _)) f)⟩
 ·exact f.elim
theorem j8(h:Fg X a d):Fg X (.UnaryOp .Not a pos) (FZ d):=by
 refine PE.imp (BO h) λq H Q h=>?_
 obtain ⟨i,Y,S,T,n,P,rfl,l,p,j,k⟩:=h
 refine ⟨i,Y,S,T,n,_,rfl,l,p,j,λx e v F m g o f b c=>?_⟩
 split at c
 ·obtain ⟨rfl,_⟩:=(b.told mem_mid).bl_inv
  exact ⟨_,rfl,k _ e _ [] m g o f (b.drop.pushI (.bl _)) c⟩
 ·exact c.elim
theorem t9(h:Fg X a d):Fg X (.UnaryOp .USub a pos) (GI d):=by
 refine PE.imp (GT CG h) λq H Q h=>?_
 obtain ⟨i,Y,S,T,n,P,rfl,l,p,j,k⟩:=h
 refine ⟨i,Y,S,T,n,_,rfl,l,p,j,λx e v F m g o f b c=>?_⟩
 split at c
 ·obtain ⟨rfl,_⟩:=(b.told mem_mid).int_inv
  exact ⟨_,rfl,k _ e _ [] m g o f (b.drop.pushI (.int _)) c⟩
 ·exact c.elim
theorem zT(o:fH X c dt)(m:Fg X a d)(hb:Fg X b db):Fg X (.IfExp c a b pos) (HK dt d db):=by
 refine PE.imp (yY o m hb) λt H Q h=>?_
 obtain ⟨g,Y,S,T,r,P,rfl,q,s,n,k⟩:=h
 refine ⟨g,Y,S,T,r,_,rfl,q,s,n,λb f j u l i e p=>?_⟩
 cases b with
 | true=>exact oF ⟨g,Y,j,T,f,P,l,i,e,p,k⟩
 | false=>exact nU ⟨g,Y,j,T,f,P,l,i,e,p,k⟩
end
theorem PS.impD{X:Cx}{st:Stmt}{t t':TS}(h:PS X st t)(k:∀D b H,t' D b H->t D b H):PS X st t':=λa s b H D I q=>h a s b H D I (k D b H q)
theorem Uo.impD{X:Cx}{st:List Stmt}{t t':TS}(h:Uo X st t)(k:∀D b H,t' D b H->t D b H):Uo X st t':=λa s b H D I q=>h a s b H D I (k D b H q)
def Z2:DB:=λD a=>D.nx a
def U4(t u:DB):DB:=λD b=>t { D with nx:=λa=>u D a } b
def CF(b:DE):DB:=λD a=>b a D.rt
def oN(c:DE):DB:=λD b=>c b λ_ a=>D.nx a
def JD(dt:DT)(t u:DB):DB:=λD c=>dt c λb a=>match b with
 | true=>t D a
 | false=>u D a
def mR(c:DE)(d:DG):DB:=λD b=>c b λx a=>d x a D.nx
section
variable{X:Cx}{st:Stmt}{e f c:Expr}{t u:DB}{Mi:List Stmt}{d:DE}{i:DG}{dt:DT}{pos:Pos}
theorem Fh:Uq X [] Z2:=by
 refine Uo.impD sT λD i H h=>?_
 obtain ⟨f,Y,S,T,c,P,rfl,b,j,e,a,d,k,g,l⟩:=h
 exact d c S H b e a
theorem Bt(j:oV X st t)(n:Uq X Mi u):Uq X (st::Mi) (U4 t u):=by
 refine Uo.impD (Ja j n) λD s H h=>?_
 obtain ⟨c,Y,S,T,o,P,rfl,m,e,r,l,q,f,d,g⟩:=h
 exact ⟨c,Y,S,T,o,_,rfl,m,e,r,l,λa k v i b p=>⟨c,Y,k,T,a,P,rfl,i,e,b,p,q,f,d,g⟩,f,d,g⟩
theorem Df(a:oV X st t):Uq X [st] t:=Ni a
theorem Ez(c:Fg X e d):oV X (.Return (some e) pos) (CF d):=by
 refine PS.impD (Xt c) λD s H h=>?_
 obtain ⟨i,Y,S,T,l,P,rfl,k,t,o,j,w,m,r,q⟩:=h
 exact ⟨i,Y,S,T,l,_,rfl,k,o,j,λx b v F g n u f a p=>m x b v F g n f a p⟩
theorem Ip(c:Fg X e d)(g:El e none pos.line X.env=pure false:=by rfl):oV X (.Expr e pos) (oN d):=by
 refine PS.impD (Wo c g) λD s H h=>?_
 obtain ⟨o,Y,S,T,m,P,rfl,q,y,r,l,j,t,u,w⟩:=h
 refine ⟨o,Y,S,T,m,_,rfl,q,r,l,λx a v F f n i k b p=>?_⟩
 rw[<- i]
 exact j a f n k b.drop p
theorem Lj{a b:List Stmt}(q:fH X c dt)(r:Uq X a t)(hb:Uq X b u):oV X (.If c a b pos) (JD dt t u):=by
 refine PS.impD (uR q r hb) λD y H h=>?_
 obtain ⟨f,Y,S,T,v,P,rfl,w,o,x,s,k,j,m,n⟩:=h
 refine ⟨f,Y,S,T,v,_,rfl,w,x,s,λb d g z i l e p=>?_⟩
 cases b with
 | true=>exact oF ⟨f,Y,g,T,d,P,i,l,o,e,p,k,j,m,n⟩
 | false=>exact nU ⟨f,Y,g,T,d,P,i,l,o,e,p,k,j,m,n⟩
theorem dW{K:PySem.W.Frag}{k:TE}{g:TG}(B:∀a H Q,LE K d a H Q->k a H Q)(z:∀v a H Q,LG K i v a H Q->g v a H Q):∀D a H,LS K (mR d i) D a H->W6 k g D a H:=by
 intro D a H h
 obtain ⟨j,Y,S,T,w,P,rfl,y,J,A,u,r,C,E,I⟩:=h
 refine B _ _ _ ⟨j,Y,S,T,w,_,rfl,y,A,u,λx b v F l G o s e p=>?_⟩
 exact z _ _ _ _ ⟨j,Y,l,T,b,x,F,P.nx,o,s,e,p,λc n t m f q=>r c n t m f q⟩
theorem Mx(a:Fg X e d)(g:Y2 X f i)(c:swapsWithSole [f] e pos.line X.env=pure false:=by rfl)(hw:swappedStores [f] e X.env=pure none:=by rfl)(b:(Fk [f] X.env).map (·.2)=[Po f X.env]:=by rfl):oV X (.Assign [f] e pos) (mR d i):=PS.impD (rM a g c hw b) (dW (λ_ _ _ h=>h) λ_ _ _ _ h=>h)
end
def Rj(i:Nat):DG:=λx a P=>match x with
 | .dat .pk _=>False
 | .dat _ d=>P ⟨a.sl.set i (.dat .sh d),a.n⟩
 | .val v=>P ⟨a.sl.set i (.val v),a.n⟩
 | .drw=>P ⟨a.sl.set i .drw,a.n⟩
 | .dT b=>P ⟨a.sl.set i (.dT b),a.n⟩
 | _=>False
def hZ(i:Nat):DG:=λx a P=>match x with
 | .dat .ow d=>P ⟨a.sl.set i (.dat .ow d),a.n⟩
 | .dat .tp d=>P ⟨a.sl.set i (.dat .tp d),a.n⟩
 | _=>False
theorem At.store{K:PySem.W.Frag}{H0 H:Hp}{X:Addr->Prop}{n:Nat}{S T:List Ent}{e:Ent}{i:Nat}(h:At K H0 X n (S++e::T) H):At K H0 X n (S.set i e++T) H:=by
 by_cases b:i<S.length
 ·have a:S[i]? = some S[i]:=by simp [b]
  have p:(S++e::T).Perm (S[i]::(S.set i e++T)):=by
   refine Cy.trans ?_
   rw[<- Cd,<- Cd]
   exact (Ta a).append_right T
  exact (h.perm p).sub (Dj _ _)
 ·rw[List.set_eq_of_length_le (by omega)]
  exact h.drop
theorem rL{S:List Ent}{i:Nat}{v:V}{x:DV}{F:List Addr}:vs (S.set i ⟨some v,x,F⟩)=(vs S).set i (some v):=by
 unfold vs
 rw[Fc]
theorem Qs{S:List Ent}{a:DS}{i n:Nat}{v:V}{x:DV}{F:List Addr}(h:Sl S a):Sl (S.set i ⟨some v,x,F⟩) ⟨a.sl.set i x,n⟩:=by
 unfold Sl at h ⊢
 rw[Fc,h]
theorem iJ{K:PySem.W.Frag}{i:Nat}:∀v f H Q,LG K (Rj i) v f H Q->Sz i v f H Q:=by
 intro v f H Q h
 obtain ⟨j,Y,S,T,g,x,F,P,rfl,o,c,b,k⟩:=h
 show Q ((vs S).set i (some v)) H
 have a:∀y,At K j Y g.n (S++⟨some v,y,F⟩::T) H->P ⟨g.sl.set i y,g.n⟩->Q ((vs S).set i (some v)) H:=λy e p=>by
  rw[<- rL (x:=y) (F:=F)]
  exact k _ _ H (Qs o) e.store p
 unfold Rj at b
 split at b
 ·exact b.elim
 ·rename_i m d l
  refine a _ ?_ b
  refine (c.mid.wk ?_).tomid
  cases m <;> first | rfl | exact (l rfl).elim
 ·exact a _ c b
 ·exact a _ c b
 ·exact a _ c b
 ·exact b.elim
theorem B8{K:PySem.W.Frag}{i:Nat}:∀v d H Q,LG K (hZ i) v d H Q->Sz i v d H Q:=by
 intro v d H Q h
 obtain ⟨j,Y,S,T,e,x,F,P,rfl,g,f,b,k⟩:=h
 show Q ((vs S).set i (some v)) H
 have a:∀y,At K j Y e.n (S++⟨some v,y,F⟩::T) H->P ⟨e.sl.set i y,e.n⟩->Q ((vs S).set i (some v)) H:=λy c p=>by
  rw[<- rL (x:=y) (F:=F)]
  exact k _ _ H (Qs g) c.store p
 unfold hZ at b
 split at b
 ·exact a _ f b
 ·exact a _ f b
 ·exact b.elim
section
variable{X:Cx}{pos:Pos}
theorem Ct{i:Nat}{x:Str}(c:X.N.Nodup)(d:X.N[i]? = some x)(b:Loc X.env.scope x)(a:X.fn x=true\/X.env.scope.names.lookup x=some .local:=by first | exact .inl rfl | exact .inr rfl | assumption):Y2 X (.Name x pos) (Rj i):=PG.imp (Ou c d b a) iJ
theorem Ey{i:Nat}{x:Str}{e:Expr}{a:DE}{pos':Pos}(d:X.N.Nodup)(j:X.N[i]? = some x)(g:Loc X.env.scope x)(c:Fg X e a)(f:El e (some (.Name x pos')) pos.line X.env=pure false:=by rfl)(b:X.fn x=true\/X.env.scope.names.lookup x=some .local:=by first | exact .inl rfl | exact .inr rfl | assumption):oV X (.Assign [.Name x pos'] e pos) (mR a (Rj i)):=PS.impD (Sd d j g c f b) (dW (λ_ _ _ h=>h) iJ)
theorem aT{i:Nat}{x:Str}{e:Expr}{a:DE}{pos':Pos}(d:X.N.Nodup)(j:X.N[i]? = some x)(g:Loc X.env.scope x)(c:Fg X e a)(f:El e (some (.Name x pos')) pos.line X.env=pure false:=by rfl)(b:X.fn x=true\/X.env.scope.names.lookup x=some .local:=by first | exact .inl rfl | exact .inr rfl | assumption):oV X (.Assign [.Name x pos'] e pos) (mR a (hZ i)):=PS.impD (Sd d j g c f b) (dW (λ_ _ _ h=>h) B8)
end
def M0:wF:=λb a P=>match b with
 | []=>P a
 | _=>False
def uV(g:DG)(d:wF):wF:=λc b P=>match c with
 | x::r=>g x b λa=>d r a P
 | []=>False
def o4(n:Nat)(b:wF):DG:=λx a P=>match x with
 | .dat m (.tuple ds)=>ds.length=n/\b (ds.map λd=>.dat (Mn m) d) a P
 | _=>False
theorem At.unpack{K:PySem.W.Frag}{H0 H:Hp}{X:Addr->Prop}{n:Nat}{m:Md}:∀{us:List V} {ds:List Ad} {F:List Addr} {E:List Ent},RdFs K H us ds F->(m=.ow->F.Nodup)->(∀f∈E,Nq ⟨none,.dat (Mn m) .none,F⟩ f)->(∀a∈cells ⟨none,.dat (Mn m) .none,F⟩,H0 a=none)->At K H0 X n E H->∃As:List Ent,As.map Ent.v=us.map some/\As.map Ent.x=ds.map (λd=>.dat (Mn m) d)/\(∀e∈As,∀a∈e.F,a∈F)/\At K H0 X n (As++E) H
 | _,_,_,_,.nil,_,_,_,h=>⟨[],rfl,rfl,λ_ z=>(nomatch z),h⟩
 | _,_,_,E,.cons (x:=x) (d:=d) (F:=F1) (G:=G1) a t,hn,hs,hnew,h=>by
  have cs:∀{G:List Addr} {u:Option V} {g:Ad},(∀b∈G,b∈F1++G1)->∀b∈cells ⟨u,.dat (Mn m) g,G⟩,b∈cells ⟨none,.dat (Mn m) .none,F1++G1⟩:=λ{G u g} i b c=>by
   cases m with
   | ow=>exact i b c
   | _=>exact nomatch c
  have sub:∀{G:List Addr} {u:Option V} {g:Ad} {f:Ent},(∀b∈G,b∈F1++G1)->Nq ⟨none,.dat (Mn m) .none,F1++G1⟩ f->Nq ⟨u,.dat (Mn m) g,G⟩ f:=λ{G u g f} i q=>by
   refine ⟨λhp b c=>q.1 ?_ b (cs i b c),λhp b c z=>q.2 ?_ b c (i b z)⟩
   ·rcases hp with hp | hp
    ·exact .inl hp
    ·cases hp
   ·rcases hp with hp | hp
    ·refine .inl ?_
     cases m <;> exact hp
    ·exact .inr hp
  obtain ⟨As,o,k,j,p⟩:=At.unpack (m:=m) t (λz=>(Qm.mp (hn z)).2.1) (λf hf=>sub (λb c=>Ag _ c) (hs f hf)) (λb c=>hnew b (cs (λb c=>Ag _ c) b c)) h
  refine ⟨⟨some x,.dat (Mn m) d,F1⟩::As,by rw[Ap,Ap,o],by rw[Ap,Ap,k],λe he b c=>?_,?_⟩
  ·rcases Ai.mp he with rfl | he
   ·exact Ae _ c
   ·exact Ag _ (j e he b c)
  ·refine p.push ⟨x,rfl,a,λz=>?_,λz=>?_⟩ (λf hf=>?_) λb c=>.inl (hnew b (cs (λb c=>Ae _ c) b c))
   ·cases m with
    | ow=>exact (Qm.mp (hn rfl)).1
    | _=>cases z
   ·cases m <;> cases z
   ·rcases Ar.mp hf with hf | hf
    ·have l:f.x∈As.map Ent.x:=Fb.mpr ⟨f,hf,rfl⟩
     rw[k] at l
     obtain ⟨g,_,r⟩:=Fb.mp l
     refine ⟨λhp b c z=>?_,λhp b c z=>?_⟩
     ·cases m with
      | ow=>exact (Qm.mp (hn rfl)).2.2 b c b (j f hf b z) rfl
      | _=>exact nomatch c
     ·cases m with
      | ow=>exact (Qm.mp (hn rfl)).2.2 b z b (j f hf b (Dm _ _ c)) rfl
      | _ =>
       unfold cells at c
       rw[<- r] at c
       exact nomatch c
    ·exact sub (λb c=>Ae _ c) (hs f hf)
section
variable{X:Cx}{pos:Pos}
theorem Ia:w4 X [] M0:=by
 refine AA.imp tH λg j H Q h=>?_
 obtain ⟨i,Y,S,T,d,f,P,rfl,e,b,c,a,k⟩:=h
 match d,c,a,b with
 | [],c,a,b =>
  cases g with
  | nil=>exact ⟨rfl,k f S H e c a⟩
  | cons _ _=>cases b
 | _::_,c,a,b=>exact a.elim
theorem Ck{e:Expr}{es:List Expr}{g:DG}{m:wF}(A:Y2 X e g)(z:w4 X es m)(r:(Fk (e::es) X.env).map (·.2)=Po e X.env::(Fk es X.env).map (·.2):=by rfl):w4 X (e::es) (uV g m):=by
 refine AA.imp (bF A z r) λl B H Q h=>?_
 obtain ⟨n,Y,S,T,c,w,P,rfl,y,a,d,b,k⟩:=h
 match c,d,b,a with
 | [],d,b,a=>exact b.elim
 | ⟨v,x,F⟩::c,d,b,a =>
  cases l with
  | nil=>cases a
  | cons u l =>
   rw[Ap,Ap] at a
   obtain ⟨s,t⟩:=Fp a
   have f:v=some u:=s
   subst f
   refine ⟨u,l,rfl,n,Y,S,c++T,w,x,F,_,rfl,y,d,b,λi o C q j p=>?_⟩
   exact ⟨n,Y,o,T,c,i,P,rfl,q,t,j,p,k⟩
theorem Lm{es:List Expr}{y:Nat}{o:wF}{n:Nat}(s:X.calm=true)(h:w4 X es o)(J:(Fk es X.env).length=n:=by rfl)(g:(Fk es X.env).findIdx? (·.1)=none:=by rfl):Y2 X (.Tuple es y pos) (o4 n o):=by
 refine PG.imp (A4 s h J g) λv L H Q h=>?_
 obtain ⟨C,Y,S,T,A,x,F,P,rfl,D,i,d,k⟩:=h
 unfold o4 at d
 split at d
 ·rename_i m u
  obtain ⟨a,B,rfl,t,l,N⟩:=(i.told mem_mid).tup_inv
  have e:=i.mid
  have p:=Ax.mp e.sep
  obtain ⟨w,_,_,j,_⟩:=e.ok _ Ab
  have cs:∀b∈cells ⟨none,.dat (Mn m) .none,F⟩,b∈cells ⟨some (.ref a),.dat m (.tuple u),F⟩:=λb c=>by
   cases m with
   | ow=>exact c
   | _=>exact nomatch c
  obtain ⟨r,I,G,M,K⟩:=At.unpack (m:=m) (E:=S++T) l j (λf q=>by
   refine ⟨λhq b c=>(p.1 f q).1 ?_ b (cs b c),λhq b c=>(p.1 f q).2 ?_ b c⟩
   ·rcases hq with hq | hq
    ·exact .inl hq
    ·cases hq
   ·rcases hq with hq | hq
    ·refine .inl ?_
     cases m <;> first | rfl | exact hq
    ·exact .inr hq) (λb c=>by
   rcases e.new _ Ab b (cs b c) with z | z
   ·exact z
   ·cases z.2) i.drop
  refine ⟨a,B,rfl,Tr.of t,by rw[l.len]; exact d.1,C,Y,S,T,r,A,P,rfl,D,I,K.perm ?_,by rw[G]; exact d.2,k⟩
  rw[<- Az,<- Az]
  exact Ej.append_right T
 ·exact d.elim
end
theorem bX{K:PySem.W.Frag}{H0 H:Hp}{X:Addr->Prop}{n:Nat}{E:List Ent}(h:At K H0 X n E H):∀{e f:Ent},e∈E->f∈E->e=f\/Nq e f:=by
 have a:∀{E:List Ent},E.Pairwise Nq->∀{e f:Ent},e∈E->f∈E->e=f\/Nq e f:=by
  intro E
  induction E with
  | nil=>intro _ e f he; cases he
  | cons g E c =>
   intro d e f he hf
   have b:=Ax.mp d
   rcases Ai.mp he with he | he
   ·subst he
    rcases Ai.mp hf with hf | hf
    ·exact .inl hf.symm
    ·exact .inr (b.1 f hf)
   ·rcases Ai.mp hf with hf | hf
    ·rw[hf]
     exact .inr (b.1 e he).symm
    ·exact c b.2 he hf
 intro e f he hf
 exact a h.sep he hf
abbrev DI:=DS->(Md->List Ad->DS->Prop)->Prop
structure IterOk(K:PySem.W.Frag)(J:It)(hid:List Ent)(m:Md)(ds:List Ad):Prop where
 md:m=.sh\/m=.pk
 hd:∀e∈hid,cells e=[]
 np:m=.sh->∀e∈hid,Lr e.x=false
 go:∀H n i,(∀e∈hid,Fx K H n e)->i<ds.length->J.go i H
 yld:∀H n i x H',(∀e∈hid,Fx K H n e)->i<ds.length->J.yld i H x H'->Lu H H'/\∃d F,ds[i]? = some d/\RdF K H' x d F/\∀a∈F,∃e∈hid,a∈e.F
 stop:∀H n,(∀e∈hid,Fx K H n e)->J.stop ds.length H
def LI(K:PySem.W.Frag)(i:DI):TI:=λg H R=>∃(f:Hp) (X:Addr->Prop) (S T:List Ent) (e:DS) (P:Md->List Ad->DS->Prop),vs S=g/\Sl S e/\At K f X e.n (S++T) H/\i e P /\
 ∀m d a J b c h,vs c=g->Sl c a->At K f X a.n (c++(b++T)) h->IterOk K J b m d->d.length<=Ba->P m d a->R J h
abbrev sC(X:Cx)(a iter:Expr)(b:DI):Prop:=PI X a iter (LI X.K b)
theorem PI.imp{X:Cx}{c e:Expr}{t t':TI}(h:PI X c e t)(k:∀b H Q,t' b H Q->t b H Q):PI X c e t':=λa s b H Q I q=>h a s b H Q I (k b H Q q)
def Kd:Md->Md
 | .pk=>.pk
 | _=>.sh
theorem aN(m:Md):wk m (Kd m)=true:=by cases m <;> rfl
theorem At.item{K:PySem.W.Frag}{H0 H H':Hp}{X:Addr->Prop}{n:Nat}{S T b:List Ent}{m:Md}{v:V}{d:Ad}{F:List Addr}(h:At K H0 X n (S++(b++T)) H)(s:Lu H H')(r:RdF K H' v d F)(t:∀a∈F,∃e∈b,a∈e.F)(md:m=.sh\/m=.pk)(o:∀e∈b,cells e=[])(np:m=.sh->∀e∈b,Lr e.x=false):At K H0 X n (S++⟨some v,.dat m d,F⟩::(b++T)) H':=by
 have l:=h.grow (n':=n) s (Au _)
 have j:∀a,a∉cells ⟨some v,.dat m d,F⟩:=λa c=>by
  rcases md with rfl | rfl <;> exact nomatch c
 refine (l.push (e:=⟨some v,.dat m d,F⟩) ⟨v,rfl,r,λz=>?_,λz=>?_⟩ (λf k=>⟨λ_ a c=>absurd c (j a),λhq a c z=>?_⟩) λa c=>absurd c (j a)).tomid
 ·rcases md with rfl | rfl <;> cases z
 ·rcases md with rfl | rfl <;> cases z
 ·obtain ⟨e,g,p⟩:=t a z
  have i:e∈S++(b++T):=Ag _ (Ae _ g)
  rcases bX h i k with rfl | q
  ·rw[o e g] at c
   cases c
  ·refine q.2 ?_ a c p
   rcases hq with hq | hq
   ·refine .inl (np ?_ e g)
    rcases md with rfl | rfl
    ·rfl
    ·cases hq
   ·exact .inr hq
def MN(c:DE):DI:=λb P=>c b λx a=>match x with
 | .dat m (.list ds)=>P (Kd m) ds a
 | .dat m (.tuple ds)=>P (Kd m) ds a
 | _=>False
def nX(d:DA):DI:=λb P=>d b λc a=>match c with
 | [.dat _ (.int j)]=>-1000000<=j/\j<=1000000/\P .sh ((Ci j.toNat).map λi:Nat=>.int i) a
 | _=>False
def L4(d:DA):DI:=λb P=>d b λc a=>match c with
 | [.dat m (.list ds)]=>P (Kd m) (ds.zipIdx.map λp=>.tuple [.int p.2,p.1]) a
 | _=>False
def JB(d:DA):DI:=λb P=>d b λc a=>match c with
 | [.dat m (.tuple ds)]=>P (Kd m) (ds.zipIdx.map λp=>.tuple [.int p.2,p.1]) a
 | _=>False
section
variable{K:PySem.W.Frag}
theorem Kr{H:Hp}{n:Nat}{v:V}{m:Md}{d:Ad}{F:List Addr}{a:List Ent}(h:∀e∈a,Fx K H n e)(b:⟨some v,.dat m d,F⟩∈a):RdF K H v d F:=by
 obtain ⟨w,f,c,_⟩:=h _ b
 cases f
 exact c
theorem zM{v:Option V}{m:Md}{d:Ad}{F:List Addr}:cells ⟨v,.dat (Kd m) d,F⟩=[]:=by cases m <;> rfl
theorem kN{v:Option V}{m:Md}{d:Ad}{F:List Addr}:∀e∈[(⟨v,.dat (Kd m) d,F⟩ : Ent)],cells e=[]:=λe a=>by
 rw[Aj.mp a]
 exact zM
theorem uB{v:Option V}{m:Md}{d:Ad}{F:List Addr}:Kd m=.sh->∀e∈[(⟨v,.dat (Kd m) d,F⟩ : Ent)],Lr e.x=false:=λz e a=>by
 rw[Aj.mp a]
 show Lr (.dat (Kd m) d)=false
 rw[z]
 rfl
theorem aK(m:Md):Kd m=.sh\/Kd m=.pk:=by cases m <;> simp [Kd]
theorem yE{a:Addr}{m:Md}{ds:List Ad}{F:List Addr}:IterOk K (JT K a) [⟨some (.ref a),.dat (Kd m) (.list ds),F⟩] (Kd m) ds where
 md:=aK m
 hd:=kN
 np:=uB
 go:=λH n i h j=>by
  obtain ⟨b,d,G,e,f,g,_,_⟩:=(Kr h Ab).list_inv
  cases e
  have s:=g.len
  exact ⟨d,d[i],Ua.of f,by simp [show i<d.length by omega]⟩
 yld:=λH n i x u h j y=>by
  obtain ⟨b,d,G,e,f,g,rfl,_⟩:=(Kr h Ab).list_inv
  cases e
  obtain ⟨rfl,y⟩:=y
  have p:=y d (Ua.of f)
  obtain ⟨t,r,k,o,q⟩:=g.get (i:=i) (e:=ds[i]) (by simp [j])
  rw[p] at k
  cases k
  exact ⟨Lu.refl _,ds[i],r,by simp [j],o,λc l=>⟨_,Ab,Ah _ (q.subset l)⟩⟩
 stop:=λH n h=>by
  obtain ⟨b,d,G,e,f,g,_,_⟩:=(Kr h Ab).list_inv
  cases e
  exact ⟨d,Ua.of f,by rw[g.len]; exact Au _⟩
theorem zR{a:Addr}{m:Md}{ds:List Ad}{F:List Addr}:IterOk K (LX K a) [⟨some (.ref a),.dat (Kd m) (.tuple ds),F⟩] (Kd m) ds where
 md:=aK m
 hd:=kN
 np:=uB
 go:=λH n i h j=>by
  obtain ⟨b,d,e,f,g,_⟩:=(Kr h Ab).tup_inv
  cases e
  have s:=g.len
  exact ⟨d,d[i],Tr.of f,by simp [show i<d.length by omega]⟩
 yld:=λH n i x u h j y=>by
  obtain ⟨b,d,e,f,g,_⟩:=(Kr h Ab).tup_inv
  cases e
  obtain ⟨rfl,y⟩:=y
  have p:=y d (Tr.of f)
  obtain ⟨t,r,k,o,q⟩:=g.get (i:=i) (e:=ds[i]) (by simp [j])
  rw[p] at k
  cases k
  exact ⟨Lu.refl _,ds[i],r,by simp [j],o,λc l=>⟨_,Ab,q.subset l⟩⟩
 stop:=λH n h=>by
  obtain ⟨b,d,e,f,g,_⟩:=(Kr h Ab).tup_inv
  cases e
  exact ⟨d,Tr.of f,by rw[g.len]; exact Au _⟩
theorem pK{lo:Int}{n:Nat}:IterOk K (HW lo n) [] .sh ((Ci n).map λi:Nat=>.int (lo+i)) where
 md:=.inl rfl
 hd:=λ_ z=>nomatch z
 np:=λ_ _ z=>nomatch z
 go:=λH k i h a=>by
  show i<n
  simpa using a
 yld:=λH k i x b h a y=>by
  obtain ⟨rfl,rfl⟩:=y
  rw[Af,Hw] at a
  exact ⟨Lu.refl _,.int (lo+i),[],by simp [a],.int _,λ_ z=>nomatch z⟩
 stop:=λH k h=>by simp [HW]
theorem vX{a:Addr}{m:Md}{ds:List Ad}{F:List Addr}:IterOk K (KR K a) [⟨some (.ref a),.dat (Kd m) (.list ds),F⟩] (Kd m) (ds.zipIdx.map λp=>.tuple [.int p.2,p.1]) where
 md:=aK m
 hd:=kN
 np:=uB
 go:=λH n i h j=>by
  obtain ⟨b,d,G,e,f,g,_,_⟩:=(Kr h Ab).list_inv
  cases e
  have w:=g.len
  rw[Af,Jh] at j
  exact ⟨d,d[i],Ua.of f,by simp [show i<d.length by omega]⟩
 yld:=λH n i x B h j y=>by
  obtain ⟨b,d,G,e,f,g,rfl,_⟩:=(Kr h Ab).list_inv
  cases e
  rw[Af,Jh] at j
  obtain ⟨t,z,rfl,q,rfl,y⟩:=y
  have s:=y d (Ua.of f)
  obtain ⟨A,v,k,r,u⟩:=g.get (i:=i) (e:=ds[i]) (by simp [j])
  rw[s] at k
  cases k
  have l:=Et q (.tup [.int i,z])
  refine ⟨l,.tuple [.int i,ds[i]],v,by simp [j],.tup Cg (by simp [Fn]) ?_,λc o=>⟨_,Ab,Ah _ (u.subset o)⟩⟩
  have:=RdFs.cons (F:=[]) (.int (i:Int)) (RdFs.cons (r.kp (Kp.of l)) RdFs.nil)
  rw[Bo] at this
  exact this
 stop:=λH n h=>by
  obtain ⟨b,d,G,e,f,g,_,_⟩:=(Kr h Ab).list_inv
  cases e
  exact ⟨d,Ua.of f,by rw[Af,Jh,g.len]; exact Au _⟩
end
section
variable{X:Cx}{g e:Expr}{c:DE}{l:DI}
def dL(c:DE):DI:=λb P=>c b λx a=>match x with
 | .dat m (.list ds)=>P (Kd m) ds a
 | _=>False
def MF(c:DE):DI:=λb P=>c b λx a=>match x with
 | .dat m (.tuple ds)=>P (Kd m) ds a
 | _=>False
theorem M8(h:Fg X e c):sC X g e (dL c):=by
 refine PI.imp (R9 h) λy H R h=>?_
 obtain ⟨o,Y,S,T,s,P,rfl,q,u,p,k⟩:=h
 refine ⟨o,Y,S,T,s,_,rfl,q,u,p,λx f v F r n t i b d=>?_⟩
 split at d
 ·obtain ⟨a,j,G,rfl,l,w,rfl,m⟩:=(b.told mem_mid).list_inv
  exact ⟨a,rfl,⟨j,Ua.of l⟩,k _ _ f _ [_] r n t i ((b.mid.wk (aN _)).tomid) yE m d⟩
 ·exact d.elim
theorem IP(h:Fg X e c):sC X g e (MF c):=by
 refine PI.imp (BY h) λy H R h=>?_
 obtain ⟨o,Y,S,T,s,P,rfl,q,u,p,k⟩:=h
 refine ⟨o,Y,S,T,s,_,rfl,q,u,p,λx f v F r n t i b d=>?_⟩
 split at d
 ·obtain ⟨a,j,rfl,l,w,m⟩:=(b.told mem_mid).tup_inv
  exact ⟨a,rfl,⟨j,Tr.of l⟩,k _ _ f _ [_] r n t i ((b.mid.wk (aN _)).tomid) zR m d⟩
 ·exact d.elim
variable{es:List Expr}{f:DA}{a b:Expr}{p pos i:Pos}{d:List Expr}{j:Nat}
theorem gN(l:Gl X "range")(q:X.mg "range" = none)(n:Wb X [a] f)(i:An [a] X.env=[(false,eval a X.env)]:=by rfl):sC X g (.Call (.Name "range" p) [a] [] pos) (nX f):=by
 refine PI.imp (yN l q n i) λA H R h=>?_
 obtain ⟨t,Y,S,T,r,P,rfl,u,w,o,k⟩:=h
 refine ⟨t,Y,S,T,r,_,rfl,u,w,o,λD c z E e s j m ex y d p=>?_⟩
 split at p
 ·obtain ⟨v,F,rfl,b⟩:=Kt y d ex
  obtain ⟨rfl,_⟩:=(b.told mem_mid).int_inv
  obtain ⟨B,C,x⟩:=p
  refine ⟨_,rfl,by omega,by omega,k _ _ c _ [] e s j m b.drop pK (by rw[Af,Hw]; exact pB (by omega)) ?_⟩
  simpa using x
 ·exact p.elim
theorem U8(q:Gl X "enumerate")(t:X.mg "enumerate" = none)(c:Wb X [a] f)(n:An [a] X.env=[(false,eval a X.env)]:=by rfl):sC X (.Tuple d j i) (.Call (.Name "enumerate" p) [a] [] pos) (L4 f):=by
 refine PI.imp (O6 q t c n) λD H R h=>?_
 obtain ⟨y,Y,S,T,u,P,rfl,z,A,s,k⟩:=h
 refine ⟨y,Y,S,T,u,_,rfl,z,A,s,λl e C I m w o r ex B g p=>?_⟩
 split at p
 ·obtain ⟨v,F,rfl,b⟩:=Kt B g ex
  obtain ⟨a,l,G,rfl,c,E,rfl,x⟩:=(b.told mem_mid).list_inv
  exact ⟨a,rfl,⟨l,Ua.of c⟩,k _ _ e _ [_] m w o r ((b.mid.wk (aN _)).tomid) vX (by rw[Af,Jh]; exact x) p⟩
 ·exact p.elim
end
def T8(g:DI)(h:DG)(db:DB):DB:=λD f=>g f λm e c=>m=.sh/\∃I:Nat->DS->Prop,I 0 c /\
 (∀i d a,e[i]? = some d->I i a->h (.dat .sh d) a λb=>db { D with nx:=I (i+1),ct:=I (i+1),bk:=D.nx } b)/\∀a,I e.length a->D.nx a
section
variable{X:Cx}{b iter:Expr}{c:DI}{f:DG}{db:DB}{a:List Stmt}{pos:Pos}
theorem At.dropH{K:PySem.W.Frag}{H0 H:Hp}{X:Addr->Prop}{n:Nat}{S T a:List Ent}{e:Ent}(h:At K H0 X n (S++e::(a++T)) H):At K H0 X n (S++e::T) H:=h.sub ((Bm S).append ((Bv a T).cons₂ e))
theorem iQ(hp:aE (model X.prog X.w) X.A X.env X.xe)(hc:X.calm=true)(hi:sC X b iter c)(hg:Y2 X b f)(hb:Uq X a db)(O:∀x,Cr iter X.env x=pure x:=by intro _; rfl):oV X (.For b iter a [] pos) (T8 c f db):=by
 refine PS.impD (qF hp hc hi hg hb O) λD M H h=>?_
 obtain ⟨C,Y,S,T,p,P,rfl,hS,hT,hA,hd,k1,k2,k3,k4⟩:=h
 refine ⟨C,Y,S,T,p,_,rfl,hS,hA,hd,λm B Q J o S1 H1 e1 e2 U it hz p1=>?_⟩
 obtain ⟨rfl,I,h0,O,hf⟩:=p1
 rw[<- e1]
 have V:∀e∈o++T,Lr e.x=false:=λe he=>by
  rcases Ar.mp he with he | he
  ·exact it.np rfl e he
  ·exact hT e he
 refine ⟨λi q M H=>q=B.length - i/\i<=B.length/\∃S p,vs S=M/\Sl S p/\At X.K C Y p.n (S++(o++T)) H/\I i p,⟨B.length,by simp,Cw _,S1,Q,rfl,e2,U,h0⟩,?_⟩
 (intro i q M H q_; obtain ⟨rfl,hi,S2,j,rfl,W,u,Z⟩ := q_)
 have g:∀e∈o,Fx X.K H j.n e:=λe he=>u.ok e (Ag _ (Ae _ he))
 by_cases s:i<B.length
 ·refine .inr ⟨it.go H j.n i g s,λE L=>∃S p,vs S=E/\Sl S p/\At X.K C Y p.n (S++(o++T)) L/\I (i+1) p,λE L q=>⟨B.length - (i+1),by omega,rfl,s,q⟩,λx L y=>?_⟩
  obtain ⟨s1,d,F,h1,h2,h3⟩:=it.yld H j.n i x L g s y
  refine ⟨C,Y,S2,o++T,j,.dat .sh d,F,_,rfl,W,u.item s1 h2 h3 it.md it.hd it.np,O i d j h1 Z,λR S3 H3 e4 N p3=>?_⟩
  refine ⟨C,Y,S3,o++T,R,_,rfl,e4,V,N,p3,λk t G r l z=>⟨t,k,rfl,r,l,z⟩,λx k v F t G r l z=>k2 x k v F t G r l.dropH z,
   λk t G r l z=>k1 k t G r l.dropL z,λk t G r l z=>⟨t,k,rfl,r,l,z⟩⟩
 ·have e:i=B.length:=by omega
  subst e
  exact .inl ⟨it.stop H j.n g,k1 j S2 H W u.dropL (hf j Z)⟩
end
end DL
namespace Nd
open PySem PySem.Spec PyProof.Rows L2
theorem eY(b e f g d:Expr)(a:Scope)(pos:Pos)(it c:Value)(env:Env) :
  compTurn (.ListComp b [⟨e,f,[],0⟩,⟨g,d,[],0⟩] a pos) 0 it c env=(do
   Gp f.pos
   match <- Mg it with
   | none=>pure (.done .next)
   | some v =>
    Ih e it v
    Po e env v
    let x <- eval d env
    Gp d.pos
    let x <- Cr d env x
    let it2 <- Gf [x] (Zh x)
    let _ <- runOwn (.compStart (.ListComp b [⟨e,f,[],0⟩,⟨g,d,[],0⟩] a pos) 1 it2 c env) env
    again (.compLoop (.ListComp b [⟨e,f,[],0⟩,⟨g,d,[],0⟩] a pos) 0 it c env)):=by rfl
theorem eS(b f g d e:Expr)(a:Scope)(pos:Pos)(it c:Value)(env:Env) :
  compTurn (.ListComp b [⟨f,g,[],0⟩,⟨d,e,[],0⟩] a pos) 1 it c env=(do
   Gp e.pos
   match <- Mg it with
   | none=>pure (.done .next)
   | some v =>
    Ih d it v
    Po d env v
    (do let _ <- call (.builtin "list.append") [c,<- eval b env])
    again (.compLoop (.ListComp b [⟨f,g,[],0⟩,⟨d,e,[],0⟩] a pos) 1 it c env)):=by rfl
section
variable{prog:Bk}{w:World}{A:Cf}{R:Result->Ak->Prop}{s:Ak}
theorem eZ{b:Expr}{g:Comprehension}{f e:Expr}{a:Scope}{pos:Pos}{it c:Value}{env:Env}(j:Gw (model prog w) A (.compLoop (.ListComp b [g,⟨f,e,[],0⟩] a pos) 1 it c env) R s)(h:wpAny (model prog w) A (Zh it) (λd s'=>Gw (model prog w) A (.compLoop (.ListComp b [g,⟨f,e,[],0⟩] a pos) 1 d c env) R s') (λ_ _=>False) s):Gw (model prog w) A (.compStart (.ListComp b [g,⟨f,e,[],0⟩] a pos) 1 it c env) R s:=by
 refine codeAny_of_tree ?_
 show wpAny _ _ ((compStart (.ListComp b [g,⟨f,e,[],0⟩] a pos) 1 it c env).onRaise (λx=>do noteFrame x env; Gp theWindowsPlace)) _ _ s
 refine wpAny_notedAt ?_
 unfold compStart
 show wpAny _ _ (ask >>= _) _ _ s
 refine Aa (Uj (wpAny_ite ?_))
 split
 ·first
   | exact Aa (Am (Am (And.intro rfl j)))
   | exact Am (And.intro rfl j)
 ·first
   | exact Aa (Rr (Aa (Iv (Aa (Cv h (λd s' i=>Am (And.intro rfl i)) λ_ _ x=>x.elim)))))
   | (refine Aa (Rr ?_); show wpAny _ _ (Gp e.pos >>= _) _ _ s; exact Aa (Iv (Aa (Cv h (λd s' i=>Am (And.intro rfl i)) λ_ _ x=>x.elim))))
theorem oY{b d k l i:Expr}{a:Scope}{pos:Pos}{it c:Value}{env:Env}(o:∀x,Cr i env x=pure x)(J:Nat->Ak->Prop) (g:∀n s,J n s->wpAny (model prog w) A (Mg it) (λr p=>match r with
    | none=>R (.ok .next) p
    | some v=>wpAny (model prog w) A (Ih d it v) (λ_ y=>wpAny (model prog w) A (Po d env v) (λ_ C =>
      wpAny (model prog w) A (eval i env) (λx u=>wpAny (model prog w) A (Zh x) (λj B =>
       Gw (model prog w) A (.compStart (.ListComp b [⟨d,k,[],0⟩,⟨l,i,[],0⟩] a pos) 1 j c env) (λr q=>match r with | .ok _=>∃m,m<n/\J m q | .error _=>False) B) (λ_ _=>False) u) (λ_ _=>False) C) (λ_ _=>False) y) (λ_ _=>False) p) (λ_ _=>False) s)
  (n:Nat) (h:J n s):Gw (model prog w) A (.compLoop (.ListComp b [⟨d,k,[],0⟩,⟨l,i,[],0⟩] a pos) 0 it c env) R s:=by
 refine codeAny_loop rfl J (λn s G=>?_) n h
 show wpAny _ A (Sem.onRaise (compTurn (.ListComp b [⟨d,k,[],0⟩,⟨l,i,[],0⟩] a pos) 0 it c env) (λx=>do noteFrame x env; theTreesLotGoes x)) _ _ s
 refine wpAny_noted ?_
 rw[eY]
 refine Aa (Iv (Aa (Cv (g n s G) (λr p D=>?_) λ_ _ z=>z.elim)))
 cases r with
 | none=>exact Am D
 | some v =>
  refine Aa (Cv D (λ_ y H=>?_) λ_ _ z=>z.elim)
  refine Aa (Cv H (λ_ C F=>?_) λ_ _ z=>z.elim)
  refine Aa (Cv F (λx u I=>?_) λ_ _ z=>z.elim)
  refine Aa (Iv (Aa (Mp (o x) (Aa (Dx (Cv I (λj B E=>?_) λ_ _ z=>z.elim))))))
  refine Aa (wpAny_runOwn ?_)
  refine Il E λr q t=>?_
  cases r with
  | ok f=>exact Am ⟨rfl,t⟩
  | error e=>exact t.elim
theorem lW{b g o e k:Expr}{a:Scope}{pos:Pos}{it c:Value}{env:Env}(J:Nat->Ak->Prop) (d:∀n s,J n s->wpAny (model prog w) A (Mg it) (λr f=>match r with
    | none=>R (.ok .next) f
    | some v=>wpAny (model prog w) A (Ih e it v) (λ_ j=>wpAny (model prog w) A (Po e env v) (λ_ p =>
      wpAny (model prog w) A (eval b env) (λx l=>wpAny (model prog w) A (call (.builtin "list.append") [c,x]) (λ_ i=>∃m,m<n/\J m i) (λ_ _=>False) l) (λ_ _=>False) p) (λ_ _=>False) j) (λ_ _=>False) f) (λ_ _=>False) s)
  (n:Nat) (h:J n s):Gw (model prog w) A (.compLoop (.ListComp b [⟨g,o,[],0⟩,⟨e,k,[],0⟩] a pos) 1 it c env) R s:=by
 refine codeAny_loop rfl J (λn s B=>?_) n h
 show wpAny _ A (Sem.onRaise (compTurn (.ListComp b [⟨g,o,[],0⟩,⟨e,k,[],0⟩] a pos) 1 it c env) (λx=>do noteFrame x env; theTreesLotGoes x)) _ _ s
 refine wpAny_noted ?_
 rw[eS]
 refine Aa (Iv (Aa (Cv (d n s B) (λr f q=>?_) λ_ _ z=>z.elim)))
 cases r with
 | none=>exact Am q
 | some v =>
  refine Aa (Cv q (λ_ j C=>?_) λ_ _ z=>z.elim)
  refine Aa (Cv C (λ_ p u=>?_) λ_ _ z=>z.elim)
  refine Aa (Aa (Cv u (λx l t=>?_) λ_ _ z=>z.elim))
  exact Aa (Cv t (λ_ i y=>Am (Am ⟨rfl,y⟩)) λ_ _ z=>z.elim)
end
section
variable{X:Cx}
def EF(J:It)(p:List Nat)(h:TI)(t:TE)(q:L2.St)(k:Hp)(Q:VK):Prop:=∀D,k D=none->∃W:Nat->Nat->Hp->Prop,(∃m,W 0 m (upd k D (.lst [])))/\∀i m H,W i m H ->
 (J.stop i H/\Q (.ref D) H)\/(J.go i H/\∀x r,J.yld i H x r->∀o:Option V,h (some x::o::Gk q p) r λf s=>∃g:Nat->Nat->Hp->Prop,(∃e,g 0 e s)/\∀d e c,g d e c ->
  (f.stop d c/\∃l,l<m/\W (i+1) l c)\/(f.go d c/\∀y n,f.yld d c y n->t (some x::some y::Gk q p) n λz j=>∃a,j D=some (.lst a)/\a.length<Ba/\∃b,b<e/\g (d+1) b (upd j D (.lst (a++[z])))))
def zB(d:TI)(f:List Nat)(a:TI)(e:TE):TE:=λb H Q=>d b H λJ c=>EF J f a e b c Q
theorem A6{N iter f:Expr}{x k:Str}{px K pos:Pos}{a:Scope}{p:List (Str×Addr)}{ys:List Str}{M:List Nat}{wi j4:TI}{te:TE}(C:CompScope X a p x ys M)(R:xM a k)(k3:(x::k::ys).Nodup)(hc:X.calm=true)(hi:PI X (.Name x px) iter wi)(x9:∀fp s H,PI (Dw X a p (x::k::ys) fp s H) (.Name k K) f j4)(he:∀fp s H,PE (Dw X a p (x::k::ys) fp s H) N te)(hs:∀x,Cr iter X.env x=pure x:=by intro _; rfl)(v8:∀fp s H v,Cr f (Dw X a p (x::k::ys) fp s H).env v=pure v:=by intro _ _ _ _; rfl):PE X (.ListComp N [⟨.Name x px,iter,[],0⟩,⟨.Name k K,f,[],0⟩] a pos) (zB wi M j4 te):=by
 intro G s B H Q I h
 rw[eval_ListComp]
 refine yS (use:=none) rfl hs C.clos C.kind C.locs (Gy (hi G s B H _ I h) λv s1 h1=>Gy h1 λa2 g h2=>?_)
 obtain ⟨it,fp,tn,J,P,e,I2,T,v6,f2,q2⟩:=h2
 subst e
 have fD:P g.heap.objs.size=none:=I2.hok.fresh (Au _)
 obtain ⟨W,⟨m0,w0⟩,j5⟩:=q2 g.heap.objs.size fD
 refine Eo ?_
 have I3:Inv X G B (upd P g.heap.objs.size (.lst [])) { g with heap:=g.heap.push { cls:=.type "list",dict:=none,data:=.seq ([]:List Value).toArray } } :=
  I2.laid (t':=g.toks) (λb u q=>Aq _ q) (Au _) ⟨Cw _,[],0,.nil,Be _ rfl⟩
 obtain ⟨f3,k5,z0⟩:=mL I2 T v6 f2 I3
 generalize q9:({ g with heap:=g.heap.push { cls:=.type "list",dict:=none,data:=.seq ([]:List Value).toArray } }:Ak)=s3 at I3
 have y4:tn 0 s3.heap:=by rw[<- q9]; exact k5
 have o3:∀b∈fp,∃o,s3.heap.get? b=some o:=by rw[<- q9]; exact z0
 show wpAny _ _ (Zi a X.env.globals p [] X.env.qual none .none (some X.env)) _ _ _
 refine gJ C λh4 q1 F k7=>?_
 have I4:∀tk,Inv (Dw X a p (x::k::ys) fp s3 (upd P g.heap.objs.size (.lst []))) [] (none::none::Gk B M) (upd P g.heap.objs.size (.lst [])) { s3 with heap:=h4,toks:=tk }:=λtk=>bW (pre:=[x,k]) C I3 f3 o3 q1 F k7
 have j6:tn 0 h4:=T.keep 0 _ _ y4 λb j o q=>F b o q
 generalize O:Dw X a p (x::k::ys) fp s3 (upd P g.heap.objs.size (.lst []))=X' at I4
 obtain ⟨eP,eW,eK,eA,eC⟩:=oM hc O
 have D:∀{d:Hp},(∀b∈fp,d b=none)->∀b∈fp,Nj X' [] d b:=λ{d} hn=>gK O (I4 0) hn
 have Y:∀s5:Ak,s5={ s3 with heap:=h4,toks:=s3.toks+([]:List (Str×Value)).length } ->
   Gw (model X.prog X.w) X.A (.compLoop (.ListComp N [⟨.Name x px,iter,[],0⟩,⟨.Name k K,f,[],0⟩] a pos) 0 (.ref it) (.ref g.heap.objs.size) (compEnvC a (Ew (s3.heap.objs.size+1) a.names p) s3.heap.objs.size X.env))
    (compPost (model X.prog X.w) X.A X.xe none (EP X G B Q) (.ref g.heap.objs.size) s3.heap.objs.size) s5:=by
  rintro s5 rfl
  refine oY (λv=>v8 fp s3 (upd P g.heap.objs.size (.lst [])) v) (λn s'=>∃i o t d,Inv X' [] (o::t::Gk B M) d s'/\tn i s'.heap/\(∀b∈fp,d b=none)/\W i n d) ?_ m0
   ⟨0,none,none,_,I4 _,j6,λb j=>(f3 b j).1,w0⟩
  (intro n s6 q_; obtain ⟨i,o,t,H6,I6,q7,q4,w6⟩ := q_)
  rcases j5 i n H6 w6 with ⟨j2,qn⟩ | ⟨go,step⟩
  ·have hd:=T.done X' eP eW eK eC i [] s6 _ H6 (λ_ _=>False) I6 (D q4) q7 j2
   rw[eA] at hd
   refine Gy hd λr s7 c => ?_
   obtain ⟨hr,I7⟩ := c
   subst hr
   obtain ⟨m7,x5,j0⟩:=dJ O I3 f3 I7
   exact ⟨m7,x5,λh8 v5=>⟨.ref g.heap.objs.size,H6,j0 h8 v5,rfl,qn⟩⟩
  ·have q8:=T.item X' eP eW eK eC i [] s6 _ H6 (λ_ _=>False) I6 (D q4) q7 go
   rw[eA] at q8
   refine Gy q8 λr s7 c => ?_
   obtain ⟨u,hr,h7⟩ := c
   subst hr
   refine Gy h7 λ_ s8 c => ?_
   obtain ⟨y,H8,I8,r8,y8,k2,z7⟩ := c
   have y0:=I8.pinned (D z7) (T.obj _ _ k2)
   have j8:=step y H8 y8 t
   have again:∀{H9:Hp} {s9:Ak} {m':Nat} {o9:Option V},Inv X' ([]++Ry fp s8.heap) (some y::o9::Gk B M) H9 s9->m'<n->W (i+1) m' H9->∃m,m<n/\∃i o t d,Inv X' [] (o::t::Gk B M) d s9/\tn i s9.heap/\(∀b∈fp,d b=none)/\W i m d:=λ{H9 s9 m' o9} I9 hm w9=>by
    refine ⟨m',hm,i+1,some y,o9,H9,I9.unpinned,T.keep _ _ _ k2 λb j o e=>(I9.pin (b,o) (Ag _ (Ag _ (Jr j e)))).1,λb j=>?_,w9⟩
    obtain ⟨o,e,_⟩:=T.obj _ _ k2 b j
    exact (I9.pin (b,o) (Ag _ (Ag _ (Jr j e)))).2.1
   subst O
   refine Gy (Ou (i:=0) (x:=x) (pos:=px) k3 rfl (Tf C.own) (Xs C.own) _ s8 _ H8 y u (λh5 d=>h5=some y::t::Gk B M/\d=H8) y0 r8 ⟨rfl,rfl⟩) λ_ s9 c => ?_
   obtain ⟨w7,H9,I9,e9,z1⟩ := c
   subst e9 z1
   refine Gy (x9 fp s3 _ _ s9 _ _ _ I9 j8) λv2 a1 y6=>Gy y6 λw4 z2 y5=>?_
   obtain ⟨w1,k0,v7,J2,w3,y7,z6,T2,U,k8,W2,⟨v9,z4⟩,k1⟩:=y5
   subst y7
   have l:∀{d:Hp},(∀b∈k0,d b=none)->∀b∈k0,Nj (Dw X a p (x::k::ys) fp s3 (upd P g.heap.objs.size (.lst []))) ([]++Ry fp s8.heap) d b:=λhn b j=>⟨hn b j,(k8 b j).2⟩
   have E:Gw (model X.prog X.w) X.A (.compLoop (.ListComp N [⟨.Name x px,iter,[],0⟩,⟨.Name k K,f,[],0⟩] a pos) 1 (.ref w1) (.ref g.heap.objs.size) (compEnvC a (Ew (s3.heap.objs.size+1) a.names p) s3.heap.objs.size X.env))
     (λr s6=>match r with | .ok _=>∃m,m<n/\∃i o t d,Inv (Dw X a p (x::k::ys) fp s3 (upd P g.heap.objs.size (.lst []))) [] (o::t::Gk B M) d s6/\tn i s6.heap/\(∀b∈fp,d b=none)/\W i m d | .error _=>False) z2:=by
    refine lW (λn2 s'=>∃i2 t d,Inv (Dw X a p (x::k::ys) fp s3 (upd P g.heap.objs.size (.lst []))) ([]++Ry fp s8.heap) (some y::t::Gk B M) d s'/\v7 i2 s'.heap/\(∀b∈k0,d b=none)/\W2 i2 n2 d) ?_ v9
     ⟨0,t,w3,z6,U,λb j=>(k8 b j).1,z4⟩
    (intro n2 q5 q_; obtain ⟨i2,p2,h3,j3,S,Z,z8⟩ := q_)
    rcases k1 i2 n2 h3 z8 with ⟨h6,m',x8,w'⟩ | ⟨y9,h0⟩
    ·have hd:=T2.done _ rfl rfl rfl hc i2 _ q5 _ h3 (λ_ _=>False) j3 (l Z) S h6
     refine Gy hd λr x0 c => ?_
     obtain ⟨hr,y3⟩ := c
     subst hr
     exact again y3 x8 w'
    ·have q3:=T2.item _ rfl rfl rfl hc i2 _ q5 _ h3 (λ_ _=>False) j3 (l Z) S y9
     refine Gy q3 λr x0 c => ?_
     obtain ⟨u2,hr,x1⟩ := c
     subst hr
     refine Gy x1 λ_ v3 c => ?_
     obtain ⟨z,q6,z9,v4,x7,L,j1⟩ := c
     have k4:=z9.pinned (l j1) (T2.obj _ _ L)
     refine Gy (Ou (i:=1) (x:=k) (pos:=K) k3 rfl (Tf R) (Xs R) _ v3 _ q6 z u2 (λh5 d=>h5=some y::some z::Gk B M/\d=q6) k4 v4 ⟨rfl,rfl⟩) λ_ j7 c => ?_
     obtain ⟨w5,x6,j9,z5,q0⟩ := c
     subst z5 q0
     refine Gy (he fp s3 _ _ j7 _ _ _ j9 (h0 z x6 x7)) λzv v0 c => ?_
     obtain ⟨vz,k9,x4,v1,y1⟩ := c
     obtain ⟨k6,ha,hz,x3,w2,y2⟩:=y1
     refine Gy (Tg _ v0 _ k9 (.ref g.heap.objs.size) [vz] (.ref g.heap.objs.size) [zv] (λ_ d=>d=upd k9 g.heap.objs.size (.lst (k6++[vz]))) x4 rfl (.cons v1 .nil) ⟨_,k6,vz,rfl,rfl,ha,hz,rfl⟩) λ_ a0 c => ?_
     obtain ⟨_,w8,h9,_,z3⟩ := c
     subst z3
     refine ⟨x3,w2,i2+1,some z,_,h9.unpinned,T2.keep _ _ _ L λb j o e=>(h9.pin (b,o) (Ag _ (Ag _ (Jr j e)))).1,λb j=>?_,y2⟩
     obtain ⟨o,e,_⟩:=T2.obj _ _ L b j
     exact (h9.pin (b,o) (Ag _ (Ag _ (Jr j e)))).2.1
   exact eZ E (T2.self X.A 0 _ _ _ U E)
 exact N4 (Y _ rfl) (T.self X.A 0 _ _ _ j6 (Y _ rfl))
end
end Nd
namespace DL
open PySem L2 Nd
def al(e:Ent):Ent:=match e.x with
 | .dat m d=>⟨e.v,.dat (iS m) d,e.F⟩
 | .val _=>e
 | .scr _=>e
 | _=>⟨e.v,.un,[]⟩
def alD:DV->DV
 | .dat m d=>.dat (iS m) d
 | .val v=>.val v
 | .scr a=>.scr a
 | _=>.un
def J9(S:List Ent)(j:Nat):Ent:=match S[j]? with
 | some e=>al e
 | none=>⟨none,.un,[]⟩
def aR(S:List Ent)(a:List Nat):List Ent:=a.map (J9 S)
def frD1(a:List DV)(j:Nat):DV:=match a[j]? with
 | some x=>alD x
 | none=>.un
def frD(b:List DV)(a:List Nat):List DV:=a.map (frD1 b)
theorem JY(e:Ent):(al e).v=e.v:=by
 obtain ⟨v,x,F⟩:=e
 cases x <;> rfl
theorem LB(e:Ent):(al e).x=alD e.x:=by
 obtain ⟨v,x,F⟩:=e
 cases x <;> rfl
theorem sV(S:List Ent)(a:List Nat):vs (aR S a)=Gk (vs S) a:=by
 unfold vs aR Gk
 rw[Dk]
 refine Wx λj _=>?_
 rw[Bu]
 simp only[Function.comp,J9]
 cases S[j]? with
 | none=>rfl
 | some e=>exact JY e
theorem uG{S:List Ent}{a:DS}(h:Sl S a)(b:List Nat):(aR S b).map Ent.x=frD a.sl b:=by
 unfold Sl at h
 unfold aR frD
 rw[Dk]
 refine Wx λj _=>?_
 simp only[Function.comp,J9,frD1]
 rw[<- h,Bu]
 cases S[j]? with
 | none=>rfl
 | some e=>exact LB e
section
variable{K:PySem.W.Frag}{H0 H H':Hp}{X:Addr->Prop}{n:Nat}{E S T:List Ent}
theorem oQ(e:Ent):cells (al e)=[]:=by
 obtain ⟨v,x,F⟩:=e
 cases x with
 | dat m d=>cases m <;> rfl
 | _=>rfl
theorem At.view1(h:At K H0 X n E H){e:Ent}(c:e∈E):At K H0 X n (al e::E) H:=by
 refine h.push ?_ (λf g=>⟨λ_ a b=>(by rw[oQ] at b; cases b),λhq a b z=>?_⟩) λa b=>(by rw[oQ] at b; cases b)
 ·have:=h.ok e c
  obtain ⟨v,x,F⟩:=e
  cases x with
  | dat m d =>
   obtain ⟨w,i,j,_⟩:=this
   exact ⟨w,i,j,λz=>(by cases m <;> cases z),λz=>(by cases m <;> cases z)⟩
  | val v=>exact this
  | scr k=>exact this
  | _=>exact (rfl:([]:List Addr)=[])
 ·obtain ⟨v,x,F⟩:=e
  cases x with
  | dat m d =>
   rcases bX h c g with rfl | q
   ·rcases hq with hq | hq
    ·cases m <;> first | cases hq; done | exact nomatch b
    ·cases hq
   ·refine q.2 ?_ a b z
    rcases hq with hq | hq
    ·refine .inl ?_
     cases m <;> first | rfl | exact hq
    ·exact .inr hq
  | val v =>
   rw[show F=[] from (h.ok _ c).2] at z
   cases z
  | scr k =>
   obtain ⟨_,_,l,_⟩:=h.ok _ c
   rw[show F=[] from l] at z
   cases z
  | _=>exact nomatch z
theorem At.blank(h:At K H0 X n E H){v:Option V}:At K H0 X n (⟨v,.un,[]⟩::E) H :=
 h.push (rfl:([]:List Addr)=[]) (λf _=>⟨λ_ a b=>(nomatch b),λ_ a _=>Bc⟩) (λa b=>(nomatch b))
theorem At.view(h:At K H0 X n E H)(b:∀e∈S,e∈E):∀a:List Nat,At K H0 X n (aR S a++E) H
 | []=>h
 | j::a=>by
  have c:=At.view h b a
  show At K H0 X n (J9 S j::(aR S a++E)) H
  unfold J9
  cases e:S[j]? with
  | none=>exact c.blank
  | some x=>exact c.view1 (Ag _ (b x (Bf e)))
theorem At.accNew(h:At K H0 X n E H){D:Addr}(c:H D=Option.none):At K H0 X n (⟨some (.ref D),.acc [],[D]⟩::E) (upd H D (.lst [])):=by
 have g:=Et c (.lst [])
 refine (h.grow (n':=n) g (Au _)).push ⟨D,[],[],rfl,rfl,Cg,.nil,Cw _,Bc⟩ (λf e=>?_) λa b=>?_
 ·have d:=h.free c f e
  refine ⟨λ_ a b z=>?_,λ_ a b z=>?_⟩
  ·rw[Aj.mp b] at z
   exact d z
  ·rw[Aj.mp z] at b
   exact d (Dm _ _ b)
 ·rw[Aj.mp b]
  exact .inl (h.new0 c)
theorem At.accPutG{D:Addr}{ds:List Ad}{v:V}{m:Md}{e:Ad}{F G:List Addr}(h:At K H0 X n (⟨some (.ref D),.acc ds,D::G⟩::⟨some v,.dat m e,F⟩::E) H)(C:m≠.pk)(L:ds.length+1<=Ba):∃xs,H D=some (.lst xs)/\xs.length=ds.length/\At K H0 X n (⟨some (.ref D),.acc (ds++[e]),D::(G++F)⟩::E) (upd H D (.lst (xs++[v]))):=by
 obtain ⟨a,xs,B,A,J,w,u,_,y⟩:=h.ok _ Ab
 have p:some (V.ref D)=some (V.ref a):=A
 cases p
 have s:D::G=D::B:=J
 cases s
 have r:RdF K H v e F:=h.told (Ah _ Ab)
 have g:=Ax.mp h.sep
 have i:=Ax.mp g.2
 have j:=(h.sub (Dj _ _)).sub (Dj _ _)
 have npk:Lr (.dat m e)=false:=by cases m <;> first | rfl | exact absurd rfl C
 have t:D∉F:=(g.1 _ Ab).1 (.inr rfl) D Ab
 have kp:∀{F:List Addr},D∉F->Kp F H (upd H D (.lst (xs++[v]))):=λ{F} N b o q z=>by
  have : b≠D:=by
   rintro rfl
   rw[w] at q
   cases q
   rcases z with z | z
   ·exact N z
   ·rcases z with ⟨_,z⟩ | ⟨_,_,z⟩ <;> cases z
  rw[Cn this]
  exact q
 have l:H0 D=Option.none:=by
  rcases h.new _ Ab D Ab with z | z
  ·exact z
  ·cases z.2
 refine ⟨xs,w,u.len,?_⟩
 refine ⟨λf hf=>?_,?_,λf hf=>?_,λb o O q=>?_,λb o q=>?_,λb P=>?_⟩
 rotate_right
 ·obtain ⟨z,c,k,f,j,M⟩:=h.xd b P
  refine ⟨z,c,k,f,(Cn ?_).trans j,M⟩
  rintro rfl
  exact z l
 ·rcases Ai.mp hf with rfl | hf
  ·exact ⟨D,xs++[v],G++F,rfl,rfl,Cg,(u.kp (kp y)).snoc (r.kp (kp t)),by rw[Bn]; exact L,λz=>(Ar.mp z).elim y t⟩
  ·exact (j.ok f hf).kp (kp ((g.1 f (Ah _ hf)).1 (.inr rfl) D Ab)) (Au _)
 ·refine Ax.mpr ⟨λf hf=>⟨λI a d=>(g.1 f (Ah _ hf)).1 (.inr rfl) a d,λI a d z=>?_⟩,i.2⟩
  have x:=(g.1 f (Ah _ hf)).2 (.inl rfl) a d
  rcases Ai.mp z with z | z
  ·exact x (z▸Ab)
  ·rcases Ar.mp z with z | z
   ·exact x (Ah _ z)
   ·exact (i.1 f hf).2 (.inl npk) a d z
 ·rcases Ai.mp hf with rfl | hf
  ·intro a d
   rw[Aj.mp d]
   exact .inl l
  ·exact j.new f hf
 ·rw[Cn (Ea q l)]
  exact h.same b o O q
 ·rw[Cn (Ea q l)]
  exact h.dom b o q
theorem At.accPut{D:Addr}{ds:List Ad}{v:V}{e:Ad}(h:At K H0 X n (⟨some (.ref D),.acc ds,[D]⟩::E) H)(r:RdF K H v e [])(a:ds.length+1<=Ba):∃xs,H D=some (.lst xs)/\xs.length=ds.length/\At K H0 X n (⟨some (.ref D),.acc (ds++[e]),[D]⟩::E) (upd H D (.lst (xs++[v]))) :=
 At.accPutG (m:=.ow) (At.pushI (S:=[⟨some (.ref D),.acc ds,[D]⟩]) h r) (by decide) a
def Yu:Bool->Md
 | true=>.ow
 | false=>.tp
theorem At.accGetG{D:Addr}{ds:List Ad}{b:Bool}{G:List Addr}(h:At K H0 X n (⟨some (.ref D),.acc ds,D::G⟩::E) H)(hb:b=true->G=[]):At K H0 X n (⟨some (.ref D),.dat (Yu b) (.list ds),D::G⟩::E) H:=by
 obtain ⟨a,u,p,r,s,o,t,m,k⟩:=h.ok _ Ab
 have d:some (V.ref D)=some (V.ref a):=r
 cases d
 have g:D::G=D::p:=s
 cases g
 have j:=Ax.mp h.sep
 have cs:∀a∈cells ⟨some (.ref D),.dat (Yu b) (.list ds),D::G⟩,a=D:=λa c=>by
  cases b with
  | true=>rw[hb rfl] at c; exact Aj.mp c
  | false=>exact Aj.mp c
 refine (h.sub (Dj _ _)).push ⟨_,rfl,.lst o m t,λz=>?_,λ_ a l e=>?_⟩ (λf i=>⟨λq a c=>?_,λq a c=>(j.1 f i).2 (.inl rfl) a c⟩) λa c=>?_
 ·cases b with
  | true=>rw[hb rfl]; exact Da.mpr ⟨Bc,Fw⟩
  | false=>cases z
 ·have e:D::G=a::l:=e
  cases e
  exact k
 ·rw[cs a c]
  exact (j.1 f i).1 (.inr rfl) D Ab
 ·rw[cs a c]
  rcases h.new _ Ab D Ab with z | z
  ·exact .inl z
  ·cases z.2
end
def On:DT:=λa P=>P true a
def DW(b:Bool)(m:Md)(e:Ad):Prop:=match b with
 | true=>imm e=true
 | false=>m≠.pk
def Jd(b:Bool)(dc:DT)(i:DE)(g:DS)(d:Ad->Nat->Prop)(h:Nat->Prop):Prop:=dc g λc a=>match c with
 | true=>i a λy f=>match y with
  | .dat m e=>DW b m e/\d e f.n
  | _=>False
 | false=>h a.n
def qQ(b:Bool)(j:DI)(l:List Nat)(dc:DT)(k:DE):DE:=λh P=>j h λm g c=>∃I:Nat->List Ad->Nat->Prop,I 0 [] c.n /\
 (∀i d a n,g[i]? = some d->I i a n->Jd b dc k ⟨.dat m d::frD c.sl l,n⟩ (λe f=>I (i+1) (a++[e]) f) (λf=>I (i+1) a f)) /\
 ∀a n,I g.length a n->P (.dat (Yu b) (.list a)) ⟨c.sl,n⟩
def Sn:DT->DE->DS->(Ad->Nat->Prop)->(Nat->Prop)->Prop:=Jd true
def B1:DI->List Nat->DT->DE->DE:=qQ true
def K1:DI->List Nat->DT->DE->DE:=qQ false
section
variable{K:PySem.W.Frag}{H0 H H':Hp}{Y:Addr->Prop}{n:Nat}{E S T:List Ent}
theorem oB{b:Bool}{dc:DT}{w:DE}{j:DS}{g:Ad->Nat->Prop}{q:Nat->Prop}{D:Addr}{G:List Addr}{a:List Ad}{N1:Hp->Prop}{N2:VK}(C:Sl S j)(hb:b=true->G=[])(I:At K H0 Y j.n (S++⟨some (.ref D),.acc a,D::G⟩::T) H)(h:Jd b dc w j g q)(t:a.length+1<=Ba)(k1:∀n' H',At K H0 Y n' (⟨some (.ref D),.acc a,D::G⟩::T) H'->q n'->N1 H')(k2:∀e n' v H' s,(b=true->s=[])->(∃xs,H' D=some (.lst xs)/\xs.length=a.length/\At K H0 Y n' (⟨some (.ref D),.acc (a++[e]),D::s⟩::T) (upd H' D (.lst (xs++[v]))))->g e n'->N2 v H'):LT K dc (vs S) H λc k=>if c=true then LE K w (vs S) k N2 else N1 k:=by
 refine ⟨H0,Y,S,⟨some (.ref D),.acc a,D::G⟩::T,j,_,rfl,C,I,h,λc o x k A B i u=>?_⟩
 cases c with
 | false=>exact nU (k1 _ _ (i.sub (Bv _ _)) u)
 | true =>
  refine oF ⟨H0,Y,x,⟨some (.ref D),.acc a,D::G⟩::T,o,_,A,B,i,u,λy l v F M E J L d f=>?_⟩
  split at f
  ·rename_i m e
   have r:=d.told mem_mid
   cases b with
   | true =>
    obtain rfl:=r.imm f.1
    obtain rfl:=hb rfl
    exact k2 _ _ _ _ [] (λ_=>rfl) ((d.drop.sub (Bv _ _)).accPut r t) f.2
   | false =>
    have p:At K H0 Y l.n (⟨some v,.dat m e,F⟩::⟨some (.ref D),.acc a,D::G⟩::T) E:=d.sub (Bv _ _)
    exact k2 _ _ _ _ (G++F) (λz=>nomatch z) ((p.perm (Dq _ _ _)).accPutG f.1 t) f.2
  ·exact f.elim
theorem gV{dt:TT}:∀a H Q,LT K On a H Q->Wp a H Q:=by
 intro a H Q h
 obtain ⟨H0,Y,S,T,d,P,rfl,b,e,c,k⟩:=h
 exact k true d S H rfl b e c
theorem wK.imp{X:Cx}{e:List Expr}{t t':TT}(h:wK X e t)(k:∀b H Q,t' b H Q->t b H Q):wK X e t':=λa s b H Q I q=>h a s b H Q I (k b H Q q)
theorem jS{b:Bool}{V:DI}{o:List Nat}{dc:DT}{de:DE}:∀A H Q,LE K (qQ b V o dc de) A H Q->uD (LI K V) o (LT K dc) (LE K de) A H Q:=by
 intro A H Q h
 obtain ⟨H0,Y,S,T,δ,P,rfl,hS,hA,hd,k⟩:=h
 refine ⟨H0,Y,S,T,δ,_,rfl,hS,hA,hd,λm j t J g f H1 X Z O it hz p1=>?_⟩
 obtain ⟨I,h0,hs,hf⟩:=p1
 rw[<- X]
 intro D hD
 refine ⟨λi q H=>q=j.length - i/\i<=j.length/\∃a n G,(b=true->G=[])/\At K H0 Y n (⟨some (.ref D),.acc a,D::G⟩::(f++(g++T))) H/\a.length<=i/\I i a n,⟨j.length,by simp,Cw _,[],t.n,[],λ_=>rfl,O.accNew hD,Au _,h0⟩,?_⟩
 (intro i q H q_; obtain ⟨rfl,hi,a,n,G,L,w,hl,W⟩ := q_)
 have c:∀e∈g,Fx K H n e:=λe z=>w.ok e (Ah _ (Ag _ (Ae _ z)))
 by_cases l:i<j.length
 ·refine .inr ⟨it.go H n i c l,λx H' y=>?_⟩
  obtain ⟨s1,d,F,h1,h2,h3⟩:=it.yld H n i x H' c l y
  have r:At K H0 Y n ((⟨some (.ref D),.acc a,D::G⟩::f)++⟨some x,.dat m d,F⟩::(g++T)) H':=At.item (S:=⟨some (.ref D),.acc a,D::G⟩::f) w s1 h2 h3 it.md it.hd it.np
  have u:=r.mid
  have R:=At.view (S:=f) u (λe z=>Ah _ (Ae _ (Ah _ z))) o
  have B:At K H0 Y n ((⟨some x,.dat m d,F⟩::aR f o)++⟨some (.ref D),.acc a,D::G⟩::(f++(g++T))) H':=R.mid
  have E:Sl (⟨some x,.dat m d,F⟩::aR f o) ⟨.dat m d::frD t.sl o,n⟩:=by
   unfold Sl
   rw[Ap,uG Z]
  have hv:vs (⟨some x,.dat m d,F⟩::aR f o)=some x::Gk (vs f) o:=by
   rw[<- sV]
   rfl
  refine ⟨λC=>∃N,N<j.length - i/\_,λy H3=>∃a,H3 D=some (.lst a)/\a.length<Ba/\∃N,N<j.length - i/\_,λC q=>q,λy H3 q=>q,?_⟩
  rw[<- hv]
  refine oB E L B (hs i d a n h1 W) (by omega) (λM C s p=>?_) (λe M v C G' U s p=>?_)
  ·exact ⟨j.length - (i+1),by omega,rfl,l,a,M,G,L,s,by omega,p⟩
  ·obtain ⟨xs,g1,g2,g3⟩:=s
   exact ⟨xs,g1,by omega,j.length - (i+1),by omega,rfl,l,a++[e],M,G',U,g3,by rw[Bn]; simp; omega,p⟩
 ·have e:i=j.length:=by omega
  subst e
  refine .inl ⟨it.stop H n c,k _ ⟨t.sl,n⟩ _ (D::G) f H X Z ?_ (hf a n W)⟩
  have r:=w.accGetG L
  have u:At K H0 Y n (⟨some (.ref D),.dat (Yu b) (.list a),D::G⟩::(f++T)) H:=r.sub (((Bm f).append (Bv g T)).cons₂ _)
  exact u.tomid
end
section
variable{X:Cx}{d iter c:Expr}{x q m:Str}{g p pt n pos f:Pos}{r i0:Nat}{b:List Expr}{a:Scope}{e:List (Str×Addr)}{ys:List Str}{l:List Nat}{k:DI}{dc:DT}{j:DE}
theorem Pt:wK X [] (LT X.K On):=wK.imp t7 (gV (dt:=Wp))
theorem aX(h:fH X c dc):wK X [c] (LT X.K dc):=Q5 h
theorem Vz(C:CompScope X a e x ys l)(f:X.calm=true)(m:sC X (.Name x g) iter k)(h:∀fp s H,wK (Dw X a e (x::ys) fp s H) b (LT X.K dc))(c:∀fp s H,Fg (Dw X a e (x::ys) fp s H) d j)(i:∀x,Cr iter X.env x=pure x:=by intro _; rfl):Fg X (.ListComp d [⟨.Name x g,iter,b,0⟩] a pos) (B1 k l dc j):=PE.imp (jX C f m h c i) jS
def LC(o:Bool)(i:Nat):DG:=match o with
 | true=>hZ i
 | false=>Rj i
theorem LK{K:PySem.W.Frag}{o:Bool}{i:Nat}:∀v a H Q,LG K (LC o i) v a H Q->Sz i v a H Q:=by
 cases o with
 | true=>exact B8
 | false=>exact iJ
theorem tN{o:Bool}(r:X.N.Nodup)(h:X.N[i0]? = some m)(c:X.env.scope.names.lookup m=some .local)(C:CompScope X a e x ys l)(q:X.calm=true)(v:sC X (.Name x g) iter k)(t:∀fp s H,wK (Dw X a e (x::ys) fp s H) b (LT X.K dc))(p:∀fp s H,Fg (Dw X a e (x::ys) fp s H) d j)(u:∀x,Cr iter X.env x=pure x:=by intro _; rfl)(i:El (.ListComp d [⟨.Name x g,iter,b,0⟩] a pos) (some (.Name m n)) f.line X.env=pure true:=by rfl):oV X (.Assign [.Name m n] (.ListComp d [⟨.Name x g,iter,b,0⟩] a pos) f) (mR (B1 k l dc j) (LC o i0)):=PS.impD (T9 r h c C q v t p u i) (dW jS LK)
theorem oH(C:CompScope X a e x ys l)(f:X.calm=true)(m:sC X (.Name x g) iter k)(h:∀fp s H,wK (Dw X a e (x::ys) fp s H) b (LT X.K dc))(c:∀fp s H,Fg (Dw X a e (x::ys) fp s H) d j)(i:∀x,Cr iter X.env x=pure x:=by intro _; rfl):Fg X (.ListComp d [⟨.Name x g,iter,b,0⟩] a pos) (K1 k l dc j):=PE.imp (jX C f m h c i) jS
end
end DL
namespace DL
open PySem PySem.Spec PyProof.Rows L2 Nd
section
variable{K:PySem.W.Frag}{H0 H H':Hp}{X:Addr->Prop}{n n':Nat}{E S T:List Ent}
theorem At.pushF(h:At K H0 X n E H){v:V}{d:Ad}{F:List Addr}(r:RdF K H v d F)(nd:F.Nodup)(e:∀a∈F,∀f∈E,a∉f.F)(g:∀a∈F,H0 a=none):At K H0 X n (⟨some v,.dat .ow d,F⟩::E) H:=by
 refine h.push ⟨v,rfl,r,λ_=>nd,λz=>nomatch z⟩ (λf c=>⟨λ_ a b z=>e a b f c z,λ_ a b z=>e a z f c (Dm _ _ b)⟩) λa b=>.inl (g a b)
theorem At.drawn(h:At K H0 X n E H){e:Ent}{a:Addr}(m:e∈E)(L:e.x=.drw)(hv:e.v=some (.ref a))(s:Ui a H H')(hd:∃c k f,Wu H' a c k f/\0<=k/\k<=(n':Int))(N:n<=n'):At K H0 X n' E H':=by
 obtain ⟨v,x,F⟩:=e
 have u:x=.drw:=L
 subst u
 obtain ⟨p,Q,O,P,i,M,t,_⟩:=h.ok _ m
 have I:some (V.ref a)=some (V.ref p):=hv.symm.trans i
 cases I
 have r:F=[a]:=M
 subst r
 refine ⟨λf A=>?_,h.sep,h.new,λb o B q=>?_,λb o q=>?_,λb d=>?_⟩
 rotate_right
 ·obtain ⟨z,c,k,f,l,w,y⟩:=h.xd b d
  by_cases j:b=a
  ·subst j
   exact ⟨z,hd⟩
  ·exact ⟨z,c,k,f,s _ _ j l,w,by omega⟩
 ·rcases bX h m A with rfl | q
  ·obtain ⟨c,k,D,l,w,y⟩:=hd
   exact ⟨a,c,k,D,i,rfl,l,w,y⟩
  ·have J:a∉f.F:=q.1 (.inr rfl) a Ab
   refine (h.ok f A).kp (λb o G z=>?_) N
   by_cases d:b=a
   ·subst d
    rcases z with z | z
    ·exact absurd z J
    ·have g:H b=some (.lst _):=t
     rw[G] at g
     cases g
     rcases z with ⟨_,z⟩ | ⟨_,_,z⟩ <;> cases z
   ·exact s b o d G
 ·have d:b≠a:=by
   rintro rfl
   rcases h.new _ m b Ab with z | z
   ·rw[z] at q; cases q
   ·exact B z.1
  exact s b o d (h.same b o B q)
 ·by_cases d:b=a
  ·subst d
   obtain ⟨c,k,D,l,_⟩:=hd
   exact ⟨_,l⟩
  ·obtain ⟨C,z⟩:=h.dom b o q
   exact ⟨C,s b C d z⟩
end
abbrev PF:=List Ad->(Ad->Prop)->Prop
abbrev DF:=List Ad->Nat->(Ad->Nat->Prop)->Prop
def eJ(K:PySem.W.Frag)(h:PF):Sp:=λg H Q _=>∃(b:List Ent) (n:Nat) (f:List Ad) (R:Ad->Prop),b.map Ent.v=g.map some/\(∀e∈b,Fx K H n e)/\datas (b.map Ent.x)=some f/\h f R /\
 ∀v d F c,R d->RdF K c v d F->F.Nodup->(∀a∈F,H a=none)->Lu H c->Q v c
def yQ(K:PySem.W.Frag)(m:DF):Sp:=λo H Q _=>∃(b:Addr) (j:List V) (g:List Ent) (n:Nat) (l:List Ad) (R:Ad->Nat->Prop),o=.ref b::j/\g.map Ent.v=j.map some/\(∀e∈g,Fx K H n e)/\(∀e∈g,b∉e.F)/\(∃c k f,Wu H b c k f/\0<=k/\k<=(n:Int))/\datas (g.map Ent.x)=some l/\m l n R /\
 ∀v d F i h,n<=i->R d i->RdF K h v d F->F.Nodup->(∀a∈F,H a=none)->(∃c k f,Wu h b c k f/\0<=k/\k<=(i:Int))->Ui b H h->Q v h
def X8(g:PF)(e:DA):DE:=λf P=>e f λb a=>match datas b with
 | some c=>g c λd=>P (.dat .ow d) a
 | none=>False
def rV(i:Nat)(e:DF)(h:DA):DE:=λb P=>match b.sl[i]? with
 | some .drw=>h b λc a=>match a.sl[i]? with
  | some .drw=>match datas c with
   | some g=>e g a.n λd f=>P (.dat .ow d) ⟨a.sl,f⟩
   | none=>False
  | _=>False
 | _=>False
section
variable{X:Cx}{CX:eL}{k:Nat}{f:Addr}{g:Bj}{ps:List Str}{m:PF}{l:DF}{E:XK}{x:Str}{p pos:Pos}{e j:Expr}{es:List Expr}{b:DA}
theorem Ko(F:FnOk X.prog X.w X.K X.mg X.base CX k f g ps (eJ X.K m))(C:Room k X.A)(I:Gl X x)(M:X.mg x=some (.ref f))(D:PySem.W.keepIn X.K (.ref f)=true)(hb:Binds X.K g ps [])(hx:Fu CX X E)(i:Wb X (e::es) b)(o:(x == ("__debug__" : Str))=false:=by decide)(l:An (e::es) X.env=(false,eval e X.env)::An es X.env:=by rfl)(u:(Cq pos (An es X.env)).any (·.1)=false:=by rfl):Fg X (.Call (.Name x p) (e::es) [] pos) (X8 m b):=by
 refine PE.imp (Os F C I M D hb .nil hx i o l u) λσ H Q h=>?_
 obtain ⟨U,Y,S,T,R,P,rfl,V,hA,L,O⟩:=h
 refine ⟨U,Y,S,T,R,_,rfl,V,hA,L,λxs j y us B H' G J ex eu c p=>?_⟩
 subst ex
 cases q:datas (y.map Ent.x) with
 | none=>rw[q] at p; exact p.elim
 | some N =>
  rw[q] at p
  rw[Bo]
  refine ⟨y,j.n,N,_,eu,λe l=>c.ok e (Ag _ (Ae _ l)),q,p,λv d F t r rd Z z s=>?_⟩
  exact O _ j v F B t G J (((c.dropL.grow s (Au _)).pushF rd Z (λa i=>c.dropL.free (z a i)) (λa i=>c.new0 (z a i))).tomid) r
theorem Kl{i:Nat}(F:FnOk X.prog X.w X.K X.mg X.base CX k f g ps (yQ X.K l))(hr:Room k X.A)(hg:Gl X x)(hm:X.mg x=some (.ref f))(hk:PySem.W.keepIn X.K (.ref f)=true)(hb:Binds X.K g ps [])(hx:Fu CX X E)(h0:PE X j (Kc i))(G:Wb X es b)(h5:(x == ("__debug__" : Str))=false:=by decide)(B:An (j::es) X.env=(false,eval j X.env)::An es X.env:=by rfl)(h8:(Cq pos (An es X.env)).any (·.1)=false:=by rfl):Fg X (.Call (.Name x p) (j::es) [] pos) (rV i l b):=by
 refine PE.imp (Os F hr hg hm hk hb .nil hx (Do h0 G B) h5 B h8) λσ H Q h=>?_
 obtain ⟨H0,Y,S,T,δ,P,rfl,hS,hA,M,kk⟩:=h
 unfold rV at M
 split at M
 case h_2=>exact M.elim
 rename_i D
 have I:∀w,(vs S)[i]? = some (some w)->LA X.K b (vs S) H λxs H2=>yQ X.K l ((w::xs)++[]) H2 Q E:=λw N=>by
  refine ⟨H0,Y,S,T,δ,_,rfl,hS,hA,M,λxs J O us R H' e1 e2 ex eu m p=>?_⟩
  subst ex
  split at p
  ·rename_i h7
   obtain ⟨c,L,s2⟩:=Hn e2 h7
   have o:c∈R:=Bf L
   have hv:c.v=some w:=by
    have:=Lv L
    rw[e1,N] at this
    exact (Br this).symm
   obtain ⟨u,z,F⟩:=c
   have t:z=.drw:=s2
   subst t
   have hE:(⟨u,.drw,F⟩ : Ent)∈R++(O++T):=Ae _ o
   obtain ⟨C,c0,k0,f0,y,h4,h1,h3,U⟩:=m.ok _ hE
   have ew:some w=some (V.ref C):=hv.symm.trans y
   cases ew
   have Z:F=[C]:=h4
   subst Z
   cases q:datas (O.map Ent.x) with
   | none=>rw[q] at p; exact p.elim
   | some ds =>
    rw[q] at p
    rw[Bo]
    refine ⟨C,us,O,J.n,ds,_,rfl,eu,λe B=>m.ok e (Ag _ (Ae _ B)),λe B=>?_,⟨c0,k0,f0,h1,h3,U⟩,q,p,λv d F n' h6 hn r rd nd fr h2 s=>?_⟩
    ·obtain ⟨_,_,hp⟩ := Bs.mp m.sep
     exact (hp _ o e (Ae _ B)).1 (.inr rfl) C Ab
    ·have h9:=m.dropL.drawn (Ae _ o) rfl hv s h2 hn
     exact kk _ ⟨J.sl,n'⟩ v F R h6 e1 e2 ((h9.pushF rd nd (λa G=>m.dropL.free (fr a G)) (λa G=>m.new0 (fr a G))).tomid) r
  ·exact p.elim
 obtain ⟨c,L,s2⟩:=Hn hS D
 have o:c∈S:=Bf L
 obtain ⟨u,z,F⟩:=c
 have t:z=.drw:=s2
 subst t
 obtain ⟨C,c0,k0,f0,y,_⟩:=hA.ok _ (Ae _ o)
 have N:(vs S)[i]? = some (some (.ref C)):=(Lv L).trans (congrArg some y)
 exact ⟨_,N,I _ N⟩
def Vw:Sp:=λvs H Q _=>∃c:Int,vs=[.int c]/\∀(p:Addr) (b:Int) (f:Bool) (a:Hp),H p=none->Wu a p b 0 f->Lu H a->Q (.ref p) a
def i5(b:DA):DE:=λc P=>b c λd a=>match d with
 | [.dat _ (.int _)]=>P .drw a
 | _=>False
theorem lZ(F:FnOk X.prog X.w X.K X.mg X.base CX k f g ps Vw)(C:Room k X.A)(J:Gl X x)(N:X.mg x=some (.ref f))(D:PySem.W.keepIn X.K (.ref f)=true)(hb:Binds X.K g ps [])(Z:Fu CX X E)(d:Wb X (e::es) b)(l:(x == ("__debug__" : Str))=false:=by decide)(y:An (e::es) X.env=(false,eval e X.env)::An es X.env:=by rfl)(o:(Cq pos (An es X.env)).any (·.1)=false:=by rfl):Fg X (.Call (.Name x p) (e::es) [] pos) (i5 b):=by
 refine PE.imp (Os F C J N D hb .nil Z d l y o) λσ H Q h=>?_
 obtain ⟨U,Y,S,T,R,P,rfl,V,hA,M,O⟩:=h
 refine ⟨U,Y,S,T,R,_,rfl,V,hA,M,λxs i As us B H' G L ex eu r p=>?_⟩
 split at p
 ·obtain ⟨v,F,rfl,c⟩:=Kt eu r ex
  obtain ⟨rfl,_⟩:=(c.told mem_mid).int_inv
  refine ⟨_,rfl,λq c' fl m u j s=>?_⟩
  have I:=c.drop.grow (n':=i.n) s (Au _)
  refine O _ i _ [q] B m G L ((I.push (e:=⟨some (.ref q),.drw,[q]⟩) ⟨q,_,0,fl,rfl,rfl,j,by decide,by omega⟩ (λf hf=>?_) λa d=>?_).tomid) p
  ·have t:=c.drop.free u f hf
   refine ⟨λ_ a d z=>?_,λ_ a d z=>?_⟩
   ·rw[Aj.mp d] at z
    exact t z
   ·rw[Aj.mp z] at d
    exact t (Dm _ _ d)
  ·rw[Aj.mp d]
   exact .inl (c.new0 u)
 ·exact p.elim
end
def args0(ds:List Ad)(k:Nat):List DV:=ds.map (λd=>.dat .sh d)++Cb k .un
def Sm(e:Ent):Ent:=match e.x with
 | .dat _ d=>⟨e.v,.dat .sh d,e.F⟩
 | _=>e
theorem Hj:∀{xs:List DV} {ds:List Ad},datas xs=some ds->xs.length=ds.length
 | [],ds,h=>by cases h; rfl
 | x::xs,ds,h=>by
  cases x with
  | dat m d =>
   cases q:datas xs with
   | none=>simp [datas,q] at h
   | some a =>
    simp [datas,q] at h
    subst h
    rw[Bp,Bp,Hj q]
  | _=>cases h
theorem Py:∀{As:List Ent} {ds:List Ad},datas (As.map Ent.x)=some ds->(As.map Sm).map Ent.x=ds.map (λd=>.dat .sh d)
 | [],ds,h=>by cases h; rfl
 | ⟨v,x,F⟩::As,ds,h=>by
  rw[Ap] at h
  cases x with
  | dat m d =>
   cases q:datas (As.map Ent.x) with
   | none=>simp [datas,q] at h
   | some a =>
    simp [datas,q] at h
    subst h
    rw[Ap,Ap,Ap,Py q]
    rfl
  | _=>cases h
theorem Ye:∀{As:List Ent} {ds:List Ad},datas (As.map Ent.x)=some ds->∀e∈As,∃m d,e.x=.dat m d
 | [],ds,h,e,he=>nomatch he
 | ⟨v,x,F⟩::As,ds,h,e,he=>by
  rw[Ap] at h
  cases x with
  | dat m d =>
   cases q:datas (As.map Ent.x) with
   | none=>simp [datas,q] at h
   | some a =>
    rcases Ai.mp he with rfl | he
    ·exact ⟨m,d,rfl⟩
    ·exact Ye q e he
  | _=>cases h
theorem K4(As:List Ent):(As.map Sm).map Ent.v=As.map Ent.v:=by
 rw[Dk]
 refine Wx λe _=>?_
 obtain ⟨v,x,F⟩:=e
 cases x <;> rfl
def Fs(k:Nat):List Ent:=Cb k ⟨none,.un,[]⟩
theorem Wl{As:List Ent}{ds:List Ad}(q:datas (As.map Ent.x)=some ds)(k:Nat):∀e∈As.map Sm++Fs k,cells e=[]/\O1 e.x=false:=λe he=>by
 rcases Ar.mp he with he | he
 ·obtain ⟨f,b,rfl⟩:=Fb.mp he
  obtain ⟨m,d,c⟩:=Ye q f b
  obtain ⟨v,x,F⟩:=f
  have a:x=.dat m d:=c
  subst a
  exact ⟨rfl,rfl⟩
 ·rw[(Gc.mp he).2]
  exact ⟨rfl,rfl⟩
theorem Oa{c:Type}{R:c->c->Prop}:∀{l:List c},(∀a∈l,∀b∈l,R a b)->l.Pairwise R
 | [],_=>Es
 | a::l,h=>Ax.mpr ⟨λb e=>h a Ab b (Ah _ e),Oa λx f y d=>h x (Ah _ f) y (Ah _ d)⟩
theorem oT{K:PySem.W.Frag}{H:Hp}{n:Nat}{As:List Ent}{ds:List Ad}(q:datas (As.map Ent.x)=some ds)(ok:∀e∈As,Fx K H n e)(k:Nat):∀e∈As.map Sm++Fs k,Fx K H n e:=λe he=>by
 rcases Ar.mp he with he | he
 ·obtain ⟨f,b,rfl⟩:=Fb.mp he
  obtain ⟨m,d,h⟩:=Ye q f b
  have o:=ok f b
  obtain ⟨v,x,F⟩:=f
  have a:x=.dat m d:=h
  subst a
  obtain ⟨w,c,g,_⟩:=o
  exact ⟨w,c,g,λz=>(nomatch z),λz=>(nomatch z)⟩
 ·rw[(Gc.mp he).2]
  exact (rfl:([]:List Addr)=[])
theorem Ks{b c:Type}(f:b->c)(k:Nat)(a:b):(Cb k a).map f=Cb k (f a):=by
 rw[List.map_replicate]
def retE(R:Ad->Prop):DEnds where
 nx:=λ_=>R .none
 rt:=λx _=>∃d,x=.dat .ow d/\R d
def retW(n:Nat)(R:Ad->Nat->Prop):DEnds where
 nx:=λa=>n<=a.n/\R .none a.n
 rt:=λx a=>n<=a.n/\∃d,x=.dat .ow d/\R d a.n
section
variable{P:Bk}{w:World}{K:PySem.W.Frag}{mg:Str->Option Value}{base:Heap}
theorem Rb{x g:Str}{st:Stmt}{f:Addr}{T:Bj}{N ps:List Str}{k:Nat}{V:PF}{db:DB}(F:Fun K x g st f T)(S:FnScope N ps (Bi st))(hb:∀(i:Value) (A:Cf) (outer:List Env) (s:Ak) (H:Hp) (E:XK),Room k (A.deeper (Fe g (Bi st) s.heap.objs.size f i))->Uq (Kb Hq P w K mg base N g (Bi st) f i A outer s H E).nox (Gr st) db)(h:∀ds R,V ds R->ds.length=ps.length/\db (retE R) ⟨args0 ds (N.length - ps.length),0⟩):FnOk P w K mg base Hq (k+1) f T ps (eJ K V):=by
 refine F.ok S (λvs H Q E z=>?_) λi A outer s H us Q E X z=>?_
 ·obtain ⟨U,n,ds,R,B,ok,q,O,_⟩:=z
  have l1:=(h ds R O).1
  have J:=Hj q
  rw[Af] at J
  have L:=congrArg Ei B
  rw[Af,Af] at L
  omega
 ·obtain ⟨U,n,ds,R,B,ok,q,O,W⟩:=z
  obtain ⟨l1,hd⟩:=h ds R O
  have J:=Hj q
  rw[Af] at J
  have L:=congrArg Ei B
  rw[Af,Af] at L
  refine ⟨_,hb i A outer s H E X,H,λ_=>False,U.map Sm++Fs (N.length - ps.length),[],⟨args0 ds (N.length - ps.length),0⟩,retE R,?_,?_,λ_ z=>(nomatch z),?_,hd,λM C D Y l p=>?_,λx M v G C D Y l p=>?_,λ_ _ _ _ _ p=>p.elim,λ_ _ _ _ _ p=>p.elim⟩
  ·unfold vs L2.start Fs
   rw[Ay,K4,B,Ks,show us.length=ps.length by omega]
  ·unfold Sl args0 Fs
   rw[Ay,Py q,Ks]
  ·rw[Bo]
   have y:=Wl q (N.length - ps.length)
   refine ⟨λe t=>?_,Oa λa j b I=>⟨λhq c m=>?_,λhq c m=>?_⟩,λe t a j=>?_,λb o _ e=>e,λb o e=>⟨o,e⟩,λb hb=>hb.elim⟩
   ·have:=oT q ok (N.length - ps.length) e t
    obtain ⟨v,x,F⟩:=e
    cases x with
    | drw=>exact absurd (y _ t).2 (by show ¬ (true=false); decide)
    | _=>exact this
   ·rw[(y a j).1] at m; cases m
   ·rw[(y b I).1] at m; cases m
   ·rw[(y e t).1] at j; cases j
  ·exact W .non .none [] D p .non Fw (λ_ z=>(nomatch z)) λb o e=>l.same b o (λz=>z) e
  ·obtain ⟨d,rfl,r⟩:=p
   rw[show C++[(⟨some v,.dat .ow d,G⟩ : Ent)]=C++⟨some v,.dat .ow d,G⟩::[] from rfl] at l
   obtain ⟨u,Z,rd,nd,_⟩:=l.ok _ mem_mid
   cases Z
   refine W v d G D r rd (nd rfl) (λa j=>?_) λb o e=>l.same b o (λz=>z) e
   rcases l.new _ mem_mid a j with z | z
   ·exact z
   ·exact z.1.elim
theorem U7{x g:Str}{st:Stmt}{f:Addr}{fd:Bj}{N ps:List Str}{G:Str}{k:Nat}{df:DF}{db:DB}(F:Fun K x g st f fd)(S:FnScope N (G::ps) (Bi st))(hb:∀(m:Value) (A:Cf) (outer:List Env) (s:Ak) (H:Hp) (E:XK),Room k (A.deeper (Fe g (Bi st) s.heap.objs.size f m))->Uq (Kb Hq P w K mg base N g (Bi st) f m A outer s H E).nox (Gr st) db)(h:∀ds n R,df ds n R->ds.length=ps.length/\db (retW n R) ⟨.drw::args0 ds (N.length - (G::ps).length),n⟩):FnOk P w K mg base Hq (k+1) f fd (G::ps) (yQ K df):=by
 refine F.ok S (λvs H Q E z=>?_) λm A outer s H us Q E hr z=>?_
 ·obtain ⟨l,ws,T,n,ds,R,rfl,O,ok,nd,C,q,hp,_⟩:=z
  have l1:=(h ds n R hp).1
  have Z:=Hj q
  rw[Af] at Z
  have l3:=congrArg Ei O
  rw[Af,Af] at l3
  rw[Bp,Bp]
  omega
 ·obtain ⟨l,ws,T,n,ds,R,rfl,O,ok,V,C,q,hp,k1⟩:=z
  obtain ⟨l1,hd⟩:=h ds n R hp
  have Z:=Hj q
  rw[Af] at Z
  have l3:=congrArg Ei O
  rw[Af,Af] at l3
  -- what the end tells of the draws: they stand in an old cell
  have y:∀{E':List Ent} {n':Nat} {I:Hp},At K H (·=l) n' E' I->∀b o,b≠l->H b=some o->I b=some o:=λj b o nb e=>j.same b o nb e
  refine ⟨_,hb m A outer s H E hr,H,(·=l),⟨some (.ref l),.drw,[l]⟩::(T.map Sm++Fs (N.length - (G::ps).length)),[],⟨.drw::args0 ds (N.length - (G::ps).length),n⟩,retW n R,?_,?_,λ_ z=>(nomatch z),?_,hd,λD U I e1 j p=>?_,λx D v Y U I e1 j p=>?_,λ_ _ _ _ _ p=>p.elim,λ_ _ _ _ _ p=>p.elim⟩
  ·unfold vs L2.start Fs
   rw[Ap,Ay,K4,O,Ks,Bp,Bp,show ws.length=ps.length by omega]
   rfl
  ·unfold Sl args0 Fs
   rw[Ap,Ay,Py q,Ks]
  ·rw[Bo]
   have L:=Wl q (N.length - (G::ps).length)
   have J:∀e∈T.map Sm++Fs (N.length - (G::ps).length),l∉e.F:=λe he=>by
    rcases Ar.mp he with he | he
    ·obtain ⟨f,hf,rfl⟩:=Fb.mp he
     obtain ⟨v,x,F⟩:=f
     have:=V _ hf
     cases x <;> exact this
    ·rw[(Gc.mp he).2]
     exact Bc
   refine ⟨λe he=>?_,Ax.mpr ⟨λb t=>⟨λX c i=>?_,λX c i=>?_⟩,Oa λa B b t=>⟨λX c i=>?_,λX c i=>?_⟩⟩,λe he a B=>?_,λb o _ e=>e,λb o e=>⟨o,e⟩,λb hb=>?_⟩
   rotate_right
   ·subst hb
    obtain ⟨c,W,fl,M,z2⟩:=C
    exact ⟨λz=>(by rw[show H b=some _ from M] at z; cases z),c,W,fl,M,z2⟩
   ·rcases Ai.mp he with rfl | he
    ·obtain ⟨c,W,fl,M,z2,z3⟩:=C
     exact ⟨l,c,W,fl,rfl,rfl,M,z2,z3⟩
    ·exact oT q ok _ e he
   ·rw[Aj.mp i]
    exact J b t
   ·rw[(L b t).1] at i; cases i
   ·rw[(L a B).1] at i; cases i
   ·rw[(L b t).1] at i; cases i
   ·rcases Ai.mp he with rfl | he
    ·rw[Aj.mp B]
     exact .inr ⟨rfl,rfl⟩
    ·rw[(L e he).1] at B; cases B
  ·exact k1 .non .none [] D.n I p.1 p.2 .non Fw (λ_ z=>(nomatch z)) (j.xd l rfl).2 (y j)
  ·obtain ⟨hn,d,rfl,r⟩:=p
   rw[show U++[(⟨some v,.dat .ow d,Y⟩ : Ent)]=U++⟨some v,.dat .ow d,Y⟩::[] from rfl] at j
   obtain ⟨u,e2,rd,nd,_⟩:=j.ok _ mem_mid
   cases e2
   refine k1 v d Y D.n I hn r rd (nd rfl) (λa B=>?_) (j.xd l rfl).2 (y j)
   rcases j.new _ mem_mid a B with z | z
   ·exact z
   ·cases z.2
end
end DL
namespace L2
open PySem PySem.Spec PyProof.Rows
def E8(H:Hp):Prop:=∀b,H b=none\/(∃o c,H b=some (.frz o (.lst c)))\/∃a,H b=some (.tbl a)
def lS(a:List (Addr×Addr×Str))(H:Hp):Hp:=λb=>match a.find? (λr=>r.2.1 == b) with | some t=>some (.tbl #[.str t.2.2 0]) | none=>H b
theorem Ut{a:List (Addr×Addr×Str)}{H:Hp}{b:Addr}{t:Addr×Addr×Str}(h:a.find? (λr=>r.2.1 == b)=some t):lS a H b=some (.tbl #[.str t.2.2 0]):=by unfold lS; rw[h]
theorem Lx{a:List (Addr×Addr×Str)}{H:Hp}{b:Addr}(h:a.find? (λr=>r.2.1 == b)=none):lS a H b=H b:=by unfold lS; rw[h]
def iZ(q:Bk)(K:PySem.W.Frag):Prop:=∃a:List (Addr×Addr×Str),(∀t∈a,∃x d,(recsOf q).find? (λe=>e.name == x)=some d/\PySem.W.tabIn K x=some (t.1,t.2.1))/\(∀t∈a,∀t'∈a,t.2.1=t'.2.1->t=t') /\
 (∀x∈Wv,∀c P,PySem.W.tabIn K x=some (c,P)->(c,P,CL x)∈a)/\∀t∈a,K.lookup t.2.1=none
theorem U3{x:Str}(hx:x∈Wv):x = "often" \/ x = "cut_by" := by
 rcases Ai.mp hx with h | hx
 ·exact .inl h
 ·exact .inr (Aj.mp hx)
theorem xI{q:Bk}{K:PySem.W.Frag}(a:PySem.W.tabIn K "often" = none)(b:PySem.W.tabIn K "cut_by" = none):iZ q K:=by
 refine ⟨[],λ_ z=>(nomatch z),λ_ z=>(nomatch z),λx d c P e=>?_,λ_ z=>(nomatch z)⟩
 rcases U3 d with rfl | rfl
 ·rw[a] at e; cases e
 ·rw[b] at e; cases e
theorem xE{P:Bk}{w:World}{K:PySem.W.Frag}{mg mb:Str->Option Value}{CX:eL}{k:Nat}{fa a:Addr}{fd:Bj}{x:Str}{sp:Sp}{f:Ak}{vs:List Value}{ns:List Int}(g:List (Addr×Addr×Str))(D:∀t∈g,PySem.W.CodeHd f.heap t.1 t.2.1/\f.heap.get? t.2.1=some (PySem.W.tabObj #[]))(hu:∀t∈g,∀t'∈g,t.2.1=t'.2.1->t=t')(hL:∀x∈Wv,∀c P,PySem.W.tabIn K x=some (c,P)->(c,P,CL x)∈g)(k7:∀t∈g,K.lookup t.2.1=none)(k4:∃bm G,mg "__builtins__" = some (.ref bm)/\bm≠Vr/\f.heap.get? bm=some G/\G.cls=.type "module" /\ G.dict=some Vr/\G.data=.plain)(KX:K.In f.heap)(N:f.heap.Ns Bq mg)(hb:f.heap.Ns Vr mb)(k3:∀x:Str,x ≠ "__name__" -> mb x=Jz x)(U:f.heap.NoLimit)(hg:f.gens=#[])(J:f.heap.get? a=some { cls:=.type "list",data:=.seq vs.toArray })(hi:Om vs ns)(hl:ns.length<=Ba)(hr:Room k aD)(F:∀base:Heap,K.In base->base.Ns Bq mg->FnOk P w K mg base CX k fa fd [x] sp)(I:∀(s:Ak) (u:Value),BindsTo s fd ⟨[u],[]⟩ [(x,u)])(k6:∀H:Hp,E8 H->DL.KL K H a (ns.map V.int)->sp [.ref a] H (λv _=>v=.bl true) λ_ _ _=>False)(k8:∀H e s',CX [] H f (λ_ _ _=>False) e s'->False):Gw (model P w) aD (.call (.ref fa) ⟨[.ref a],[]⟩) (λr s'=>r=.ok (.ret (.bool true))/\OldK f.heap s'.heap/\s'.os=f.os/\Qp s'.gens) f:=by
 have rv:=fS hi
 have S:=hi.length
 -- from an abstract heap in which nothing but the script may be tracked
 have k0:∀H:Hp,E8 H->DL.KL K H a (ns.map V.int)->Zw P w H f.heap->(∀b,H b≠none->b=a\/∃t∈g,b=t.2.1)->(H a≠none->K.lookup a=none)->(∀t∈g,AN H t.2.1 t.2.2) ->
   Gw (model P w) aD (.call (.ref fa) ⟨[.ref a],[]⟩) (λr s'=>r=.ok (.ret (.bool true))/\OldK f.heap s'.heap/\s'.os=f.os/\Qp s'.gens) f:=by
  intro H hO hS M hA hK Z
  have i:∀{b:Addr} {o:Obj},f.heap.get? b=some o->H b=none->(fB f.heap H).get? b=some o:=λe n=>n8 e n
  have k5:∀{b:Addr} {o:Obj} {O:Array DictEntry} {R:Nat},f.heap.get? b=some o->o.data=.dict O R->H b=none:=λ{b o O R} e d=>by
   cases q:H b with
   | none=>rfl
   | some u =>
    rcases hA b (by rw[q]; simp) with l | ⟨t,j,l⟩
    ·subst l
     rw[J] at e; cases e
     have d':Data.seq vs.toArray _=Data.dict O R:=d
     cases d'
    ·rw[l,(D t j).2] at e; cases e
     cases d
  have B:∀{b:Addr} {m:Str->Option Value},f.heap.Ns b m->(fB f.heap H).Ns b m:=λ{b m} ⟨o,O,R,e,d,r⟩=>⟨o,O,R,i e (k5 e d),d,r⟩
  have h9:K.In (fB f.heap H):=λb o e=>i (KX b o e) (by
   cases q:H b with
   | none=>rfl
   | some u =>
    rcases hA b (by rw[q]; simp) with l | ⟨t,j,l⟩
    ·subst l
     rw[hK (by rw[q]; simp)] at e; cases e
    ·rw[l,k7 t j] at e; cases e)
  have KD:∀{b:Addr} {o:Obj},f.heap.get? b=some o->o.cls≠.none->o.cls≠.type "list" -> H b=none:=λ{b o} e d d2=>by
   cases q:H b with
   | none=>rfl
   | some u =>
    rcases hA b (by rw[q]; simp) with l | ⟨t,j,l⟩
    ·subst l
     rw[J] at e; cases e
     exact absurd rfl d2
    ·rw[l,(D t j).2] at e; cases e
     exact absurd rfl d
  have k2:G3 K mg (fB f.heap H) H:=λx hx c P e=>by
   have j:=hL x hx c P e
   obtain ⟨bm,G,b1,b2,b3,b4,b5,b6⟩:=k4
   obtain ⟨⟨o,us,Y,tf,L,tg,k1,h0,tt,A,r1,r2⟩,C⟩:=D _ j
   refine ⟨⟨o,us,Y,tf,L,tg,k1,h0,tt,i A (KD A (by rw[r1]; nofun) (by rw[r1]; simp)),r1,r2⟩,⟨bm,G,b1,b2,λz=>?_,λz=>?_,i b3 (KD b3 (by rw[b4]; nofun) (by rw[b4]; simp)),b4,b5,b6⟩,Z _ j⟩
   ·obtain ⟨o',O,R,l,d,_⟩:=N
    rw[<- z,b3] at l; cases l; rw[b6] at d; cases d
   ·have C:f.heap.get? P=_:=C
    rw[<- z,b3] at C; cases C; cases b4
  have hM:Mod K mg (fB f.heap H):=⟨h9,B N,⟨mb,B hb,k3⟩,let ⟨mc,h1,h2⟩:=U; ⟨mc,B h1,h2⟩⟩
  have e0:Env0 P w K mg (fB f.heap H) aD [] f H:=⟨rfl,hM,λb o e=>R1 e,Nat.le_of_eq (wG _ _),trivial,λb hb=>absurd (show b∈([]:List Addr) from hb) (by simp),M,.of_eq hg,k2⟩
  refine Il ((F _ h9 (B N)).run aD [] f H ⟨[.ref a],[]⟩ [.ref a] [.ref a] _ _ hr e0 (I f (.ref a)) (.cons rfl .nil) (k6 H hO hS)) λr s' h=>?_
  cases r with
  | error e=>exact (k8 H e s' h).elim
  | ok fl =>
   cases fl with
   | next=>exact Di h
   | brk=>exact Di h
   | cont=>exact Di h
   | ret u =>
    obtain ⟨v,H',os,T,un,E,r',q⟩:=h
    have q':v=.bl true:=q
    subst q'
    obtain rfl:u=Value.bool true:=r'
    have h8:∀b o,f.heap.get? b=some o->s'.heap.get? b=some o\/∃t∈g,b=t.2.1:=λb o e=>by
     cases q:H b with
     | none=>exact .inl (un.keep b o e q (by intro z; exact absurd (show b∈([]:List Addr) from z) (by simp)) (by simp))
     | some u =>
      rcases hO b with z | ⟨G,xs,z⟩ | ⟨Q,z⟩
      ·rw[q] at z; cases z
      ·have z2:=un.frzs b G _ z
       obtain ⟨A,_⟩:=M b _ z
       obtain ⟨e2,_⟩:=E b _ z2
       rw[e] at A; cases A
       exact .inl e2
      ·rcases hA b (by rw[q]; simp) with l | h'
       ·obtain ⟨_,A,_⟩:=M b _ z
        rw[l,J] at A; cases A
       ·exact .inr h'
    have p:∀t∈g,∃Q,s'.heap.get? t.2.1=some (PySem.W.tabObj Q):=λt j=>by
     obtain ⟨Q,t0,h3,_⟩:=Z t j
     obtain ⟨more,h5⟩:=un.tbls _ _ h3
     obtain ⟨qs,A,_⟩:=E _ _ h5
     exact ⟨qs,A⟩
    refine ⟨rfl,⟨λb o e=>?_,λb o e=>?_⟩,os,T⟩
    ·rcases h8 b o e with z | ⟨t,j,rfl⟩
     ·exact .inl z
     ·obtain ⟨Q,C⟩:=p t j
      have e2:=(D t j).2
      rw[e] at e2
      cases e2
      exact .inr (.inl ⟨((D t j).1.tab (D t j).2).isCodeTable,rfl,#[],Q,rfl,by rw[Array.empty_append]; exact C⟩)
    ·rcases h8 b o e with z | ⟨t,j,rfl⟩
     ·exact ⟨_,z⟩
     ·obtain ⟨Q,C⟩:=p t j
      exact ⟨_,C⟩
 have h6:∀(t:Addr×Addr×Str),t∈g->g.find? (λr=>r.2.1 == t.2.1)=some t:=λt j=>by
  cases q:g.find? (λr=>r.2.1 == t.2.1) with
  | none=>exact absurd (List.find?_eq_none.mp q t j) (by simp)
  | some r=>exact congrArg some (hu r (Qj q) t j (by have:=Tw q; simpa using this))
 have h7:∀t∈g,t.2.1≠a:=λt j z=>by
  have e:=(D t j).2
  rw[z,J] at e; cases e
 have all:∀H:Hp,(∀b,H b=none\/∃o xs,H b=some (.frz o (.lst xs)))->(∀b,H b≠none->b=a)->(H a≠none->K.lookup a=none)->DL.KL K H a (ns.map V.int)->Zw P w H f.heap ->
   Gw (model P w) aD (.call (.ref fa) ⟨[.ref a],[]⟩) (λr s'=>r=.ok (.ret (.bool true))/\OldK f.heap s'.heap/\s'.os=f.os/\Qp s'.gens) f:=by
  intro H h1 h2 h3 h4 h5
  refine k0 (lS g H) (λb=>?_) ?_ (λb u z=>?_) (λb z=>?_) (λz=>?_) λt j=>?_
  ·cases q:g.find? (λr=>r.2.1 == b) with
   | some t=>exact .inr (.inr ⟨_,Ut q⟩)
   | none =>
    rcases h1 b with z | ⟨o,xs,z⟩
    ·exact .inl (by rw[Lx q]; exact z)
    ·exact .inr (.inl ⟨o,xs,by rw[Lx q]; exact z⟩)
  ·have na:g.find? (λr=>r.2.1 == a)=none:=M6.mpr λt j z=>h7 t j (by simpa using z)
   rcases h4 with ⟨o,h⟩ | h
   ·exact .inl ⟨o,by rw[Lx na]; exact h⟩
   ·exact .inr h
  ·cases q:g.find? (λr=>r.2.1 == b) with
   | some t =>
    rw[Ut q] at z
    cases z
    have eb:t.2.1=b:=by have:=Tw q; simpa using this
    exact ⟨#[],by rw[<- eb]; exact (D t (Qj q)).2,by simp [TriplesOk],λk9 v y=>by simp [codeAmong] at y⟩
   | none =>
    rw[Lx q] at z
    rcases h1 b with y | ⟨o,xs,y⟩
    ·rw[z] at y; cases y
    ·rw[z] at y
     cases y
     exact h5 b _ z
  ·cases q:g.find? (λr=>r.2.1 == b) with
   | some t=>exact .inr ⟨t,Qj q,by have:=Tw q; exact (by simpa using this : t.2.1=b).symm⟩
   | none =>
    rw[Lx q] at z
    exact .inl (h2 b z)
  ·have na:g.find? (λr=>r.2.1 == a)=none:=M6.mpr λt j z=>h7 t j (by simpa using z)
   rw[Lx na] at z
   exact h3 z
  ·exact ⟨#[.str t.2.2 0],0,Ut (h6 t j),rfl⟩
 cases hk:K.lookup a with
 | some o =>
  -- the script is one of the module's own objects
  have e:=KX a o hk
  rw[J] at e
  cases e
  exact all (λ_=>none) (λ_=>.inl rfl) (λb z=>absurd rfl z) (λz=>absurd rfl z) (.inr ⟨vs.toArray,_,hk,by rw[Av,S]; exact hl,by simpa using rv⟩) (λb u z=>by have X:(none:Option HO)=some u:=z; cases X)
 | none =>
  refine all (λb=>if b=a then some (.frz { cls:=.type "list",data:=.seq vs.toArray } (.lst (ns.map V.int))) else none) (λb=>?_) (λb z=>?_) (λ_=>hk) (.inl ⟨{ cls:=.type "list",data:=.seq vs.toArray },if_pos rfl⟩) (λb u z=>?_)
  ·by_cases hb:b=a
   ·exact .inr ⟨_,_,if_pos hb⟩
   ·exact .inl (if_neg hb)
  ·by_cases hb:b=a
   ·exact hb
   ·exact absurd (if_neg hb) z
  ·by_cases hb:b=a
   ·have X:=(if_pos hb).symm.trans z
    cases X
    subst hb
    exact ⟨J,by rw[Af]; exact hl,vs,_,rv,J⟩
   ·have X:=(if_neg hb).symm.trans z
    cases X
theorem walk_ofD{l:PySem.W.OpenLaw}{n k:Nat}{q:Bk}{j:List Str}{X:(Str->Option Value)->Heap->Prop}{L:World->Heap->Prop}{d:DefRec}{K:Params->PySem.W.Frag}{CX:World->eL}{sp:World->Sp}{x:Str}(hn:l.most=some n)(A:n<=Ba)(C:d.params.defaults=[])(O:Room k aD)(Z:∀(w:World) (h:Heap),L w h->(K w.params).In h)(F:∀(w:World) (mg:Str->Option Value) (y:Addr) (h:Heap),(K w.params).In h->h.Ns Bq mg->mg d.name=some (.ref y)->(iZ q (K w.params))/\∃z:Bj,(∀(s:Ak) (u:Value),BindsTo s z ⟨[u],[]⟩ [(x,u)])/\∀base:Heap,(K w.params).In base->base.Ns Bq mg->FnOk l.prog w (K w.params) mg base (CX w) k y z [x] (sp w))(B:∀(w:World) (H:Hp) (a:Addr) (ns:List Int),ns.length<=n->E8 H->DL.KL (K w.params) H a (ns.map V.int)->sp w [.ref a] H (λv _=>v=.bl true) λ_ _ _=>False)(I:∀(w:World) (H:Hp) (s:Ak) (e:Value) (s':Ak),CX w [] H s (λ_ _ _=>False) e s'->False):PySem.W.WalkO q j X L l.row.toRowW d [] (λf vs=>PySem.call f vs):=by
 refine Att.attach_call hn C λw J r mg mb y o pm cd h0 a vs ns G Y ho hd P E p i c Q=>?_
 have D:=Z w _ Y
 obtain ⟨⟨m,M,t2,R,N⟩,z,hb,hF⟩:=F w mg y _ D G.T.g E
 exact xE m (λt ht=>by
  obtain ⟨x,d,h1,h2⟩:=M t ht
  exact PySem.W.tab_of G.T D h1 h2) t2 R N G.T.bmain D G.T.g G.T.b G.T.builtins G.T.nolimit Q p i (Bw c A) O hF hb (λH S U=>B w H a ns c S U) λH e s'=>I w H r e s'
end L2
namespace DL
open PySem PySem.Spec PyProof.Rows L2 Nd
def npk:List DV->Bool
 | []=>true
 | .dat .pk _::_=>false
 | _::xs=>npk xs
theorem C4:∀{S:List Ent} {a:List DV},S.map Ent.x=a->npk a=true->∀e∈S,Lr e.x=false
 | [],_,_,_,e,he=>nomatch he
 | ⟨v,x,F⟩::S,_,h,hn,e,he=>by
  subst h
  rw[Ap] at hn
  have : Lr x=false/\npk (S.map Ent.x)=true:=by
   cases x with
   | dat m d=>cases m <;> first | exact ⟨rfl,hn⟩ | cases hn
   | _=>exact ⟨rfl,hn⟩
  rcases Ai.mp he with rfl | he
  ·exact this.1
  ·exact C4 rfl this.2 e he
def own1:Md->Bool
 | .ow=>true
 | .tp=>true
 | _=>false
section
variable{K:PySem.W.Frag}{H0 H:Hp}{X:Addr->Prop}{n:Nat}{E:List Ent}
theorem At.write{v:Option V}{m:Md}{ds es:List Ad}{a:Addr}{F G:List Addr}{ys:List V}(h:At K H0 X n (⟨v,.dat m (.list ds),a::F⟩::E) H)(i:own1 m=true)(hv:v=some (.ref a))(np:∀e∈E,Lr e.x=false)(r:RdFs K H ys es G)(s:G.Sublist F)(L:es.length<=Ba):At K H0 X n (⟨v,.dat m (.list es),a::G⟩::E) (upd H a (.lst ys)):=by
 obtain ⟨w,T,rd,B,S⟩:=h.ok _ Ab
 obtain ⟨b,Y,J,W,D,U,M,_⟩:=rd.list_inv
 have y:a::F=b::J:=M
 cases y
 have p:=Ax.mp h.sep
 have t:a∉F:=by
  cases m with
  | ow=>exact (Da.mp (B rfl)).1
  | tp=>exact S rfl a F rfl
  | sh=>cases i
  | pk=>cases i
 have C:a∈cells ⟨v,.dat m (.list ds),a::F⟩:=by
  cases m <;> first | exact Ab | cases i
 have kp:∀{u:List Addr},a∉u->Kp u H (upd H a (.lst ys)):=λ{u} O b o q z=>by
  have : b≠a:=by
   rintro rfl
   rw[D] at q
   cases q
   rcases z with z | z
   ·exact O z
   ·rcases z with ⟨_,z⟩ | ⟨_,_,z⟩ <;> cases z
  rw[Cn this]
  exact q
 have A:H0 a=none:=by
  rcases h.new _ Ab a C with z | z
  ·exact z
  ·cases z.2
 have cs:∀c∈cells ⟨v,.dat m (.list es),a::G⟩,c∈cells ⟨v,.dat m (.list ds),a::F⟩:=λc d=>by
  cases m with
  | ow =>
   rcases Ai.mp d with z | z
   ·exact Ai.mpr (.inl z)
   ·exact Ai.mpr (.inr (s.subset z))
  | tp=>exact d
  | sh=>cases i
  | pk=>cases i
 have j:∀c∈a::G,c∈a::F:=λc d=>by
  rcases Ai.mp d with z | z
  ·exact Ai.mpr (.inl z)
  ·exact Ai.mpr (.inr (s.subset z))
 have g:a∉G:=λz=>t (s.subset z)
 refine ⟨λf hf=>?_,?_,λf hf=>?_,λb o P q=>?_,λb o q=>?_,λb R=>?_⟩
 ·rcases Ai.mp hf with rfl | hf
  ·refine ⟨.ref a,hv,.lst Cg L (r.kp (kp g)),λz=>?_,λz c l e=>?_⟩
   ·exact Da.mpr ⟨g,(Da.mp (B z)).2.sublist s⟩
   ·cases e
    exact g
  ·exact (h.ok f (Ah _ hf)).kp (kp ((p.1 f hf).1 (.inl (np f hf)) a C)) (Au _)
 ·refine Ax.mpr ⟨λf hf=>⟨λI c d=>(p.1 f hf).1 (.inl (np f hf)) c (cs c d),λI c d z=>(p.1 f hf).2 (.inl ?_) c d (j c z)⟩,p.2⟩
  cases m <;> first | rfl | cases i
 ·rcases Ai.mp hf with rfl | hf
  ·exact λc d=>h.new _ Ab c (cs c d)
  ·exact h.new f (Ah _ hf)
 ·rw[Cn (Ea q A)]
  exact h.same b o P q
 ·rw[Cn (Ea q A)]
  exact h.dom b o q
 ·obtain ⟨z,c,k,f,Q,N⟩:=h.xd b R
  refine ⟨z,c,k,f,(Cn ?_).trans Q,N⟩
  rintro rfl
  exact z A
end
theorem Ht{a:Type}:∀{l:List a} {i:Nat} {x:a},l[i]? = some x->l.Perm (x::l.eraseIdx i)
 | [],i,x,h=>by simp at h
 | z::l,0,x,h=>by
  simp at h
  subst h
  exact Nn _
 | z::l,i+1,x,h=>by
  have b:=Ht (l:=l) (i:=i) (x:=x) (by simpa using h)
  rw[pG]
  exact (b.cons z).trans (Dq x z _)
theorem fZ{b:Type}{l:List b}{i:Nat}{x y:b}(h:l[i]? = some x):(l.set i y).Perm (y::l.eraseIdx i):=by
 have a:=(Aw.mp h).1
 have q:=Ht (l:=l.set i y) (i:=i) (x:=y) (by rw[Qn]; simp [a])
 rw[List.eraseIdx_set_eq] at q
 exact q
theorem qR{K:PySem.W.Frag}{H0 H:Hp}{X:Addr->Prop}{S T:List Ent}{b:DS}{i:Nat}{m:Md}{ds es:List Ad}(g:Sl S b)(E:∀e∈T,Lr e.x=false)(t:At K H0 X b.n (S++T) H)(N:b.sl[i]? = some (.dat m (.list ds)))(M:own1 m=true)(np:npk b.sl=true):∃a xs G,(vs S)[i]? = some (some (.ref a))/\H a=some (.lst xs)/\RdFs K H xs ds G/\ds.length<=Ba/\∀ys f,RdFs K H ys es f->f.Sublist G->es.length<=Ba->∃k,vs k=vs S/\Sl k ⟨b.sl.set i (.dat m (.list es)),b.n⟩/\At K H0 X b.n (k++T) (upd H a (.lst ys)):=by
 obtain ⟨d,c,w⟩:=Hn g N
 have A:d∈S:=Bf c
 obtain ⟨u,x,F⟩:=d
 have h:x=.dat m (.list ds):=w
 subst h
 obtain ⟨v,s,rd,_⟩:=t.ok _ (Ae _ A)
 obtain ⟨a,xs,G,rfl,z,y,D,C⟩:=rd.list_inv
 have p:F=a::G:=D
 subst p
 refine ⟨a,xs,G,by rw[Lv c]; exact congrArg some s,z,y,C,λys f r B o=>?_⟩
 have L:=C4 g np
 have I:(S++T).Perm (⟨u,.dat m (.list ds),a::G⟩::(S.eraseIdx i++T)):=by
  exact (Ht c).append_right T
 have J:=(t.perm I).write (es:=es) (ys:=ys) M s (λe he=>?_) r B o
 ·refine ⟨S.set i ⟨u,.dat m (.list es),a::f⟩,?_,?_,J.perm ?_⟩
  ·unfold vs
   rw[Fc]
   apply aF
   intro j
   rw[Qn]
   split
   ·rename_i l
    subst l
    rw[Bu,c]
    split
    ·rfl
    ·rename_i q
     rw[Af] at q
     exact absurd (Aw.mp c).1 q
   ·rfl
  ·unfold Sl at g ⊢
   rw[Fc,g]
  ·exact ((fZ c).append_right T).symm
 ·rcases Ar.mp he with he | he
  ·exact L e ((List.eraseIdx_sublist S i).subset he)
  ·exact E e he
def jL(i:Nat)(c:DE):DB:=λD b=>match b.sl[i]? with
 | some (.dat _ (.list _))=>c b λy a=>match a.sl[i]?,y with
  | some (.dat m (.list ds)),.dat _ e=>own1 m=true/\npk a.sl=true/\imm e=true/\ds.length<1000000/\D.nx ⟨a.sl.set i (.dat m (.list (ds++[e]))),a.n⟩
  | _,_=>False
 | _=>False
section
variable{X:Cx}{o e:Expr}{f:DE}{d c pos:Pos}{i:Nat}
theorem fQ(ho:PE X o (Kc i))(U:Fg X e f)(j:Ff o "append" X.env (eval o X.env)=eval o X.env:=by rfl)
  (s:((Cq c (An [e] X.env)).all (λx=>!x.1) && (Hu c (Fd [] X.env)).all (λx=>x.1.isSome)
   && decide (([e]:List Expr).length+([]:List aI).length+(if ([]:List aI).isEmpty then 0 else 1)<30))=true:=by rfl)
  (k:(d.endLine == c.line)=true:=by rfl) (L:An [e] X.env=(false,eval e X.env)::An [] X.env:=by rfl) (g:(Cq c (An [] X.env)).any (·.1)=false:=by rfl)
  (I:El (.Call (.Attribute o "append" d) [e] [] c) none pos.line X.env=pure false:=by rfl) :
  oV X (.Expr (.Call (.Attribute o "append" d) [e] [] c) pos) (jL i f):=by
 refine PS.impD (Wo (AJ PySem.F.plainAttrs_list PySem.F.slot_list_append PySem.F.type_list_append Tg ho (Do U Ir L) j s k L g) I) λD σ H h=>?_
 obtain ⟨H0,Y,S,T,δ,P,rfl,N,hT,Q,A,k1,k2,k3,k4⟩:=h
 unfold jL at A
 split at A
 case h_2=>exact A.elim
 rename_i m0 E J
 obtain ⟨q,C,W⟩:=Hn N J
 have hm:q∈S:=Bf C
 obtain ⟨u,x,F⟩:=q
 have B:x=.dat m0 (.list E):=W
 subst B
 obtain ⟨v,M,rd,_⟩:=Q.ok _ (Ae _ hm)
 obtain ⟨a,xs,G,rfl,ha,ra,eF,hz⟩:=rd.list_inv
 refine ⟨.ref a,by rw[Lv C]; exact congrArg some M,.inl ⟨rfl,xs,Ua.of ha⟩,H0,Y,S,T,δ,_,rfl,N,Q,A,λy h0 w F1 S1 H1 K e5 z p=>?_⟩
 split at p
 ·rename_i m ds m' e' t
  obtain ⟨p,p2,p3,p4,p5⟩:=p
  have r:=z.told mem_mid
  obtain rfl:=r.imm p3
  obtain ⟨b,l,Z,R,g2,O,g4,g5⟩:=qR (es:=ds++[e']) e5 hT z.drop t p p2
  rw[K,Lv C] at R
  have : some (V.ref b)=some (V.ref a):=(Br R).symm.trans M
  cases this
  obtain ⟨S2,h1,h2,h3⟩:=g5 (l++[w]) (Z++[]) (O.snoc r) (by rw[Bo]; exact Bm _) (by rw[Bn]; exact pB (by simp; omega))
  have hl:=O.len
  refine ⟨a,l,w,rfl,rfl,g2,Ca (by omega) (pB (n:=1000000) (Au _)),?_⟩
  rw[<- K,<- h1]
  exact k1 ⟨_,_⟩ S2 _ h2 h3 p5
 ·exact p.elim
end
def spLawD(K:PySem.W.Frag):Sp:=λd H Q _=>∃(a:Addr) (b:List Int),d=[.ref a]/\KL K H a (b.map V.int)/\b.length<=63/\∀c,Q (.bl true) c
def retL:DEnds where
 nx:=λ_=>False
 rt:=λx _=>∃m,x=.dat m (.bool true)
section
variable{P:Bk}{w:World}{K:PySem.W.Frag}{mg:Str->Option Value}{base:Heap}
theorem BP{x d C:Str}{st:Stmt}{f:Addr}{u:Bj}{N:List Str}{k:Nat}{db:DB}(F:Fun K x d st f u)(S:FnScope N [C] (Bi st))(hb:∀(g:Value) (A:Cf) (outer:List Env) (s:Ak) (H:Hp) (E:XK),Room k (A.deeper (Fe d (Bi st) s.heap.objs.size f g))->Uq (Kb Hq P w K mg base N d (Bi st) f g A outer s H E).nox (Gr st) db)(h:∀ns:List Int,ns.length<=63->db retL ⟨.scr ns::Cb (N.length - 1) .un,0⟩):FnOk P w K mg base Hq (k+1) f u [C] (spLawD K):=by
 refine F.ok S (λvs H Q E z=>?_) λg A outer s H M Q E D z=>?_
 ·obtain ⟨a,ns,rfl,_⟩:=z
  rfl
 ·obtain ⟨a,ns,rfl,J,i,I⟩:=z
  refine ⟨_,hb g A outer s H E D,H,λ_=>False,⟨some (.ref a),.scr ns,[]⟩::Fs (N.length - 1),[],⟨.scr ns::Cb (N.length - 1) .un,0⟩,retL,?_,?_,λ_ z=>(nomatch z),?_,h ns i,λr l y G t p=>p.elim,λx r v B l y G t p=>?_,λ_ _ _ _ _ p=>p.elim,λ_ _ _ _ _ p=>p.elim⟩
  ·unfold vs L2.start Fs
   rw[Ap,Ks]
   rfl
  ·unfold Sl Fs
   rw[Ap,Ks]
  ·rw[Bo]
   have n:∀e∈(⟨some (.ref a),.scr ns,[]⟩::Fs (N.length - 1):List Ent),cells e=[]:=λe he=>by
    rcases Ai.mp he with rfl | he
    ·rfl
    ·rw[(Gc.mp he).2]
     rfl
   refine ⟨λe he=>?_,Oa λa j b q=>⟨λL c z=>?_,λL c z=>?_⟩,λe he a j=>?_,λb o _ e=>e,λb o e=>⟨o,e⟩,λb hb=>hb.elim⟩
   ·rcases Ai.mp he with rfl | he
    ·exact ⟨a,rfl,rfl,J,i⟩
    ·rw[(Gc.mp he).2]
     exact (rfl:([]:List Addr)=[])
   ·rw[n a j] at z; cases z
   ·rw[n b q] at z; cases z
   ·rw[n e he] at j; cases j
  ·obtain ⟨m,rfl⟩:=p
   rw[show l++[(⟨some v,.dat m (.bool true),B⟩ : Ent)]=l++⟨some v,.dat m (.bool true),B⟩::[] from rfl] at t
   obtain ⟨rfl,_⟩:=(t.told mem_mid).bl_inv
   exact I y
end
def sH(i:Nat)(dl d:DO):DE:=λc P=>match c.sl[i]? with
 | some (.scr ns)=>dl c λl a=>d a λh b=>P (.dat .ow (.list ((Qe ns l h).map Bz))) b
 | _=>False
def kT(i:Nat)(c:DE):DE:=λb P=>match b.sl[i]? with
 | some (.scr ns)=>c b λy a=>match y with
  | .dat _ (.list es)=>Eb es=true/\ns.length+es.length<=1000000/\P (.dat .ow (.list (ns.map Bz++es))) a
  | _=>False
 | _=>False
def HL(K:PySem.W.Frag):R2:=λx y H Q=>∃l b a c,x=.ref l/\y=.ref b/\KL K H l a/\H b=some (.lst c)/\a.length+c.length<=Ba/\∀p,H p=none->Q (.ref p) (upd H p (.lst (a++c)))
section
variable{X:Cx}{e b:Expr}{f:DE}{lo c:Option Expr}{dl g:DO}{pos d:Pos}{i:Nat}
theorem Q9:Xa X (Lw .Add) (HL X.K):=by
 intro f s B H x y v u Q I k w h
 obtain ⟨l,b,m,F,rfl,rfl,d,t,C,q⟩:=h
 cases k
 cases w
 obtain ⟨a,n,r,e⟩ : ∃(a:List Value) (n:Nat),Fj m a/\s.heap.get? l=some { cls:=.type "list",data:=.seq a.toArray n }:=by
  rcases d with ⟨o,d⟩ | ⟨a,n,g,_,r⟩
  ·obtain ⟨_,_,a,n,r,e⟩:=I.hok l _ d
   exact ⟨a,n,r,e⟩
  ·exact ⟨a.toList,n,r,by simpa using I.kIn l _ g⟩
 obtain ⟨D,c,A,z,j,i⟩:=I.lstM t
 have E:=r.length
 refine PySem.P.add_list e i ?_ (by rw[Av,Av]; omega)
 have p:a.toArray++c.toArray=(a++c).toArray:=by simp
 rw[p]
 exact ⟨.ref _,_,I.lnew (t':=s.toks) (r.append z) (by rw[Bn]; omega),rfl,q _ I.fresh⟩
theorem o7{K:PySem.W.Frag}{H0 H:Hp}{Y:Addr->Prop}{S T:List Ent}{g:DS}{ns:List Int}(m:Sl S g)(q:At K H0 Y g.n (S++T) H)(c:g.sl[i]? = some (.scr ns)):∃a,(vs S)[i]? = some (some (.ref a))/\(⟨some (.ref a),.scr ns,[]⟩ : Ent)∈S/\KL K H a (ns.map V.int)/\ns.length<=63:=by
 obtain ⟨b,h,l⟩:=Hn m c
 have j:b∈S:=Bf h
 obtain ⟨u,x,F⟩:=b
 have f:x=.scr ns:=l
 subst f
 obtain ⟨a,k,o,p⟩:=q.ok _ (Ae _ j)
 have e:u=some (.ref a):=k
 have d:F=[]:=o
 subst e d
 exact ⟨a,by rw[Lv h],j,p⟩
theorem x8(z:PE X e (Kc i))(O:FO X lo dl)(N:FO X c g):Fg X (.Subscript e (.Slice lo c none d) pos) (sH i dl g):=by
 refine PE.imp (oX (r:=EH X.K) Q6 z O N) λU H Q h=>?_
 obtain ⟨m,Y,S,T,w,P,rfl,x,y,j,k⟩:=h
 unfold sH at j
 split at j
 case h_2=>exact j.elim
 rename_i b s
 obtain ⟨a,E,F,Z,I⟩:=o7 x y s
 have v:At X.K m Y w.n (S++⟨some (.ref a),.scr b,[]⟩::T) H:=(At.view1 y (Ae _ F)).tomid
 refine ⟨.ref a,E,m,Y,S,⟨some (.ref a),.scr b,[]⟩::T,w,_,rfl,x,v,j,λl q B W A C u d=>?_⟩
 refine ⟨m,Y,B,⟨some (.ref a),.scr b,[]⟩::T,q,_,A,C,u,d,λh o R H3 D G f J=>?_⟩
 obtain ⟨a',M,_,t,_⟩:=f.ok _ mem_mid
 cases M
 refine ⟨a,_,rfl,t.sq,λp L=>?_⟩
 have : cE (b.map V.int) l h=(Qe b l h).map V.int:=by
  rw[<- J1]; rfl
 rw[this]
 refine k _ o _ _ R _ D G (f.drop.newI (RdFs.ints _) (Za _) ?_ L .ow) J
 rw[Af]
 have l1:=(cQ b l h).length_le
 exact sz (by omega)
theorem xC(A:PE X e (Kc i))(hb:Fg X b f):Fg X (.BinOp e .Add b pos) (kT i f):=by
 refine PE.imp (Ke Q9 A hb) λV H Q h=>?_
 obtain ⟨v,Y,S,T,t,P,rfl,x,z,d,k⟩:=h
 unfold kT at d
 split at d
 case h_2=>exact d.elim
 rename_i g o
 obtain ⟨a,D,E,W,J⟩:=o7 x z o
 have s:At X.K v Y t.n (S++⟨some (.ref a),.scr g,[]⟩::T) H:=(At.view1 z (Ae _ E)).tomid
 refine ⟨.ref a,D,v,Y,S,⟨some (.ref a),.scr g,[]⟩::T,t,_,rfl,x,s,d,λy j w F M U B C c m=>?_⟩
 split at m
 ·obtain ⟨L,Z,p⟩:=m
  obtain ⟨a',O,_,r,_⟩:=c.ok _ Gm
  cases O
  obtain ⟨N,R,G,rfl,l,u,_,_⟩:=(c.told mem_mid).list_inv
  have l2:=u.len
  refine ⟨a,N,_,R,rfl,rfl,r,l,by rw[Af]; exact pB (by omega),λq I=>?_⟩
  exact k _ j _ _ M _ B C (c.drop2.newI ((RdFs.ints g).app u) (by rw[Va,Za,L]; rfl) (by rw[Bn,Af]; exact pB (by omega)) I .ow) p
 ·exact m.elim
end
theorem zU{P:Bk}{w:World}{K:PySem.W.Frag}{mg:Str->Option Value}{base:Heap}{k:Nat}{f:Addr}{a:Bj}{ps:List Str}(F:FnOk P w K mg base Hq k f a ps vG):FnOk P w K mg base Hq k f a ps Vw:=by
 refine F.imp λd H Q E h=>?_
 obtain ⟨c,rfl,h⟩:=h
 exact ⟨c,rfl,λp f b=>h p c f b⟩
def Uv:DF:=λa n R=>a=[]/\n<=100000/\∀r:Int,R (.int r) (n+1)
theorem O0{P:Bk}{w:World}{K:PySem.W.Frag}{mg:Str->Option Value}{base:Heap}{k:Nat}{f:Addr}{g:Bj}{ps:List Str}(F:FnOk P w K mg base Hq k f g ps M1):FnOk P w K mg base Hq k f g ps (yQ K Uv):=by
 refine F.imp λI H Q E h=>?_
 obtain ⟨y,i,m,n,B,R,rfl,v,ok,C,⟨c,j,l,d,o,D⟩,q,u,p⟩:=h
 obtain ⟨rfl,G,x⟩:=u
 have e:m=[]:=by
  have:=Hj q
  rw[Af] at this
  exact List.length_eq_zero_iff.mp this
 subst e
 have b:i=[]:=by
  cases i with
  | nil=>rfl
  | cons _ _=>cases v
 subst b
 refine ⟨y,c,j,l,rfl,d,o,by omega,λr A t a s=>?_⟩
 exact p (.int r) (.int r) [] (n+1) t (by omega) (x r) (.int r) Fw (λ_ z=>(nomatch z)) ⟨A,j+1,l,a,by omega,by omega⟩ s
def zH:PF:=λc R=>∃a b:List Int,c=[Dc a,Dc b]/\Eg 60 a/\Eg 60 b/\R (Dc (dR (a++b)))
theorem nV{K:PySem.W.Frag}{H:Hp}{v:V}{F:List Addr}{ns:List Int}(r:RdF K H v (Dc ns) F):∃a,v=.ref a/\H a=some (.tup (ns.map V.int)):=by
 obtain ⟨a,d,rfl,b,c,_⟩:=RdF.tup_inv (ds:=ns.map Bz) r
 obtain ⟨rfl,_⟩:=c.ints_inv
 exact ⟨a,rfl,b⟩
theorem R4{K:PySem.W.Frag}{H:Hp}{a:Addr}{ns:List Int}(h:H a=some (.tup (ns.map V.int)))(l:ns.length<=1000000):RdF K H (.ref a) (Dc ns) []:=.tup h (by rw[Af]; exact pB l) (RdFs.ints ns)
theorem E6{K:PySem.W.Frag}{H:Hp}{n:Nat}{As:List Ent}{us:List V}{d f:Ad}(i:As.map Ent.v=us.map some)(ok:∀e∈As,Fx K H n e)(q:datas (As.map Ent.x)=some [d,f]):∃g c h j,us=[g,c]/\RdF K H g d h/\RdF K H c f j:=by
 have r:=Wt i q ok
 generalize As.flatMap Ent.F=G0 at r
 cases r with
 | cons a t =>
  cases t with
  | cons b t =>
   cases t
   exact ⟨_,_,_,_,rfl,a,b⟩
section
variable{P:Bk}{w:World}{K:PySem.W.Frag}{mg:Str->Option Value}{base:Heap}{k:Nat}{f:Addr}{c:Bj}{ps:List Str}
theorem DX(F:FnOk P w K mg base Hq k f c ps (AC K)):FnOk P w K mg base Hq k f c ps (eJ K zH):=by
 refine F.imp λV H Q E h=>?_
 obtain ⟨L,n,N,R,D,ok,q,B,j⟩:=h
 obtain ⟨a,b,rfl,g,i,G⟩:=B
 obtain ⟨M,O,T,S,rfl,m,J⟩:=E6 D ok q
 obtain ⟨u,rfl,C⟩:=nV m
 obtain ⟨t,rfl,v⟩:=nV J
 refine ⟨u,t,a,b,rfl,Tr.of C,Tr.of v,g,i,λr I o U l y p d s=>?_⟩
 have e:I=dR (a++b):=O3 (fU y p) d
 subst e
 refine j (.ref r) _ [] o G (R4 l ?_) Fw (λ_ z=>(nomatch z)) s
 have:=t5 (ns:=a++b) (λx A=>by
  rcases Ar.mp A with z | z
  ·exact g.2 x z
  ·exact i.2 x z)
 omega
end
end DL
namespace Nd
open PySem PySem.Spec PyProof.Rows L2
end Nd
namespace DL
open PySem PySem.Spec PyProof.Rows L2 Nd
section
variable{prog:Bk}{w:World}{A:Cf}{E:Value->Ak->Prop}
theorem gR{I l:Addr}{vs:Array Value}(m:A.handled=none)(c:l≠I):∀(n i:Nat) (s:Ak) (Q:List Value->Ak->Prop),s.heap.IsListIter I l i->s.heap.IsList l vs->i+n<=vs.size->(∀h' u,h'.IsListIter I l (i+n)->h'.IsList l vs->(∀b o,b∉[I]->s.heap.get? b=some o->h'.get? b=some o)->Q ((vs.toList.drop i).take n) { s with heap:=h',toks:=u })->wpAny (model prog w) A (draw (.ref I) n) Q E s
 | 0,i,s,Q,hit,hl,_,hQ=>Am (by simpa using hQ s.heap s.toks hit hl λ_ _ _ e=>e)
 | n+1,i,s,Q,hit,hl,hle,hQ=>by
  have a:i<vs.size:=by omega
  refine Aa ((Walks.list (prog:=prog) (w:=w) (A:=A) m I l c vs).item i s _ _ a ⟨hit,hl⟩ λv y r g d x=>?_)
  have g:vs[i]? = some v:=g
  refine Aa (Dx (gR m c n (i+1) _ _ d.1 d.2 (by omega) λt k f h j=>Am ?_))
  have q:vs.toList.drop i=v::vs.toList.drop (i+1):=by
   have : vs[i]=v:=by simpa [a] using g
   rw[<- this]; simp [Qk,a]
  have z:=hQ t k (by rw[show i+(n+1)=i+1+n by omega]; exact f) h λb o p e=>j b o p (x b o p e)
  rw[q,Oh] at z
  exact z
variable{s:Ak}
theorem bH{env:Env}{a:List Expr}{x1}{pos:Pos}{l:Addr}{vs:Array Value}{Q:Unit->Ak->Prop}(n:A.handled=none)(f:s.heap.IsList l vs)(u:(Fk a env).length=vs.size)(c:(Fk a env).findIdx? (·.1)=none)(h:∀h' t,(∀b o,s.heap.get? b=some o->h'.get? b=some o)->wpAny (model prog w) A (assignInOrder ((Fk a env).map (·.2)) vs.toList) Q E { s with heap:=h',toks:=t }):wpAny (model prog w) A (Po (.Tuple a x1 pos) env (.ref l)) Q E s:=by
 rw[assign_Tuple]
 have d:l≠s.heap.objs.size:=by obtain ⟨o,x,_⟩:=f; exact Cj (Bb x)
 refine Aa (Iv ?_)
 unfold unpack
 rw[u,c]
 refine Aa (Dx ?_)
 unfold unpackItems notIterableAtAll
 refine Aa (Aa (wpAny_specialOf f.typeIs slot_list_iter.lookup (Am ?_)))
 simp only[Jj,if_false]
 refine Aa (Dx (Nb f ?_))
 refine Aa (Dx (gR n d vs.size 0 _ _ ⟨_,Be _ rfl,rfl,rfl⟩ (f.push _) (by omega) λm q i k v=>?_))
 have y:List.take vs.size (List.drop 0 vs.toList)=vs.toList:=by rw[Vl]; exact sM (by simp)
 rw[y,if_neg (by simp)]
 have st:m.IsListIter s.heap.objs.size l vs.size/\m.IsList l vs:=⟨by simpa using i,k⟩
 refine Aa (Dx ((Walks.list (prog:=prog) (w:=w) (A:=A) n s.heap.objs.size l d vs).done _ _ _ st λr j g=>?_))
 simp only[Option.isSome_none,Jj,if_false]
 refine Am (h r j λb o e=>?_)
 have p:b∉[s.heap.objs.size]:=λz=>absurd (Bb e) (by rw[Aj.mp z]; exact Fm _)
 exact g b o p (v b o p (Aq _ e))
end
section
variable{X:Cx}{pos:Pos}
def KS(K:PySem.W.Frag)(n:Nat)(t:d0):TG:=λv c H Q=>∃a b,v=.ref a/\Ua K H a b/\b.length=n/\t b c H Q
theorem EZ{es:List Expr}{k:Nat}{t:d0}{n:Nat}(i:X.calm=true)(h:AA X es t)(o:(Fk es X.env).length=n:=by rfl)(d:(Fk es X.env).findIdx? (·.1)=none:=by rfl):PG X (.Tuple es k pos) (KS X.K n t):=by
 intro b s j H v u Q I r c
 obtain ⟨a,f,q,m,g,c⟩:=c
 subst q
 cases r
 obtain ⟨x,e,p,y⟩:=I.list m
 refine bH (I.ok.hd i) p.isList (by simp [o,<- g,e.length]) d λz l w=>?_
 exact h b _ j H f _ Q (I.kept (t':=l) w) (by simpa using e) c
end
def u6(n:Nat)(b:wF):DG:=λx a P=>match x with
 | .dat m (.list ds)=>ds.length=n/\b (ds.map λd=>.dat (Mn m) d) a P
 | _=>False
section
variable{X:Cx}{pos:Pos}
theorem L9{es:List Expr}{y:Nat}{o:wF}{n:Nat}(s:X.calm=true)(h:w4 X es o)(K:(Fk es X.env).length=n:=by rfl)(g:(Fk es X.env).findIdx? (·.1)=none:=by rfl):Y2 X (.Tuple es y pos) (u6 n o):=by
 refine PG.imp (EZ s h K g) λv M H Q h=>?_
 obtain ⟨C,Y,S,T,A,x,F,P,rfl,D,i,d,k⟩:=h
 unfold u6 at d
 split at d
 ·rename_i m u
  obtain ⟨a,B,G,rfl,t,l,rfl,O⟩:=(i.told mem_mid).list_inv
  have e:=i.mid
  have p:=Ax.mp e.sep
  obtain ⟨w,_,_,j,_⟩:=e.ok _ Ab
  have cs:∀b∈cells ⟨none,.dat (Mn m) .none,G⟩,b∈cells ⟨some (.ref a),.dat m (.list u),a::G⟩:=λb c=>by
   cases m with
   | ow=>exact Ah _ c
   | _=>exact nomatch c
  obtain ⟨r,J,I,N,L⟩:=At.unpack (m:=m) (E:=S++T) l (λz=>(Da.mp (j z)).2) (λf q=>by
   refine ⟨λhq b c=>(p.1 f q).1 ?_ b (cs b c),λhq b c z=>(p.1 f q).2 ?_ b c (Ah _ z)⟩
   ·rcases hq with hq | hq
    ·exact .inl hq
    ·cases hq
   ·rcases hq with hq | hq
    ·refine .inl ?_
     cases m <;> first | rfl | exact hq
    ·exact .inr hq) (λb c=>by
   rcases e.new _ Ab b (cs b c) with z | z
   ·exact z
   ·cases z.2) i.drop
  refine ⟨a,B,rfl,Ua.of t,by rw[l.len]; exact d.1,C,Y,S,T,r,A,P,rfl,D,J,L.perm ?_,by rw[I]; exact d.2,k⟩
  rw[<- Az,<- Az]
  exact Ej.append_right T
 ·exact d.elim
end
def Vi:D2:=λx y P=>match x,y with
 | .dat m (.list ds),.dat m' (.list es)=>m≠.pk/\m'≠.pk/\ds.length+es.length<=1000000/\P (.dat .tp (.list (ds++es)))
 | _,_=>False
theorem AF{m:Md}{d:Ad}(h:m≠.pk):Lr (.dat m d)=false:=by cases m <;> first | rfl | exact absurd rfl h
theorem N8{K:PySem.W.Frag}:qY K FI Vi:=by
 intro H0 X n S T x y v w F G H Q P g h k
 unfold Vi at h
 split at h
 ·rename_i m N m' R
  obtain ⟨U,O,Y,p⟩:=h
  obtain ⟨b,D,r,rfl,V,t,rfl,_⟩:=(g.told mem_mid).list_inv
  obtain ⟨a,A,o,rfl,J,s,rfl,_⟩:=(g.told Gm).list_inv
  have l1:=s.len
  have Z:=t.len
  refine ⟨a,b,A,D,rfl,rfl,J,V,pB (by omega),λq i=>?_⟩
  have C:=Et i (.lst (A++D))
  have I:=Ax.mp g.mid.sep
  have M:=Ax.mp g.drop.mid.sep
  have B:∀f∈S++_::_::T,q∉f.F:=g.free i
  have L:q∉r:=λz=>B _ mem_mid (Ah _ z)
  have E:q∉o:=λz=>B _ Gm (Ah _ z)
  have u:=g.drop2.free i
  refine k _ _ _ _ (((g.drop2.grow (n':=n) C (Au _)).push (e:=⟨some (.ref q),.dat .tp (.list (N++R)),q::(o++r)⟩) ⟨_,rfl,.lst Cg (by rw[Bn]; exact pB (by omega)) ((s.app t).kp (Kp.of C)),λz=>(nomatch z),λ_ a l e=>?_⟩ (λf j=>⟨λ_ c d z=>?_,λ_ c d z=>?_⟩) λc d=>?_).tomid) p
  ·cases e
   exact λz=>(Ar.mp z).elim E L
  ·rw[Aj.mp d] at z
   exact u f j z
  ·rcases Ai.mp z with z | z
   ·rw[z] at d
    exact u f j (Dm _ _ d)
   ·rcases Ar.mp z with z | z
    ·exact (M.1 f j).2 (.inl (AF U)) c d (Ah _ z)
    ·exact (I.1 f ((Bm S).append (Dj _ T) |>.subset j)).2 (.inl (AF O)) c d (Ah _ z)
  ·rw[Aj.mp d]
   exact .inl (g.new0 i)
 ·exact h.elim
theorem kI{X:Cx}{a b:Expr}{c db:DE}{pos:Pos}(d:Fg X a c)(hb:Fg X b db):Fg X (.BinOp a .Add b pos) (dY Vi c db):=bQ yZ N8 d hb
end DL
namespace Nd
open PySem PySem.Spec PyProof.Rows
end Nd
namespace L2
open PySem PySem.Spec PyProof.Rows
structure M2(X:Cx)(o:Expr)(m:Str)(apos:Pos)(e f:Expr)(cpos:Pos):Prop where
 base:Ff o m X.env (eval o X.env)=eval o X.env
 few:((Cq cpos (An [e,f] X.env)).all (λx=>!x.1) && (Hu cpos (Fd [] X.env)).all (λx=>x.1.isSome)
  && decide (([e,f]:List Expr).length+([]:List aI).length+(if ([]:List aI).isEmpty then 0 else 1)<30))=true
 line:(apos.endLine == cpos.line)=true
 trees:Cq cpos (An [e,f] X.env)=[(false,eval e X.env),(false,eval f X.env)]
end L2
namespace Nd
open PySem PySem.Spec PyProof.Rows L2
end Nd
namespace DL
open PySem PySem.Spec PyProof.Rows L2 Nd
theorem vH{d g:Type}{f:d->g}(c:∀a b,f a=f b->a=b):∀{l m:List d},l.map f=m.map f->l=m
 | [],[],_=>rfl
 | [],_::_,h=>by cases h
 | _::_,[],h=>by cases h
 | a::l,b::m,h=>by
  obtain ⟨e,i⟩:=Fp h
  rw[c a b e,vH c i]
theorem Si{a b:List Int}(h:Dc a=Dc b):a=b:=vH (λx y e=>by cases e; rfl) (PyData.tuple.inj h)
end DL
namespace Nd
open PySem PySem.Spec PyProof.Rows L2
structure ZApart(z TI TO i1 i2:Addr)(f1 f2:List Addr):Prop where
 tiz:TI≠z
 toz:TO≠z
 z1:i1≠z
 z2:i2≠z
 tito:TI≠TO
 ti1:TI≠i1
 ti2:TI≠i2
 to1:TO≠i1
 to2:TO≠i2
 i12:i1≠i2
 zf1:z∉f1
 zf2:z∉f2
 of1:TO∉f1
 of2:TO∉f2
 if1:i2∉f1
 if2:i1∉f2
section
variable{prog:Bk}{w:World}{A:Cf}{E:Value->Ak->Prop}{s:Ak}{z TI TO j l:Addr}{r f2:List Addr}{p t i:Nat}{B u:Nat->Value->Prop}{n m:Nat->Heap->Prop}
theorem Gg{a b:Addr}{f:List Addr}(h:a∉f)(hb:b∈f):b≠a:=λe=>h (e▸hb)
theorem yH{a b:Value}{Q:Value->Ak->Prop}(Y:Draws prog w A j r p B n)(D2:Draws prog w A l f2 t u m)(f:ZApart z TI TO j l r f2)(P:IsZip s.heap z TI TO .none)(gI:Jn s.heap TI (.ref j) (.ref l))(gO:Jn s.heap TO a b)(g1:n i s.heap)(g2:m i s.heap)(l1:i<p)(l2:i<t)(k:∀x y h' tk,B i x->u i y->IsZip h' z TI TO (Jy s.heap.objs.size)->Jn h' TO x y->n (i+1) h'->m (i+1) h'->Jn h' s.heap.objs.size x y->h'.objs.size=s.heap.objs.size+1->(∀c o,c≠z->c≠TO->c≠j->c≠l->s.heap.get? c=some o->h'.get? c=some o)->Q (.ref s.heap.objs.size) { s with heap:=h',toks:=tk }):wpAny (model prog w) A (Builtin.«zip.__next__» ⟨[.ref z],[]⟩) (λk6 s'=>∃v,k6=.done (.ret v)/\Q v s') E s:=by
 obtain ⟨hp,g,d,k8,os⟩:=s
 show wpAny _ _ (bind (field (.ref z) 2) _) _ _ _
 refine Aa (Ft P rfl (x:=.bool false) rfl ?_)
 show wpAny _ _ (bind (field (.ref z) 3) _) _ _ _
 refine Aa (Ft P rfl (x:=.ref TI) rfl (Aa (Jm gI rfl ?_)))
 show wpAny _ _ (bind (Fy (.ref z)) _) _ _ _
 refine Aa ?_
 unfold Fy
 refine Aa (Ft P rfl (x:=.none) rfl (Am ?_))
 simp only[if_true]
 refine Aa (Rr (Aa (Ft P rfl (x:=.ref TO) rfl (Aa (Jw P (by simp) λT J M=>?_)))))
 replace J:IsZip T z TI TO .ellipsis:=J
 replace M:Dd z hp T:=M
 refine Aa ?_
 simp only[List.forIn_cons,List.forIn_nil,List.zipIdx_cons,List.zipIdx_nil]
 have k2:n i T:=Y.frame _ _ _ g1 λb C o q=>(M.2 b (Gg f.zf1 C)).trans q
 have h0:m i T:=D2.frame _ _ _ g2 λb C o q=>(M.2 b (Gg f.zf2 C)).trans q
 refine Aa (Aa (dZ ?_))
 show wpAny _ _ (bind (Dv (.ref j)) _) _ _ _
 refine Aa (Y.item i _ _ _ l1 k2 λx h2 k7 px k1 K=>Am ?_)
 replace K:Dd j T h2:=K
 have V:Jn h2 TO a b:=(K.2 TO f.to1).trans ((M.2 TO f.toz).trans gO)
 refine Aa (Jm V rfl (Aa (Zg V λW G N=>?_)))
 replace G:Jn W TO x b:=G
 replace N:Dd TO h2 W:=N
 refine Aa (wpAny_letGo (Am ?_))
 have k3:m i W:=D2.frame _ _ _ h0 λb C o q=>(N.2 b (Gg f.of2 C)).trans ((K.2 b (Gg f.if2 C)).trans q)
 refine Aa (Aa (dZ ?_))
 show wpAny _ _ (bind (Dv (.ref l)) _) _ _ _
 refine Aa (D2.item i _ _ _ l2 k3 λy h4 h9 py Z I=>Am ?_)
 replace I:Dd l W h4:=I
 have S:Jn h4 TO x b:=(I.2 TO f.to2).trans G
 refine Aa (Jm S rfl (Aa (Zg S λh F L=>?_)))
 replace F:Jn h TO x y:=F
 replace L:Dd TO h4 h:=L
 refine Aa (wpAny_letGo (Am (Am ?_)))
 refine Aa (Jm F rfl (Aa (wpAny_newTuple ?_)))
 have sz:h.objs.size=hp.objs.size:=by rw[L.1,I.1,N.1,K.1,M.1]
 have R:IsZip h z TI TO .ellipsis:=(L.2 z f.toz.symm).trans ((I.2 z f.z2.symm).trans ((N.2 z f.toz.symm).trans ((K.2 z f.z1.symm).trans J)))
 have k5:∀c o,c≠z->c≠TO->c≠j->c≠l->hp.get? c=some o->h.get? c=some o:=λc o H X c3 c4 e =>
  (L.2 c X).trans ((I.2 c c4).trans ((N.2 c X).trans ((K.2 c c3).trans ((M.2 c H).trans e))))
 have k4:n (i+1) h:=Y.frame _ _ _ k1 λb C o q=>(L.2 b (Gg f.of1 C)).trans ((I.2 b (Gg f.if1 C)).trans ((N.2 b (Gg f.of1 C)).trans q))
 have k0:m (i+1) h:=D2.frame _ _ _ Z λb C o q=>(L.2 b (Gg f.of2 C)).trans q
 have zl:z<h.objs.size:=Bb R
 show wpAny _ _ (bind (Pk (.ref z) (.ref h.objs.size)) _) _ _ _
 refine Aa ?_
 unfold Pk
 have h6:IsZip (h.push { cls:=.type "tuple",data:=.seq #[x,y] }) z TI TO .ellipsis:=Aq _ R
 refine Aa (Jw h6 (by simp) λh7 O s7=>?_)
 replace O:IsZip h7 z TI TO (Jy h.objs.size):=O
 refine Jw O (by simp) λU D s8=>?_
 replace D:IsZip U z TI TO (Jy h.objs.size):=D
 have up:∀c o,c≠z->h.get? c=some o->U.get? c=some o:=λc o H e=>(s8.2 c H).trans ((s7.2 c H).trans (Aq _ e))
 have gT:Jn U h.objs.size x y:=(s8.2 _ (Oz zl)).trans ((s7.2 _ (Oz zl)).trans (Be _ rfl))
 have z8:U.objs.size=h.objs.size+1:=by rw[s8.1,s7.1,Gz]
 rw[sz] at D gT z8
 refine Am ⟨_,rfl,?_⟩
 show Q (.ref h.objs.size) _
 rw[sz]
 exact k x y U h9 px py D (up _ _ f.toz F) (Y.frame _ _ _ k4 λb C o q=>up b o (Gg f.zf1 C) q) (D2.frame _ _ _ k0 λb C o q=>up b o (Gg f.zf2 C) q) gT z8 λc o H X c3 c4 e=>up c o H (k5 c o H X c3 c4 e)
theorem A9{a b:Value}{Q:Fin->Ak->Prop}(Y:Draws prog w A j r p B n)(D2:Draws prog w A l f2 t u m)(f:ZApart z TI TO j l r f2)(N:IsZip s.heap z TI TO .none)(gI:Jn s.heap TI (.ref j) (.ref l))(gO:Jn s.heap TO a b)(g1:n i s.heap)(g2:m i s.heap)(hn:i=p\/(i<p/\i=t))(k:∀h' e tk,(∀c o,c≠z->c≠TO->c≠j->c≠l->s.heap.get? c=some o->h'.get? c=some o)->(∃o,h'.get? e=some o/\o.cls=.type "StopIteration")->E (.ref e) { s with heap:=h',toks:=tk }):wpAny (model prog w) A (Builtin.«zip.__next__» ⟨[.ref z],[]⟩) Q E s:=by
 obtain ⟨hp,g,d,h8,os⟩:=s
 show wpAny _ _ (bind (field (.ref z) 2) _) _ _ _
 refine Aa (Ft N rfl (x:=.bool false) rfl ?_)
 show wpAny _ _ (bind (field (.ref z) 3) _) _ _ _
 refine Aa (Ft N rfl (x:=.ref TI) rfl (Aa (Jm gI rfl ?_)))
 show wpAny _ _ (bind (Fy (.ref z)) _) _ _ _
 refine Aa ?_
 unfold Fy
 refine Aa (Ft N rfl (x:=.none) rfl (Am ?_))
 simp only[if_true]
 refine Aa (Rr (Aa (Ft N rfl (x:=.ref TO) rfl (Aa (Jw N (by simp) λF h y=>?_)))))
 replace h:IsZip F z TI TO .ellipsis:=h
 replace y:Dd z hp F:=y
 refine Aa ?_
 simp only[List.forIn_cons,List.forIn_nil,List.zipIdx_cons,List.zipIdx_nil]
 have L:n i F:=Y.frame _ _ _ g1 λb G o q=>(y.2 b (Gg f.zf1 G)).trans q
 have T:m i F:=D2.frame _ _ _ g2 λb G o q=>(y.2 b (Gg f.zf2 G)).trans q
 refine Aa (Aa (dZ ?_))
 show wpAny _ _ (bind (Dv (.ref j)) _) _ _ _
 rcases hn with rfl | ⟨l1,rfl⟩
 ·refine Aa (Y.done _ _ _ L λD e P S=>?_)
  obtain ⟨W,ge,M⟩:=S
  replace P:Heap.ExtBut j F D:=P
  have I:IsZip D z TI TO .ellipsis:=P _ _ f.z1.symm h
  have V:e≠z:=λx=>by subst x; rw[I] at ge; cases ge; simp at M
  exact Jw I (by simp) λJ _ v=>k J e _ (λc o K _ U _ x=>(v.2 c K).trans (P _ _ U ((y.2 c K).trans x))) ⟨W,(v.2 e V).trans ge,M⟩
 ·refine Aa (Y.item _ _ _ _ l1 L λx D h0 px h7 C=>Am ?_)
  replace C:Dd j F D:=C
  have O:Jn D TO a b:=(C.2 TO f.to1).trans ((y.2 TO f.toz).trans gO)
  refine Aa (Jm O rfl (Aa (Zg O λJ h6 v=>?_)))
  replace v:Dd TO D J:=v
  refine Aa (wpAny_letGo (Am (Aa (Aa (dZ ?_)))))
  have X:m i J:=D2.frame _ _ _ T λb G o q=>(v.2 b (Gg f.of2 G)).trans ((C.2 b (Gg f.if2 G)).trans q)
  show wpAny _ _ (bind (Dv (.ref l)) _) _ _ _
  refine Aa (D2.done _ _ _ X λh4 e R S=>?_)
  obtain ⟨W,ge,M⟩:=S
  replace R:Heap.ExtBut l J h4:=R
  have H:IsZip h4 z TI TO .ellipsis:=R _ _ f.z2.symm ((v.2 z f.toz.symm).trans ((C.2 z f.z1.symm).trans h))
  have V:e≠z:=λx=>by subst x; rw[H] at ge; cases ge; simp at M
  exact Jw H (by simp) λh5 _ Z=>k h5 e _ (λc o K c2 U c4 x=>(Z.2 c K).trans (R _ _ c4 ((v.2 c c2).trans ((C.2 c U).trans ((y.2 c K).trans x))))) ⟨W,(Z.2 e V).trans ge,M⟩
theorem yK{a b:Value}{Q:Option Value->Ak->Prop}(g:Draws prog w A.in1 j r p B n)(D2:Draws prog w A.in1 l f2 t u m)(h:ZApart z TI TO j l r f2)(e:IsZip s.heap z TI TO .none)(v:Jn s.heap TI (.ref j) (.ref l))(C:Jn s.heap TO a b)(L:n i s.heap)(g2:m i s.heap)(l1:i<p)(l2:i<t)(k:∀x y h' d,B i x->u i y->IsZip h' z TI TO (Jy s.heap.objs.size)->Jn h' TO x y->n (i+1) h'->m (i+1) h'->Jn h' s.heap.objs.size x y->h'.objs.size=s.heap.objs.size+1->(∀c o,c≠z->c≠TO->c≠j->c≠l->s.heap.get? c=some o->h'.get? c=some o)->Q (some (.ref s.heap.objs.size)) { s with heap:=h',toks:=d }):wpAny (model prog w) A (Mg (.ref z)) Q E s:=by
 have f:s.TypeIs (.ref z) "zip" := ⟨_,e,rfl⟩
 unfold Mg
 refine Aa (eE (Eu (name:=Kv "__next__") f PySem.F.slot_zip_next (Ek PySem.F.slot_zip_next f PySem.F.entry_zip_next ?_ (PySem.F.args_zip_next_1 _))))
 exact yH g D2 h e v C L g2 l1 l2 λx y h' d G H K q D N J M I=>Am (k x y h' d G H K q D N J M I)
theorem xS{a b:Value}{Q:Option Value->Ak->Prop}(q:Draws prog w A.in1 j r p B n)(D2:Draws prog w A.in1 l f2 t u m)(v:ZApart z TI TO j l r f2)(g:IsZip s.heap z TI TO .none)(D:Jn s.heap TI (.ref j) (.ref l))(C:Jn s.heap TO a b)(I:n i s.heap)(g2:m i s.heap)(G:i=p\/(i<p/\i=t))(k:∀h' f,(∀c o,c≠z->c≠TO->c≠j->c≠l->s.heap.get? c=some o->h'.get? c=some o)->Q none { s with heap:=h',toks:=f }):wpAny (model prog w) A (Mg (.ref z)) Q E s:=by
 have h:s.TypeIs (.ref z) "zip" := ⟨_,g,rfl⟩
 unfold Mg
 refine Aa (eE (Eu (name:=Kv "__next__") h PySem.F.slot_zip_next (Ek PySem.F.slot_zip_next h PySem.F.entry_zip_next ?_ (PySem.F.args_zip_next_1 _))))
 refine A9 q D2 v g D C I g2 G λh' e f x d => ?_
 obtain ⟨o,H,y⟩ := d
 exact Aa (Og (T := "StopIteration") (b:=true) ⟨o,H,y⟩ isSubtype_stop (Am (k h' f x)))
end
theorem BI(I a b:Nat)(d:a<I)(f:b<I):ZApart (I+4) (I+2) (I+3) I (I+1) [I,a] [I+1,b]:=by
 constructor <;> (first | (intro e; have c:(_:Nat)=_:=e; omega) | (intro e; simp only[Ai,Bc,or_false] at e; rcases e with e | e <;> (have c:(_:Nat)=_:=e; omega)))
end Nd
namespace DL
open PySem PySem.Spec PyProof.Rows L2 Nd
end DL
namespace Nd
open PySem PySem.Spec PySem.Calls PyProof.Rows PyProof.V L2
end Nd
namespace DL
open PySem PySem.Spec PyProof.Rows L2 Nd
section
variable{K:PySem.W.Frag}{H0 H H':Hp}{X:Addr->Prop}{n:Nat}{E S T:List Ent}
theorem At.pushS(h:At K H0 X n E H){v:V}{d:Ad}{F:List Addr}(r:RdF K H v d F)(e:∀f∈E,∀a∈cells f,a∉F):At K H0 X n (⟨some v,.dat .sh d,F⟩::E) H :=
 h.push ⟨v,rfl,r,λz=>(nomatch z),λz=>(nomatch z)⟩ (λf c=>⟨λ_ a b=>(nomatch b),λ_ a b=>e f c a b⟩) λa b=>(nomatch b)
end
section
variable{P:Bk}{w:World}{K:PySem.W.Frag}{mg:Str->Option Value}{base:Heap}
theorem MA{As:List Ent}{k:Nat}:∀e∈As.map Sm++Fs k,∀a∈e.F,∃f∈As,a∈f.F:=λe he a b=>by
 rcases Ar.mp he with he | he
 ·obtain ⟨f,c,rfl⟩:=Fb.mp he
  refine ⟨f,c,?_⟩
  obtain ⟨v,x,F⟩:=f
  cases x <;> exact b
 ·rw[(Gc.mp he).2] at b
  exact nomatch b
end
theorem nP:∀{As:List Ent},noPk (As.map Ent.x)=true->∀e∈As,Lr e.x=false
 | [],_,e,he=>nomatch he
 | ⟨v,x,F⟩::As,h,e,he=>by
  rw[Ap] at h
  have a:Lr x=false/\noPk (As.map Ent.x)=true:=by
   cases x with
   | dat m d=>cases m <;> first | exact ⟨rfl,h⟩ | (simp [noPk] at h)
   | _=>exact ⟨rfl,by simpa [noPk] using h⟩
  rcases Ai.mp he with rfl | he
  ·exact a.1
  ·exact nP a.2 e he
def oO(K:PySem.W.Frag)(m:DF):Sp:=λo H Q _=>∃(b:Addr) (j:List V) (g:List Ent) (n:Nat) (l:List Ad) (R:Ad->Nat->Prop) (C:List Addr),o=.ref b::j/\g.map Ent.v=j.map some/\(∀e∈g,Fx K H n e)/\(∀e∈g,b∉e.F)/\(∃c k f,Wu H b c k f/\0<=k/\k<=(n:Int))/\datas (g.map Ent.x)=some l/\m l n R /\
 b∉C/\(∀a∈C,H a≠none/\∀e∈g,a∉e.F) /\
 ∀v d F i h,n<=i->R d i->RdF K h v d F->(∀a∈F,a∉C)->Ui b H h->(∃c k f,Wu h b c k f/\0<=k/\k<=(i:Int))->Q v h
def retWT(n:Nat)(R:Ad->Nat->Prop):DEnds where
 nx:=λa=>n<=a.n/\R .none a.n
 rt:=λx a=>n<=a.n/\∃m d,x=.dat m d/\m≠.pk/\R d a.n
section
variable{P:Bk}{w:World}{K:PySem.W.Frag}{mg:Str->Option Value}{base:Heap}
theorem lT{x l:Str}{st:Stmt}{f:Addr}{fd:Bj}{N ps:List Str}{I:Str}{k:Nat}{df:DF}{db:DB}(F:Fun K x l st f fd)(S:FnScope N (I::ps) (Bi st))(hb:∀(t:Value) (A:Cf) (outer:List Env) (s:Ak) (H:Hp) (E:XK),Room k (A.deeper (Fe l (Bi st) s.heap.objs.size f t))->Uq (Kb Hq P w K mg base N l (Bi st) f t A outer s H E).nox (Gr st) db)(h:∀ds n R,df ds n R->ds.length=ps.length/\db (retWT n R) ⟨.drw::args0 ds (N.length - (I::ps).length),n⟩):FnOk P w K mg base Hq (k+1) f fd (I::ps) (oO K df):=by
 refine F.ok S (λvs H Q E z=>?_) λt A outer s H us Q E hr z=>?_
 ·obtain ⟨j,ws,As,n,ds,R,C,rfl,eu,ok,nd,y,q,hp,_⟩:=z
  have l1:=(h ds n R hp).1
  have l2:=Hj q
  rw[Af] at l2
  have l3:=congrArg Ei eu
  rw[Af,Af] at l3
  rw[Bp,Bp]
  omega
 ·obtain ⟨j,ws,As,n,ds,R,C,rfl,eu,ok,h0,y,q,hp,hC,hG,k1⟩:=z
  obtain ⟨l1,hd⟩:=h ds n R hp
  have l2:=Hj q
  rw[Af] at l2
  have l3:=congrArg Ei eu
  rw[Af,Af] at l3
  let T:Hp:=λa=>open Classical in if a∈C then none else H a
  have M:∀{a},a∈C->T a=none:=λz=>if_pos z
  have D:∀{a},a∉C->T a=H a:=λz=>if_neg z
  have L:∀{E':List Ent} {n':Nat} {J:Hp},At K T (·=j) n' (E'++[⟨none,.grd H,C⟩]) J->Ui j H J:=λ{E' n' J} G b o nb e=>by
   by_cases hb:b∈C
   ·obtain ⟨o',g1,g2⟩:=G.ok _ (Ag _ Ab) b hb
    rw[e] at g1
    cases g1
    exact g2
   ·exact G.same b o nb (by rw[D hb]; exact e)
  refine ⟨_,hb t A outer s H E hr,T,(·=j),⟨some (.ref j),.drw,[j]⟩::(As.map Sm++Fs (N.length - (I::ps).length)),[⟨none,.grd H,C⟩],⟨.drw::args0 ds (N.length - (I::ps).length),n⟩,retWT n R,?_,?_,λe z=>?_,?_,hd,λB S' J e1 G p=>?_,λx B v F' S' J e1 G p=>?_,λ_ _ _ _ _ p=>p.elim,λ_ _ _ _ _ p=>p.elim⟩
  ·unfold vs L2.start Fs
   rw[Ap,Ay,K4,eu,Ks,Bp,Bp,show ws.length=ps.length by omega]
   rfl
  ·unfold Sl args0 Fs
   rw[Ap,Ay,Py q,Ks]
  ·rw[Aj.mp z]; rfl
  ·have U:=Wl q (N.length - (I::ps).length)
   have hF:=MA (As:=As) (k:=N.length - (I::ps).length)
   have gF:∀e∈As.map Sm++Fs (N.length - (I::ps).length),∀a∈C,a∉e.F:=λe he a i z=>by
    obtain ⟨f,hf,zf⟩:=hF e he a z
    exact (hG a i).2 f hf zf
   have X:∀e∈As.map Sm++Fs (N.length - (I::ps).length),j∉e.F:=λe he z=>by
    obtain ⟨f,hf,zf⟩:=hF e he j z
    exact h0 f hf zf
   have V:T j≠none:=by
    rw[D hC]
    obtain ⟨c,Z,fl,W,z2⟩:=y
    exact λz=>(by rw[show H j=some _ from W] at z; cases z)
   refine ⟨λe he=>?_,Ax.mpr ⟨λb hb'=>?_,Bs.mpr ⟨Oa λa i b hb'=>⟨λO c g=>?_,λO c g=>?_⟩,En _ _,λa i b hb'=>⟨λO c g=>?_,λO c g=>?_⟩⟩⟩,λe he a i=>?_,λb o _ e=>?_,λb o e=>?_,λb hb=>?_⟩
   ·rcases Ai.mp he with rfl | he
    ·obtain ⟨c,Z,fl,W,z2,z3⟩:=y
     exact ⟨j,c,Z,fl,rfl,rfl,W,z2,z3⟩
    ·rcases Ar.mp he with he | he
     ·exact oT q ok _ e he
     ·rw[Aj.mp he]
      intro a i
      have:=(hG a i).1
      cases q:H a with
      | none=>exact absurd q this
      | some o=>exact ⟨o,by first | rfl | exact q,by first | rfl | exact q⟩
   ·rcases Ar.mp hb' with hb' | hb'
    ·refine ⟨λO c g=>?_,λO c g=>?_⟩
     ·rw[Aj.mp g]; exact X b hb'
     ·rw[(U b hb').1] at g; cases g
    ·rw[Aj.mp hb']
     refine ⟨λO c g=>?_,λO c g z=>?_⟩
     ·rw[Aj.mp g]; exact hC
     ·rw[Aj.mp z] at g; exact hC g
   ·rw[(U a i).1] at g; cases g
   ·rw[(U b hb').1] at g; cases g
   ·rw[(U a i).1] at g; cases g
   ·rw[Aj.mp hb'] at g
    exact gF a i c g
   ·rcases Ai.mp he with rfl | he
    ·rw[Aj.mp i]
     exact .inr ⟨rfl,rfl⟩
    ·rcases Ar.mp he with he | he
     ·rw[(U e he).1] at i; cases i
     ·rw[Aj.mp he] at i
      exact .inl (M i)
   ·by_cases hb:b∈C
    ·rw[M hb] at e; cases e
    ·rw[D hb] at e; exact e
   ·by_cases hb:b∈C
    ·rw[M hb] at e; cases e
    ·rw[D hb] at e; exact ⟨o,e⟩
   ·subst hb
    obtain ⟨c,Z,fl,W,z2⟩:=y
    exact ⟨V,c,Z,fl,W,z2⟩
  ·exact k1 .non .none [] B.n J p.1 p.2 .non (λ_ z=>(nomatch z)) (L G) (G.xd j rfl).2
  ·obtain ⟨hn,m,d,rfl,hm,r⟩:=p
   obtain ⟨u,e2,rd,_⟩:=G.ok _ mem_mid
   cases e2
   have Y:At K T (·=j) B.n ((S'++[⟨some v,.dat m d,F'⟩])++[⟨none,.grd H,C⟩]) J:=by rw[Az]; exact G
   refine k1 v d F' B.n J hn r rd (λa i=>?_) (L Y) (G.xd j rfl).2
   have sp:=(Bs.mp Y.sep).2.2 _ (Ag _ Ab) _ Ab
   exact λz=>sp.2 (.inr rfl) a z i
end
section
variable(K:PySem.W.Frag)(H0:Hp)
def MK(f:DE):TE:=λd H Q=>∃(S T:List Ent) (c:DS) (P:DV->DS->Prop),vs S=d/\Sl S c/\At K H0 (λ_=>False) c.n (S++T) H/\f c P /\
 ∀x a v F b e,vs b=d->Sl b a->At K H0 (λ_=>False) a.n (b++⟨some v,x,F⟩::T) e->P x a->Q v e
def MV(i:DA):TA:=λf H Q=>∃(S T:List Ent) (d:DS) (P:List DV->DS->Prop),vs S=f/\Sl S d/\At K H0 (λ_=>False) d.n (S++T) H/\i d P /\
 ∀e a b g c h,vs c=f->Sl c a->b.map Ent.x=e->b.map Ent.v=g.map some->At K H0 (λ_=>False) a.n (c++(b++T)) h->P e a->Q g h
def pE(db:DB):TS:=λD f H=>∃(S T:List Ent) (d:DS) (P:DEnds),vs S=f/\Sl S d/\(∀e∈T,Lr e.x=false)/\At K H0 (λ_=>False) d.n (S++T) H/\db P d /\
 (∀a b c,Sl b a->At K H0 (λ_=>False) a.n (b++T) c->P.nx a->D.nx (vs b) c) /\
 (∀x a v F b c,Sl b a->At K H0 (λ_=>False) a.n (b++⟨some v,x,F⟩::T) c->P.rt x a->D.rt v c) /\
 (∀a b c,Sl b a->At K H0 (λ_=>False) a.n (b++T) c->P.bk a->D.bk (vs b) c) /\
 (∀a b c,Sl b a->At K H0 (λ_=>False) a.n (b++T) c->P.ct a->D.ct (vs b) c)
end
abbrev PX:=List Ad->(Ad->Prop)->(Addr->Prop)->Prop
def fE(K:PySem.W.Frag)(i:PX):Sp:=λh H Q E=>∃(c:List Ent) (n:Nat) (f:List Ad) (R:Ad->Prop) (g:Addr->Prop),c.map Ent.v=h.map some/\(∀e∈c,Fx K H n e)/\datas (c.map Ent.x)=some f/\i f R g /\
 (∀v d F b,R d->RdF K b v d F->F.Nodup->(∀a∈F,H a=none)->Lu H b->Q v b)/\∀C b,g C->Lu H b->E (.ref C) none b
def zY(h:PX)(e:Addr->Prop)(f:DA):DE:=λg P=>f g λb a=>match datas b with
 | some c=>h c (λd=>P (.dat .ow d) a) e
 | none=>False
def kG(a:Addr->Prop)(C:Addr):DB:=λ_ _=>a C
section
variable{X:Cx}{H0:Hp}{st:Stmt}{Mi f:List Stmt}{e g c iter:Expr}{es:List Expr}{o:DE}{j:DA}{dt:DT}{l:DG}{k:DI}{t u db:DB}{pos:Pos}
theorem FA(h:Wb X es j):PA X es (MV X.K H0 j):=PA.imp h λb H Q ⟨S,T,a,P,z⟩=>⟨H0,_,S,T,a,P,z⟩
theorem K3(h:Uq X Mi db):Uo X Mi (pE X.K H0 db):=Uo.impD h λD b H ⟨S,T,a,P,z⟩=>⟨H0,_,S,T,a,P,z⟩
theorem Li(h:PS X st (pE X.K H0 t)):Uo X [st] (pE X.K H0 t):=Ni h
theorem cR(i:PS X st (pE X.K H0 t))(m:Uo X Mi (pE X.K H0 u)):Uo X (st::Mi) (pE X.K H0 (U4 t u)):=by
 refine Uo.impD (Ja i m) λD r H h=>?_
 obtain ⟨S,T,n,P,rfl,k,d,q,l,o,e,c,f⟩:=h
 exact ⟨S,T,n,_,rfl,k,d,q,l,λa j s g b p=>⟨j,T,a,P,rfl,g,d,b,p,o,e,c,f⟩,e,c,f⟩
theorem bU{a b:List Stmt}(s:fH X c dt)(o:Uo X a (pE X.K H0 t))(hb:Uo X b (pE X.K H0 u)):PS X (.If c a b pos) (pE X.K H0 (JD dt t u)):=by
 refine PS.impD (uR s o hb) λD x H h=>?_
 obtain ⟨S,T,v,P,rfl,q,j,w,r,m,l,i,n⟩:=h
 refine ⟨H0,_,S,T,v,_,rfl,q,w,r,λb e g y k f d p=>?_⟩
 cases b with
 | true=>exact oF ⟨g,T,e,P,k,f,j,d,p,m,l,i,n⟩
 | false=>exact nU ⟨g,T,e,P,k,f,j,d,p,m,l,i,n⟩
theorem S8(hp:aE (model X.prog X.w) X.A X.env X.xe)(hc:X.calm=true)(hi:sC X g iter k)(hg:Y2 X g l)(hb:Uo X f (pE X.K H0 db))(N:∀x,Cr iter X.env x=pure x:=by intro _; rfl):PS X (.For g iter f [] pos) (pE X.K H0 (T8 k l db)):=by
 refine PS.impD (qF hp hc hi hg hb N) λD L H h=>?_
 obtain ⟨S,T,p,P,rfl,hS,hT,hA,hd,Z,k2,k3,k4⟩:=h
 refine ⟨H0,_,S,T,p,_,rfl,hS,hA,hd,λm B O J o S1 H1 e1 e2 R it hz p1=>?_⟩
 obtain ⟨rfl,I,h0,N,hf⟩:=p1
 rw[<- e1]
 have U:∀e∈o++T,Lr e.x=false:=λe he=>by
  rcases Ar.mp he with he | he
  ·exact it.np rfl e he
  ·exact hT e he
 refine ⟨λi q L H=>q=B.length - i/\i<=B.length/\∃S p,vs S=L/\Sl S p/\At X.K H0 (λ_=>False) p.n (S++(o++T)) H/\I i p,⟨B.length,by simp,Cw _,S1,O,rfl,e2,R,h0⟩,?_⟩
 (intro i q L H q_; obtain ⟨rfl,hi,W,b,rfl,V,u,Y⟩ := q_)
 have a:∀e∈o,Fx X.K H b.n e:=λe he=>u.ok e (Ag _ (Ae _ he))
 by_cases s:i<B.length
 ·refine .inr ⟨it.go H b.n i a s,λE G=>∃S p,vs S=E/\Sl S p/\At X.K H0 (λ_=>False) p.n (S++(o++T)) G/\I (i+1) p,λE G q=>⟨B.length - (i+1),by omega,rfl,s,q⟩,λx G y=>?_⟩
  obtain ⟨s1,d,F,h1,h2,h3⟩:=it.yld H b.n i x G a s y
  refine ⟨H0,_,W,o++T,b,.dat .sh d,F,_,rfl,V,u.item s1 h2 h3 it.md it.hd it.np,N i d b h1 Y,λQ S3 H3 e4 M p3=>?_⟩
  refine ⟨S3,o++T,Q,_,rfl,e4,U,M,p3,λc t C r j z=>⟨t,c,rfl,r,j,z⟩,λx c v F t C r j z=>k2 x c v F t C r j.dropH z,
   λc t C r j z=>Z c t C r j.dropL z,λc t C r j z=>⟨t,c,rfl,r,j,z⟩⟩
 ·have e:i=B.length:=by omega
  subst e
  exact .inl ⟨it.stop H b.n a,Z b W H V u.dropL (hf b Y)⟩
end
section
variable{X:Cx}{H0:Hp}{CX:eL}{k:Nat}{f:Addr}{g:Bj}{ps:List Str}{l:PF}{j:PX}{c:Addr->Prop}{E:XK}{x:Str}{p pos:Pos}{e:Expr}{es:List Expr}{i:DA}
theorem tE{K:PySem.W.Frag}{n:Nat}{L:List Ent}{H:Hp}(h:At K H0 (λ_=>False) n L H):Lu H0 H:=λb o q=>h.same b o (λz=>z) q
theorem Xw(hE:∀C H',c C->Lu H0 H'->E (.ref C) none H')(F:FnOk X.prog X.w X.K X.mg X.base CX k f g ps (fE X.K j))(G:Room k X.A)(M:Gl X x)(R:X.mg x=some (.ref f))(J:PySem.W.keepIn X.K (.ref f)=true)(hb:Binds X.K g ps [])(hx:Fu CX X E)(m:PA X (e::es) (MV X.K H0 i))(u:(x == ("__debug__" : Str))=false:=by decide)(t:An (e::es) X.env=(false,eval e X.env)::An es X.env:=by rfl)(y:(Cq pos (An es X.env)).any (·.1)=false:=by rfl):PE X (.Call (.Name x p) (e::es) [] pos) (MK X.K H0 (zY j c i)):=by
 refine PE.imp (Os F G M R J hb .nil hx m u t y) λσ H Q h=>?_
 obtain ⟨S,T,Y,P,rfl,Z,hA,O,V⟩:=h
 refine ⟨S,T,Y,_,rfl,Z,hA,O,λxs o z us D H' L N ex eu b p=>?_⟩
 subst ex
 cases q:datas (z.map Ent.x) with
 | none=>rw[q] at p; exact p.elim
 | some U =>
  rw[q] at p
  rw[Bo]
  refine ⟨z,o.n,U,_,c,eu,λe t=>b.ok e (Ag _ (Ae _ t)),q,p,λv d F l r rd nd B s=>?_,λC l I s=>hE C l I ((tE b).trans s)⟩
  exact V _ o v F D l L N (((b.dropL.grow s (Au _)).pushF rd nd (λa m=>b.dropL.free (B a m)) (λa m=>b.new0 (B a m))).tomid) r
theorem Vd{X:Cx}{P:Bk}{w:World}:Fu (Iu P w) X E0:=by
 intro a d c f g b I h
 obtain ⟨e,C,t,i,B,rfl,F,q⟩:=h
 exact q.elim
end
section
variable{P:Bk}{w:World}{K:PySem.W.Frag}{mg:Str->Option Value}{base:Heap}{N:List Str}{i:Str}{g:Scope}{f:Addr}{l:Value}{A:Cf}{outer:List Env}{s:Ak}{H:Hp}{E:XK}
theorem Wh:aE (model P w) (Kb (Iu P w) P w K mg base N i g f l A outer s H E).A (Kb (Iu P w) P w K mg base N i g f l A outer s H E).env (Kb (Iu P w) P w K mg base N i g f l A outer s H E).xe:=by
 show aE _ (A.deeper (Fe i g s.heap.objs.size f l)) (Fe i g s.heap.objs.size f l) (λe b=>wpAny (model P w) (A.deeper (Fe i g s.heap.objs.size f l)) (leaving (Fe i g s.heap.objs.size f l) e) (λ_ a=>Iu P w outer H s E e a) (λc a=>Iu P w outer H s E c a) b)
 passes_own
theorem Xo{b:Addr->Prop}{C:Addr}{x:Str}{np a pos:Pos}{t:Str}{c:Pos}{j:Nat}(m:∀C H',b C->Lu H H'->E (.ref C) none H')(n:Gl (Kb (Iu P w) P w K mg base N i g f l A outer s H E) x)(e:mg x=some (.ref C))(k:PySem.W.excIn K C Ze "ValueError.__new__" = true)(hd:(x == ("__debug__" : Str))=false:=by decide):PS (Kb (Iu P w) P w K mg base N i g f l A outer s H E) (.Raise (some (.Call (.Name x np) [.Constant (.str t) j c] [] a)) none pos) (pE K H (kG b C)):=by
 refine PS.impD (Wr n e k (Do Xz Ir) hd) λD q d h=>?_
 obtain ⟨S,T,u,Q,rfl,p,r,o,hd,_⟩:=h
 exact ⟨(by show 1<=Ba; decide),m C d hd (tE o)⟩
theorem Su{x:Str}{st:Stmt}{U:Bj}{ps:List Str}{k:Nat}{X:PX}{db:(Addr->Prop)->DB}(F:Fun K x i st f U)(S:FnScope N ps (Bi st))(hb:∀(j:Value) (A:Cf) (outer:List Env) (s:Ak) (H:Hp) (E:XK) (g:Addr->Prop),Room k (A.deeper (Fe i (Bi st) s.heap.objs.size f j))->(∀C H',g C->Lu H H'->E (.ref C) none H')->Uo (Kb (Iu P w) P w K mg base N i (Bi st) f j A outer s H E) (Gr st) (pE K H (db g)))(h:∀ds R g,X ds R g->ds.length=ps.length/\db g (retE R) ⟨args0 ds (N.length - ps.length),0⟩):FnOk P w K mg base (Iu P w) (k+1) f U ps (fE K X):=by
 refine MR F S (λvs H Q E z=>?_) λj A outer s H us Q E Z z=>?_
 ·obtain ⟨V,n,ds,R,g,D,ok,q,T,_⟩:=z
  have l1:=(h ds R g T).1
  have L:=Hj q
  rw[Af] at L
  have M:=congrArg Ei D
  rw[Af,Af] at M
  omega
 ·obtain ⟨V,n,ds,R,g,D,ok,q,T,W,Y⟩:=z
  obtain ⟨l1,hd⟩:=h ds R g T
  have L:=Hj q
  rw[Af] at L
  have M:=congrArg Ei D
  rw[Af,Af] at M
  refine ⟨_,hb j A outer s H E g Z Y,V.map Sm++Fs (N.length - ps.length),[],⟨args0 ds (N.length - ps.length),0⟩,retE R,?_,?_,λ_ z=>(nomatch z),?_,hd,λO G H' e1 m p=>?_,λx O v I G H' e1 m p=>?_,λ_ _ _ _ _ p=>p.elim,λ_ _ _ _ _ p=>p.elim⟩
  ·unfold vs L2.start Fs
   rw[Ay,K4,D,Ks,show us.length=ps.length by omega]
  ·unfold Sl args0 Fs
   rw[Ay,Py q,Ks]
  ·rw[Bo]
   have B:=Wl q (N.length - ps.length)
   refine ⟨λe y=>?_,Oa λa l b J=>⟨λhq c t=>?_,λhq c t=>?_⟩,λe y a l=>?_,λb o _ e=>e,λb o e=>⟨o,e⟩,λb hb=>hb.elim⟩
   ·have:=oT q ok (N.length - ps.length) e y
    obtain ⟨v,x,F⟩:=e
    cases x with
    | drw=>exact absurd (B _ y).2 (by show ¬ (true=false); decide)
    | _=>exact this
   ·rw[(B a l).1] at t; cases t
   ·rw[(B b J).1] at t; cases t
   ·rw[(B e y).1] at l; cases l
  ·exact W .non .none [] H' p .non Fw (λ_ z=>(nomatch z)) λb o e=>m.same b o (λz=>z) e
  ·obtain ⟨d,rfl,r⟩:=p
   rw[show G++[(⟨some v,.dat .ow d,I⟩ : Ent)]=G++⟨some v,.dat .ow d,I⟩::[] from rfl] at m
   obtain ⟨u,e2,rd,nd,_⟩:=m.ok _ mem_mid
   cases e2
   refine W v d I H' r rd (nd rfl) (λa l=>?_) λb o e=>m.same b o (λz=>z) e
   rcases m.new _ mem_mid a l with z | z
   ·exact z
   ·exact z.1.elim
end
end DL
namespace Nd
open PySem PySem.Spec PyProof.Rows L2
end Nd
namespace DL
open PySem PySem.Spec PyProof.Rows L2 Nd
def qP(b:Bool)(v:DI)(q:List Nat)(j:DI)(s:DE):DE:=λu P=>v u λm o f=>∃I:Nat->List Ad->Nat->Prop,I 0 [] f.n /\
 (∀i d c n,o[i]? = some d->I i c n->j ⟨.dat m d::.un::frD f.sl q,n⟩ λt p l=>∃h:Nat->List Ad->Nat->Prop,h 0 c l.n /\
  (∀k e a g,p[k]? = some e->h k a g->a.length+1<=Ba/\Jd b On s ⟨.dat m d::.dat t e::frD f.sl q,g⟩ (λz r=>h (k+1) (a++[z]) r) (λ_=>False)) /\
  ∀a g,h p.length a g->I (i+1) a g) /\
 ∀c n,I o.length c n->P (.dat (Yu b) (.list c)) ⟨f.sl,n⟩
theorem U1{v:Option V}{m:Md}{d:Ad}{F:List Addr}(h:m=.sh\/m=.pk):al ⟨v,.dat m d,F⟩=⟨v,.dat m d,F⟩:=by
 rcases h with rfl | rfl <;> rfl
section
variable{K:PySem.W.Frag}
theorem r0{b:Bool}{di h9:DI}{L:List Nat}{de:DE}:∀σ H Q,LE K (qP b di L h9 de) σ H Q->zB (LI K di) L (LI K h9) (LE K de) σ H Q:=by
 intro σ H Q h
 obtain ⟨t,Y,S,T,δ,P,rfl,hS,hA,hd,k⟩:=h
 refine ⟨t,Y,S,T,δ,_,rfl,hS,hA,hd,λm W C J f g H1 e1 e2 k0 it hz p1=>?_⟩
 obtain ⟨I,h0,hs,hf⟩:=p1
 rw[<- e1]
 intro D hD
 refine ⟨λi q H=>q=W.length - i/\i<=W.length/\∃a n G,(b=true->G=[])/\At K t Y n (⟨some (.ref D),.acc a,D::G⟩::(g++(f++T))) H/\I i a n,⟨W.length,by simp,Cw _,[],C.n,[],λ_=>rfl,k0.accNew hD,h0⟩,?_⟩
 (intro i q H q_; obtain ⟨rfl,hi,a,n,G,hG,V,hI⟩ := q_)
 have l:∀e∈f,Fx K H n e:=λe Z=>V.ok e (Ah _ (Ag _ (Ae _ Z)))
 by_cases R:i<W.length
 ·refine .inr ⟨it.go H n i l R,λx H' y o=>?_⟩
  obtain ⟨s1,d,F,h1,h2,h3⟩:=it.yld H n i x H' l R y
  have U:At K t Y n ((⟨some (.ref D),.acc a,D::G⟩::g)++⟨some x,.dat m d,F⟩::(f++T)) H':=At.item (S:=⟨some (.ref D),.acc a,D::G⟩::g) V s1 h2 h3 it.md it.hd it.np
  have O:At K t Y n (⟨some (.ref D),.acc a,D::G⟩::⟨some x,.dat m d,F⟩::(g++(f++T))) H':=(U.mid).perm (Dq _ _ _)
  have view:∀{n:Nat} {H:Hp} {e0:Ent} {hid2:List Ent} (u:Ent),At K t Y n (u::e0::⟨some x,.dat m d,F⟩::(g++hid2)) H->At K t Y n ((⟨some x,.dat m d,F⟩::u::aR g L)++e0::⟨some x,.dat m d,F⟩::(g++hid2)) H:=λ{n H e0 hid2} u h=>by
   have g1:=At.view (S:=g) h (λe Z=>Ah _ (Ah _ (Ah _ (Ae _ Z)))) L
   have g2:=g1.view1 (e:=⟨some x,.dat m d,F⟩) (Ag _ (Ah _ (Ah _ Ab)))
   rw[U1 it.md] at g2
   refine g2.perm ?_
   rw[Cd,Cd]
   exact (Cy).cons _
  have h8:∀(u:Ent) (n:Nat),Sl (⟨some x,.dat m d,F⟩::u::aR g L) ⟨.dat m d::u.x::frD C.sl L,n⟩:=λu n=>by
   unfold Sl
   rw[Ap,Ap,uG e2]
  have hv:∀(u:Ent),vs (⟨some x,.dat m d,F⟩::u::aR g L)=some x::u.v::Gk (vs g) L:=λu=>by
   rw[<- sV]
   rfl
  have hB:=view (hid2:=f++T) ⟨o,.un,[]⟩ O.blank
  refine ⟨t,Y,_,_,⟨.dat m d::.un::frD C.sl L,n⟩,_,hv ⟨o,.un,[]⟩,h8 ⟨o,.un,[]⟩ n,hB,hs i d a n h1 hI,λm2 B h6 J2 hid2 S2 H2 f1 f2 k6 s q0 p2=>?_⟩
  obtain ⟨I2,g0,gs,gf⟩:=p2
  have k5:At K t Y h6.n (⟨some (.ref D),.acc a,D::G⟩::(⟨some x,.dat m d,F⟩::(g++(hid2++(f++T))))) H2:=by
   have z:=k6.sub (Bv S2 _)
   refine z.perm ?_
   refine Cy.trans (Jq _ ?_)
   refine Cy.trans (Jq _ ?_)
   exact List.perm_append_comm_assoc _ _ _
  refine ⟨λr q2 H=>q2=B.length - r/\r<=B.length/\∃a n G,(b=true->G=[])/\At K t Y n (⟨some (.ref D),.acc a,D::G⟩::(⟨some x,.dat m d,F⟩::(g++(hid2++(f++T))))) H/\I2 r a n,⟨B.length,by simp,Cw _,a,h6.n,G,hG,k5,g0⟩,?_⟩
  (intro r q2 H3 q_; obtain ⟨rfl,k9,j,E,G2,h4,N,h7⟩ := q_)
  have c:∀e∈hid2,Fx K H3 E e:=λe Z=>N.ok e (Ah _ (Ah _ (Ag _ (Ae _ Z))))
  by_cases A:r<B.length
  ·refine .inr ⟨s.go H3 E r c A,λy2 H4 yy=>?_⟩
   obtain ⟨s2,d2,F2,k1,k2,k3⟩:=s.yld H3 E r y2 H4 c A yy
   obtain ⟨lz,st⟩:=gs r d2 j E k1 h7
   have k7:At K t Y E ((⟨some (.ref D),.acc j,D::G2⟩::⟨some x,.dat m d,F⟩::g)++⟨some y2,.dat m2 d2,F2⟩::(hid2++(f++T))) H4:=At.item (S:=⟨some (.ref D),.acc j,D::G2⟩::⟨some x,.dat m d,F⟩::g) N s2 k2 k3 s.md s.hd s.np
   have k4:=view (hid2:=hid2++(f++T)) ⟨some y2,.dat m2 d2,F2⟩ k7.mid
   have z:=oB (dc:=On) (N1:=λ_=>False) (N2:=λv H5=>∃a,H5 D=some (.lst a)/\a.length<Ba/\∃X,X<B.length - r/\(X=B.length - (r+1)/\r+1<=B.length/\∃M n G,(b=true->G=[])/\At K t Y n (⟨some (.ref D),.acc M,D::G⟩::(⟨some x,.dat m d,F⟩::(g++(hid2++(f++T))))) (upd H5 D (.lst (a++[v])))/\I2 (r+1) M n)) (h8 ⟨some y2,.dat m2 d2,F2⟩ E) h4 k4 st lz (λ_ _ _ z=>z) (λe n' v H5 G' k8 h5 p=>?_)
   ·rw[hv] at z
    have w:=gV (dt:=Wp) _ _ _ z
    unfold Wp at w
    dsimp only at w
    rw[if_pos rfl] at w
    exact w
   ·obtain ⟨xs,l1,l2,l3⟩:=h5
    exact ⟨xs,l1,by omega,B.length - (r+1),by omega,rfl,A,j++[e],n',G',k8,l3,p⟩
  ·have e:r=B.length:=by omega
   subst e
   refine .inl ⟨s.stop H3 E c,W.length - (i+1),by omega,rfl,R,j,E,G2,h4,?_,gf j E h7⟩
   refine N.sub (List.Sublist.cons₂ _ (List.Sublist.cons _ ?_))
   exact (Bm g).append (Bv hid2 _)
 ·have e:i=W.length:=by omega
  subst e
  refine .inl ⟨it.stop H n l,k _ ⟨C.sl,n⟩ _ (D::G) g H e1 e2 ?_ (hf a n hI)⟩
  have U:=V.accGetG hG
  have O:At K t Y n (⟨some (.ref D),.dat (Yu b) (.list a),D::G⟩::(g++T)) H:=U.sub (((Bm g).append (Bv f T)).cons₂ _)
  exact O.tomid
end
section
variable{X:Cx}{f iter c:Expr}{x r d q:Str}{k n e pt o pos i:Pos}{p:Nat}{a:Scope}{h:List (Str×Addr)}{ys:List Str}{m:List Nat}{l g:DI}{j:DE}
theorem j5{b:Bool}(C:CompScope X a h x ys m)(i:xM a d)(o:(x::d::ys).Nodup)(r:X.calm=true)(u:sC X (.Name x k) iter l)(n:∀fp s H,sC (Dw X a h (x::d::ys) fp s H) (.Name d e) c g)(q:∀fp s H,Fg (Dw X a h (x::d::ys) fp s H) f j)(t:∀x,Cr iter X.env x=pure x:=by intro _; rfl)(p:∀fp s H v,Cr c (Dw X a h (x::d::ys) fp s H).env v=pure v:=by intro _ _ _ _; rfl):Fg X (.ListComp f [⟨.Name x k,iter,[],0⟩,⟨.Name d e,c,[],0⟩] a pos) (qP b l m g j):=PE.imp (A6 C i o r u n q t p) r0
end
def BJ(b:Bool)(m:DE)(pre c:List DV)(i:List Ad)(g:List Ad->Nat->Prop)(l:Md)(es:List Ad)(j:DS):Prop:=∃f:Nat->List Ad->Nat->Prop,f 0 i j.n /\
 (∀h e a d,es[h]? = some e->f h a d->a.length+1<=Ba/\Jd b On m ⟨pre++.dat l e::c,d⟩ (λz k=>f (h+1) (a++[z]) k) (λ_=>False)) /\
 ∀a d,f es.length a d->g a d
def GN(b:Bool)(f:List Nat)(e:DI)(g:DE)(P:DV->DS->Prop)(m:Md)(ds:List Ad)(c:DS):Prop:=∃I:Nat->List Ad->Nat->Prop,I 0 [] c.n /\
 (∀i d a n,ds[i]? = some d->I i a n->e ⟨.dat m d::.un::frD c.sl f,n⟩ (BJ b g [.dat m d] (frD c.sl f) a (I (i+1)))) /\
 ∀a n,I ds.length a n->P (.dat (Yu b) (.list a)) ⟨c.sl,n⟩
section
variable{b:Bool}{p:List Nat}{t k:DI}{o:DE}{P:DV->DS->Prop}{s c j:DS}{m q:Md}{ds es:List Ad}
theorem LQ{s:Type}{l:List s}{g:s->Ad}{pre h:List DV}{c:List Ad}{m:List Ad->Nat->Prop}(e:es=l.map g)(f:s->Ad)(v:c.length+l.length<=Ba)(u:∀y∈l,∀r:Ad->Nat->Prop,r (f y) j.n->Jd b On o ⟨pre++.dat q (g y)::h,j.n⟩ r (λ_=>False))(t:m (c++l.map f) j.n):BJ b o pre h c m q es j:=by
 subst e
 refine ⟨λi a n=>a=c++(l.take i).map f/\n=j.n,⟨by simp,rfl⟩,?_,?_⟩
 ·rintro i d _ _ p ⟨rfl,rfl⟩
  rw[Bu] at p
  cases k:l[i]? with
  | none=>rw[k] at p; cases p
  | some y =>
   rw[k] at p
   obtain rfl:g y=d:=Br p
   have w:=(Aw.mp k).1
   refine ⟨?_,u y (Bf k) _ ⟨?_,rfl⟩⟩
   ·rw[Bn,Af,My]
    omega
   ·rw[Ly k,Ay,Az]
    rfl
 ·rintro _ _ ⟨rfl,rfl⟩
  rw[Af,Fo]
  exact t
theorem J5{b c:Type}(r:b->List c){l:List b}{i:Nat}{a:b}(h:l[i]? = some a):((l.take i).flatMap r).length+(r a).length<=(l.flatMap r).length:=by
 have e:l.take (i+1)=l.take i++[a]:=Ly h
 have : ((l.take (i+1)).flatMap r).length<=(l.flatMap r).length:=by
  conv=>rhs; rw[<- Mq (i+1) l,Wy,Bn]
  omega
 rw[e,Wy,Bn] at this
 simpa using this
theorem MD{s:Type}{l:List s}{g:s->Ad}(e:ds=l.map g)(r:s->List Ad)(t:(l.flatMap r).length<=Ba)(v:∀a∈l,∀(f:List Ad) (j:List Ad->Nat->Prop),f.length+(r a).length<=Ba->j (f++r a) c.n->k ⟨.dat m (g a)::.un::frD c.sl p,c.n⟩ (BJ b o [.dat m (g a)] (frD c.sl p) f j))(u:P (.dat (Yu b) (.list (l.flatMap r))) ⟨c.sl,c.n⟩):GN b p k o P m ds c:=by
 subst e
 refine ⟨λi a n=>a=(l.take i).flatMap r/\n=c.n,⟨by simp,rfl⟩,?_,?_⟩
 ·rintro i d _ _ q ⟨rfl,rfl⟩
  rw[Bu] at q
  cases h:l[i]? with
  | none=>rw[h] at q; cases q
  | some y =>
   rw[h] at q
   obtain rfl:g y=d:=Br q
   refine v y (Bf h) _ _ (Bw (J5 r h) t) ⟨?_,rfl⟩
   rw[Ly h,Wy]
   simp
 ·rintro _ _ ⟨rfl,rfl⟩
  rw[Af,Fo]
  exact u
end
end DL
namespace Nd
open PySem PySem.Spec PyProof.Rows L2
end Nd
namespace Nd
open PySem PySem.Spec
end Nd
namespace Nd
open PySem PySem.Spec PyProof.Rows L2
end Nd
namespace DL
open PySem PySem.Spec PyProof.Rows L2 Nd
end DL
namespace Nd
open PySem PySem.Spec PyProof.Rows L2
end Nd
namespace DL
open PySem PySem.Spec PyProof.Rows L2 Nd
end DL
namespace Nd
open PySem PySem.Spec PyProof.Rows L2
end Nd
namespace DL
open PySem PySem.Spec PyProof.Rows L2 Nd
end DL
namespace Ts
open PySem PyProof.Rows L2
end Ts
namespace DL
open PySem PySem.Spec PyProof.Rows L2 Nd Ts
end DL
namespace DL
open PySem PySem.Spec PyProof.Rows L2 Nd
end DL
namespace Nd
open PySem PySem.Spec PyProof.Rows L2
end Nd
namespace DL
open PySem PySem.Spec PyProof.Rows L2 Nd
end DL
namespace Nd
open PySem PySem.Spec PySem.Calls PyProof.Rows PyProof.V L2 Ts
end Nd
namespace DL
open PySem PySem.Spec PyProof.Rows L2 Nd Ts
theorem tab_no{K:PySem.W.Frag}{x:Str}(nm:PySem.W.nsIn K Bq x=some none):PySem.W.tabIn K x=none:=by
 unfold PySem.W.tabIn
 rw[nm]
end DL
namespace HT
open PySem PyProof.Rows
end HT
namespace Nd
open PySem PySem.Spec PySem.Calls PyProof.Rows PyProof.V L2 Ts
end Nd
namespace DL
open PySem PySem.Spec PyProof.Rows L2 Nd Ts
end DL
namespace DL
open PySem PySem.Spec PyProof.Rows L2 Nd
end DL
namespace DL
open PySem L2 Nd
end DL
namespace Nd
open PySem PySem.Spec PyProof.Rows L2
end Nd
namespace DL
open PySem PySem.Spec PyProof.Rows L2 Nd
def IX:List Ad->Bool
 | [.int _,.int _,.bool _]=>true
 | _=>false
mutual
def Hm:Ad->Bool
 | .list a=>!IX a && Qd a
 | .tuple a=>Qd a
 | .dict _=>false
 | _=>true
def Qd:List Ad->Bool
 | []=>true
 | d::ds=>Hm d && Qd ds
end
theorem Tp{c:Type}{g:c->Ad}{l:List c}(h:∀a∈l,Hm (g a)=true):Qd (l.map g)=true:=by
 induction l with
 | nil=>rfl
 | cons a l e=>rw[Ap,Qd,h a Ab,e λb d=>h b (Ah _ d)]; rfl
theorem RdFs.drs{K:PySem.W.Frag}{H:Hp}{c k:Int}{f:Bool}{ds:List Ad}{F:List Addr}(r:RdFs K H [.int c,.int k,.bl f] ds F):IX ds=true:=by
 cases r with
 | cons a t =>
 cases a with
 | int =>
 cases t with
 | cons a t =>
 cases a with
 | int =>
 cases t with
 | cons a t =>
 cases a with
 | bl =>
 cases t with
 | nil=>rfl
section
variable{K:PySem.W.Frag}{H:Hp}{e:Addr}{c k:Int}{f:Bool}
mutual
theorem RdF.nodr:∀{v:V} {d:Ad} {F:List Addr},Wu H e c k f->RdF K H v d F->Hm d=true->e∉F
 | _,_,_,_,.non,_=>λz=>(nomatch z)
 | _,_,_,_,.bl b,_=>λz=>(nomatch z)
 | _,_,_,_,.int i,_=>λz=>(nomatch z)
 | _,_,_,_,.str x,_=>λz=>(nomatch z)
 | _,_,_,hd,.lst ha hz r,hn=>by
  rw[Hm,Cz] at hn
  intro z
  rcases Ai.mp z with z | z
  ·rw[<- z,show H e=_ from hd] at ha
   cases ha
   rw[r.drs] at hn
   cases hn.1
  ·exact RdFs.nodr hd r hn.2 z
 | _,_,_,hd,.tup ha hz r,hn=>RdFs.nodr hd r (by rw[Hm] at hn; exact hn)
 | _,_,_,hd,.dic ..,hn=>by rw[Hm] at hn; cases hn
 | _,_,_,hd,.dik ..,hn=>by rw[Hm] at hn; cases hn
 | _,_,_,hd,.dnm ..,hn=>by rw[Hm] at hn; cases hn
theorem RdFs.nodr:∀{vs:List V} {ds:List Ad} {F:List Addr},Wu H e c k f->RdFs K H vs ds F->Qd ds=true->e∉F
 | _,_,_,_,.nil,_=>λz=>(nomatch z)
 | _,_,_,hd,.cons a t,hn=>by
  rw[Qd,Cz] at hn
  intro z
  rcases Ar.mp z with z | z
  ·exact RdF.nodr hd a hn.1 z
  ·exact RdFs.nodr hd t hn.2 z
end
end
def kD(i:Nat)(b:DF)(xs:List DV)(a:DS)(P:DV->DS->Prop):Prop:=match a.sl[i]?,datas xs with
 | some .drw,some ds=>noPk xs=true/\b ds a.n λd c=>Hm d=true/\P (.dat .sh d) ⟨a.sl,c⟩
 | _,_=>False
def jG(i:Nat)(d:DF)(e:DA):DE:=λb P=>match b.sl[i]? with
 | some .drw=>e b λc a=>kD i d c a P
 | _=>False
section
variable{X:Cx}{CX:eL}{k:Nat}{f:Addr}{l:Bj}{ps:List Str}{c:DF}{E:XK}{x:Str}{p pos:Pos}{b:Expr}{es:List Expr}{j:DA}
theorem Nl{i:Nat}(F:FnOk X.prog X.w X.K X.mg X.base CX k f l ps (oO X.K c))(hr:Room k X.A)(hg:Gl X x)(hm:X.mg x=some (.ref f))(hk:PySem.W.keepIn X.K (.ref f)=true)(hb:Binds X.K l ps [])(hx:Fu CX X E)(h0:PE X b (Kc i))(U:Wb X es j)(k2:(x == ("__debug__" : Str))=false:=by decide)(t:An (b::es) X.env=(false,eval b X.env)::An es X.env:=by rfl)(k5:(Cq pos (An es X.env)).any (·.1)=false:=by rfl):Fg X (.Call (.Name x p) (b::es) [] pos) (jG i c j):=by
 refine PE.imp (Os F hr hg hm hk hb .nil hx (Do h0 U t) k2 t k5) λσ H Q h=>?_
 obtain ⟨H0,Y,S,T,δ,P,rfl,hS,hA,hd,kk⟩:=h
 unfold jG at hd
 split at hd
 case h_2=>exact hd.elim
 rename_i Z
 have h2:∀w,(vs S)[i]? = some (some w)->LA X.K j (vs S) H λxs H2=>oO X.K c ((w::xs)++[]) H2 Q E:=λw hw=>by
  refine ⟨H0,Y,S,T,δ,_,rfl,hS,hA,hd,λxs J R us B H' e1 e2 ex eu O p=>?_⟩
  subst ex
  unfold kD at p
  split at p
  ·rename_i ds k3 q
   obtain ⟨np,p⟩:=p
   have h3:=nP np
   obtain ⟨m,G,s2⟩:=Hn e2 k3
   have M:m∈B:=Bf G
   have hv:m.v=some w:=by
    have:=Lv G
    rw[e1,hw] at this
    exact (Br this).symm
   obtain ⟨u,z,F⟩:=m
   have I:z=.drw:=s2
   subst I
   have hE:(⟨u,.drw,F⟩ : Ent)∈B++(R++T):=Ae _ M
   obtain ⟨C,c0,k0,f0,D,h9,h7,h8,h5⟩:=O.ok _ hE
   have ew:some w=some (V.ref C):=hv.symm.trans D
   cases ew
   have h6:F=[C]:=h9
   subst h6
   have pm:(B++(R++T)).Perm (⟨u,.drw,[C]⟩::(B.eraseIdx i++(R++T))):=((Ht G).append_right _)
   have hM:=O.perm pm
   have N:=Ax.mp hM.sep
   have k8:At X.K H0 Y J.n (B.eraseIdx i++T) H':=hM.sub (((Bm _).append (Bv R T)).cons _)
   rw[Bo]
   refine ⟨C,us,R,J.n,ds,_,(B.eraseIdx i++T).flatMap cells,rfl,eu,λe t=>O.ok e (Ag _ (Ae _ t)),λe t=>?_,⟨c0,k0,f0,h7,h8,h5⟩,q,p,λz=>?_,λa U=>?_,λv d F n' L hn r rd fr s h1=>?_⟩
   ·exact (N.1 e (Ag _ (Ae _ t))).1 (.inr rfl) C Ab
   ·obtain ⟨g,hg1,y⟩:=Gd.mp z
    refine (N.1 g ?_).1 (.inr rfl) C Ab (Dm _ _ y)
    rcases Ar.mp hg1 with h | h
    ·exact Ae _ h
    ·exact Ag _ (Ag _ h)
   ·obtain ⟨g,hg1,y⟩:=Gd.mp U
    refine ⟨λz=>?_,λe t=>?_⟩
    ·obtain ⟨o,q⟩:=(k8.ok g hg1).dom a (Dm _ _ y)
     rw[z] at q; cases q
    ·obtain ⟨_,k6,hp⟩ := Bs.mp N.2
     rcases Ar.mp hg1 with hg1 | hg1
     ·exact (hp g hg1 e (Ae _ t)).1 (.inl (h3 e t)) a y
     ·exact ((Bs.mp k6).2.2 e t g hg1).2 (.inl (h3 e t)) a y
   ·obtain ⟨c1,k1,f1,hD,_⟩:=id h1
    have nF:=RdF.nodr hD rd r.1
    have k7:=hM.drawn Ab rfl D s h1 hn
    have h4:At X.K H0 Y n' (⟨u,.drw,[C]⟩::(B.eraseIdx i++T)) L:=k7.sub (((Bm _).append (Bv R T)).cons₂ _)
    have k4:At X.K H0 Y n' (B++T) L:=h4.perm (((Ht G).append_right T).symm)
    refine kk _ ⟨J.sl,n'⟩ v F B L e1 e2 ((k4.pushS rd λg hg a U z=>?_).tomid) r.2
    have hg':g∈(⟨u,.drw,[C]⟩ : Ent)::(B.eraseIdx i++T):=((Ht G).append_right T).mem_iff.mp hg
    rcases Ai.mp hg' with rfl | hg'
    ·rw[Aj.mp (Dm _ _ U)] at z
     exact nF z
    ·exact fr a z (List.mem_flatMap.mpr ⟨g,hg',U⟩)
  ·exact p.elim
 obtain ⟨m,G,s2⟩:=Hn hS Z
 have M:m∈S:=Bf G
 obtain ⟨u,z,F⟩:=m
 have I:z=.drw:=s2
 subst I
 obtain ⟨C,c0,k0,f0,D,_⟩:=hA.ok _ (Ae _ M)
 have hw:(vs S)[i]? = some (some (.ref C)):=(Lv G).trans (congrArg some D)
 exact ⟨_,hw,h2 _ hw⟩
end
end DL
namespace NdS
open PySem
def Zq(t:Cc):Nat->SetTable.Probe->SetTable.Probe
 | 0,p=>p
 | k+1,p=>Zq t k (t.advance p)
end NdS
namespace NdS
open PySem PyProof.Rows
end NdS
namespace Nd
open PySem PySem.Spec PyProof.Rows L2 NdS
end Nd
namespace Nd
open PySem L2
end Nd
namespace DL
open PySem PySem.Spec PyProof.Rows L2 Nd
end DL
namespace NdW
open PySem PyProof.Rows NdS
end NdW
namespace Nd
open PySem PySem.Spec PyProof.Rows L2 NdS NdW
end Nd
namespace DL
open PySem PySem.Spec PyProof.Rows L2 Nd
def FP(t u:DB)(D:DEnds)(b:Bool)(a:DS):Prop:=match b with
 | true=>t D a
 | false=>u D a
def FU(x:DV)(a:DS)(P:DV->DS->Prop):Prop:=match x with
 | .dat _ d=>imm d=true/\P (.dat .ow d) a
 | _=>False
def NI(i:Nat)(s:Option DV)(a:DS)(P:DV->DS->Prop):Prop:=match s with
 | some (.dat .pk _)=>False
 | some (.dat _ d)=>P (.dat .sh d) ⟨a.sl.set i (.dat .sh d),a.n⟩
 | _=>False
def tupB(xs:List DV)(b:DS)(P:DV->DS->Prop):Prop:=match datas xs with
 | some a=>a.length<=1000/\P (.dat (pkMd .sh xs) (.tuple a)) b
 | none=>False
def lstB(xs:List DV)(b:DS)(P:DV->DS->Prop):Prop:=match datas xs with
 | some a=>a.length<=1000/\P (.dat (pkMd .tp xs) (.list a)) b
 | none=>False
def X2(x:DV)(a:DS)(P:Option Int->DS->Prop):Prop:=match x with
 | .dat _ (.int i)=>P (some i) a
 | _=>False
def MP(i:Bool)(x:DV)(l h:Option Int)(a:DS)(P:DV->DS->Prop):Prop:=match x with
 | .dat m (.list ds)=>Zc i m (Qe ds l h) λz=>P z a
 | .dat m (.tuple ds)=>iR i m (Qe ds l h) λz=>P z a
 | _=>False
def NV(xs:List DV)(b:DS)(P:DV->DS->Prop):Prop:=match xs with
 | [.dat _ (.list ds)]=>∃a:List Int,ds=a.map Bz/\(∀x∈a,0<=x/\x<60)/\P (.dat .ow (.list ((dR a).map Bz))) b
 | [.dat _ (.tuple ds)]=>∃a:List Int,ds=a.map Bz/\(∀x∈a,0<=x/\x<60)/\P (.dat .ow (.list ((dR a).map Bz))) b
 | _=>False
def bB(x:DV)(a:DS)(P:Bool->DS->Prop):Prop:=match x with
 | .dat _ (.bool b)=>P b a
 | _=>False
def JF(c:DT)(b:Bool)(a:DS)(P:Bool->DS->Prop):Prop:=match b with
 | true=>P true a
 | false=>c a P
def HJ(x:DV)(a:DS)(P:DV->DS->Prop):Prop:=match x with
 | .dat _ (.bool b)=>P (.dat .ow (.bool (!b))) a
 | _=>False
def GS(db:DE)(x:DV)(a:DS)(P:DV->DS->Prop):Prop:=match x with
 | .dat _ (.bool true)=>db a P
 | .dat _ (.bool false)=>P (.dat .ow (.bool false)) a
 | _=>False
def LD(c db:DE)(b:Bool)(a:DS)(P:DV->DS->Prop):Prop:=match b with
 | true=>c a P
 | false=>db a P
def GE(x:DV)(a:DS)(P:DV->DS->Prop):Prop:=match x with
 | .dat _ (.int i)=>P (.dat .ow (.int (-i))) a
 | _=>False
def lB(x:DV)(a:DS)(P:Md->List Ad->DS->Prop):Prop:=match x with
 | .dat m (.list ds)=>P (Kd m) ds a
 | _=>False
def KA(x:DV)(a:DS)(P:Md->List Ad->DS->Prop):Prop:=match x with
 | .dat m (.tuple ds)=>P (Kd m) ds a
 | _=>False
def Y3(xs:List DV)(a:DS)(P:Md->List Ad->DS->Prop):Prop:=match xs with
 | [.dat _ (.int j)]=>-1000000<=j/\j<=1000000/\P .sh ((Ci j.toNat).map λi:Nat=>.int i) a
 | _=>False
def AB(xs:List DV)(a:DS)(P:Md->List Ad->DS->Prop):Prop:=match xs with
 | [.dat m (.list ds)]=>P (Kd m) (ds.zipIdx.map λp=>.tuple [.int p.2,p.1]) a
 | _=>False
def IW(e:DG)(db:DB)(D:DEnds)(m:Md)(ds:List Ad)(c:DS):Prop:=m=.sh/\∃I:Nat->DS->Prop,I 0 c /\
 (∀i d a,ds[i]? = some d->I i a->e (.dat .sh d) a λb=>db { D with nx:=I (i+1),ct:=I (i+1),bk:=D.nx } b)/\∀a,I ds.length a->D.nx a
def o5(g:List Nat)(dc:DT)(f:DE)(P:DV->DS->Prop)(m:Md)(ds:List Ad)(b:DS):Prop:=∃I:Nat->List Ad->Nat->Prop,I 0 [] b.n /\
 (∀i d a n,ds[i]? = some d->I i a n->Sn dc f ⟨.dat m d::frD b.sl g,n⟩ (λe c=>I (i+1) (a++[e]) c) (λc=>I (i+1) a c)) /\
 ∀a n,I ds.length a n->P (.dat .ow (.list a)) ⟨b.sl,n⟩
def pO(g:List Nat)(dc:DT)(f:DE)(P:DV->DS->Prop)(m:Md)(ds:List Ad)(b:DS):Prop:=∃I:Nat->List Ad->Nat->Prop,I 0 [] b.n /\
 (∀i d a n,ds[i]? = some d->I i a n->Jd false dc f ⟨.dat m d::frD b.sl g,n⟩ (λe c=>I (i+1) (a++[e]) c) (λc=>I (i+1) a c)) /\
 ∀a n,I ds.length a n->P (.dat .tp (.list a)) ⟨b.sl,n⟩
def BX(a:Ad->Nat->Prop)(y:DV)(b:DS):Prop:=match y with
 | .dat _ e=>imm e=true/\a e b.n
 | _=>False
def o6(f:DE)(a:Ad->Nat->Prop)(e:Nat->Prop)(b:Bool)(d:DS):Prop:=match b with
 | true=>f d λy c=>BX a y c
 | false=>e d.n
def E1(a:Ad->Nat->Prop)(y:DV)(b:DS):Prop:=match y with
 | .dat m e=>m≠.pk/\a e b.n
 | _=>False
def G4(f:DE)(a:Ad->Nat->Prop)(e:Nat->Prop)(b:Bool)(d:DS):Prop:=match b with
 | true=>f d λy c=>E1 a y c
 | false=>e d.n
def callB(b:PF)(xs:List DV)(a:DS)(P:DV->DS->Prop):Prop:=match datas xs with
 | some c=>b c λd=>P (.dat .ow d) a
 | none=>False
def callBW(i:Nat)(b:DF)(xs:List DV)(a:DS)(P:DV->DS->Prop):Prop:=match a.sl[i]? with
 | some .drw=>match datas xs with
  | some e=>b e a.n λd c=>P (.dat .ow d) ⟨a.sl,c⟩
  | none=>False
 | _=>False
def Up(xs:List DV)(a:DS)(P:DV->DS->Prop):Prop:=match xs with
 | [.dat _ (.int _)]=>P .drw a
 | _=>False
def appB(i:Nat)(y:DV)(a:DS)(D:DEnds):Prop:=match a.sl[i]?,y with
 | some (.dat m (.list ds)),.dat _ e=>own1 m=true/\npk a.sl=true/\imm e=true/\ds.length<1000000/\D.nx ⟨a.sl.set i (.dat m (.list (ds++[e]))),a.n⟩
 | _,_=>False
def callXB(b:PX)(e:Addr->Prop)(xs:List DV)(a:DS)(P:DV->DS->Prop):Prop:=match datas xs with
 | some c=>b c (λd=>P (.dat .ow d) a) e
 | none=>False
def IR(ns:List Int)(y:DV)(a:DS)(P:DV->DS->Prop):Prop:=match y with
 | .dat _ (.list es)=>Eb es=true/\ns.length+es.length<=1000000/\P (.dat .ow (.list (ns.map Bz++es))) a
 | _=>False
theorem e_callWV{i:Nat}{c:DF}{d:DA}{a:DS}{P:DV->DS->Prop}:jG i c d a P=(match a.sl[i]? with | some .drw=>d a λxs b=>kD i c xs b P | _=>False):=rfl
theorem e_callWVB{i:Nat}{b:DF}{xs:List DV}{a:DS}{P:DV->DS->Prop}:kD i b xs a P=(match a.sl[i]?,datas xs with | some .drw,some ds=>noPk xs=true/\b ds a.n λd n'=>Hm d=true/\P (.dat .sh d) ⟨a.sl,n'⟩ | _,_=>False):=rfl
theorem e_seq{t u:DB}{D:DEnds}{b:DS}:U4 t u D b=(t { D with nx:=λa=>u D a } b):=rfl
theorem e_skip{D:DEnds}{a:DS}:Z2 D a=(D.nx a):=rfl
theorem e_ret{b:DE}{D:DEnds}{a:DS}:CF b D a=(b a D.rt):=rfl
theorem e_expr{c:DE}{D:DEnds}{b:DS}:oN c D b=(c b λ_ a=>D.nx a):=rfl
theorem e_if{dt:DT}{t u:DB}{D:DEnds}{a:DS}:JD dt t u D a=(dt a (FP t u D)):=rfl
theorem e_asg{c:DE}{d:DG}{D:DEnds}{b:DS}:mR c d D b=(c b λx a=>d x a D.nx):=rfl
theorem e_name{i:Nat}{m:Md}{d:Ad}{a:DS}{Q:DS->Prop}:Rj i (.dat .ow d) a Q=(Q ⟨a.sl.set i (.dat .sh d),a.n⟩):=rfl
theorem e_name2{i:Nat}{m:Md}{d:Ad}{a:DS}{Q:DS->Prop}:Rj i (.dat .sh d) a Q=(Q ⟨a.sl.set i (.dat .sh d),a.n⟩):=rfl
theorem e_name3{i:Nat}{m:Md}{d:Ad}{a:DS}{Q:DS->Prop}:Rj i (.dat .tp d) a Q=(Q ⟨a.sl.set i (.dat .sh d),a.n⟩):=rfl
theorem e_name4{i:Nat}{a:DS}{Q:DS->Prop}:Rj i .drw a Q=(Q ⟨a.sl.set i .drw,a.n⟩):=rfl
theorem e_own{i:Nat}{d:Ad}{a:DS}{Q:DS->Prop}:hZ i (.dat .ow d) a Q=(Q ⟨a.sl.set i (.dat .ow d),a.n⟩):=rfl
theorem e_nT{i:Nat}{x:DV}{a:DS}{Q:DS->Prop}:LC true i x a Q=(hZ i x a Q):=rfl
theorem e_gtup{n:Nat}{b:wF}{m:Md}{ds:List Ad}{a:DS}{Q:DS->Prop}:o4 n b (.dat m (.tuple ds)) a Q=(ds.length=n/\b (ds.map λd=>.dat (Mn m) d) a Q):=rfl
theorem e_gsn{a:DS}{Q:DS->Prop}:M0 [] a Q=(Q a):=rfl
theorem e_gsc{g:DG}{c:wF}{x:DV}{r:List DV}{b:DS}{Q:DS->Prop}:uV g c (x::r) b Q=(g x b λa=>c r a Q):=rfl
theorem e_op{rd:D2}{d db:DE}{c:DS}{P:DV->DS->Prop}:dY rd d db c P=(d c λx b=>db b λy a=>rd x y λz=>P z a):=rfl
theorem e_var{i:Nat}{a:DS}{P:DV->DS->Prop}:DU i a P=(match a.sl[i]? with | some (.dat m d)=>P (.dat (iS m) d) a | _=>False):=rfl
theorem e_c{d:Ad}{a:DS}{P:DV->DS->Prop}:dC d a P=(P (.dat .ow d) a):=rfl
theorem e_imm{c:DE}{b:DS}{P:DV->DS->Prop}:GA c b P=(c b λx a=>FU x a P):=rfl
theorem e_immB{m:Md}{d:Ad}{a:DS}{P:DV->DS->Prop}:FU (.dat m d) a P=(imm d=true/\P (.dat .ow d) a):=rfl
theorem e_take{i:Nat}{a:DS}{P:DV->DS->Prop}:C8 i a P=(match a.sl[i]? with | some (.dat m d)=>P (.dat m d) ⟨a.sl.set i .un,a.n⟩ | _=>False):=rfl
theorem e_I{C:Int->Int->Prop}{g:Int->Int->Ad}{i j:Int}{m a:Md}{P:DV->Prop}:FR C g (.dat m (.int i)) (.dat a (.int j)) P=(C i j/\P (.dat .ow (g i j))):=rfl
theorem e_I0{g:Int->Int->Ad}{i j:Int}{m a:Md}{P:DV->Prop}:qO g (.dat m (.int i)) (.dat a (.int j)) P=(P (.dat .ow (g i j))):=rfl
theorem e_eqF{d e:Ad}{m a:Md}{P:DV->Prop}:jN false (.dat m d) (.dat a e) P=(d.depth<=60/\e.depth<=60/\P (.dat .ow (.bool (Dt d e)))):=rfl
theorem e_eqT{d e:Ad}{m a:Md}{P:DV->Prop}:jN true (.dat m d) (.dat a e) P=(d.depth<=60/\e.depth<=60/\P (.dat .ow (.bool (!Dt d e)))):=rfl
theorem e_inFt_w1{a:List Int}{d:Ad}{es:List Ad}{m b:Md}{P:DV->Prop}:xY false (.dat m d) (.dat b (Dc a)) P=(Bl (a.map Bz)<=60/\d.depth<=60/\P (.dat .ow (.bool ((a.map Bz).any λe=>Dt e d)))):=rfl
theorem e_inTt{d:Ad}{es:List Ad}{m a:Md}{P:DV->Prop}:xY true (.dat m d) (.dat a (.tuple es)) P=(Bl es<=60/\d.depth<=60/\P (.dat .ow (.bool (!(es.any λe=>Dt e d))))):=rfl
theorem e_ixl{ds:List Ad}{i:Int}{m a:Md}{P:DV->Prop}:w8 (.dat m (.list ds)) (.dat a (.int i)) P=(∃d,Yw ds i=some d/\P (.dat (Mn m) d)):=rfl
theorem e_ixt{ds:List Ad}{i:Int}{m a:Md}{P:DV->Prop}:w8 (.dat m (.tuple ds)) (.dat a (.int i)) P=(∃d,Yw ds i=some d/\P (.dat (Mn m) d)):=rfl
theorem e_cat{ds es:List Ad}{m a:Md}{P:DV->Prop}:tO (.dat m (.list ds)) (.dat a (.list es)) P=(Eb ds=true/\Eb es=true/\ds.length+es.length<=1000000/\P (.dat .ow (.list (ds++es)))):=rfl
theorem e_rep{ds:List Ad}{k:Int}{m a:Md}{P:DV->Prop}:tP (.dat m (.list ds)) (.dat a (.int k)) P=(Eb ds=true /\ -1000000<=k/\k<=1000000/\ds.length * k.toNat<=1000000/\P (.dat .ow (.list (Cb k.toNat ds).flatten))):=rfl
theorem e_nlT{m:Md}{ds:List Ad}{P:DV->Prop}:Zc true m ds P=(Eb ds=true/\P (.dat .ow (.list ds))):=rfl
theorem e_ntT{m:Md}{ds:List Ad}{P:DV->Prop}:iR true m ds P=(Eb ds=true/\P (.dat .ow (.tuple ds))):=rfl
theorem e_pkOfpk  : iS .pk=(Md.pk):=rfl
theorem e_pkOfsh  : iS .sh=(Md.sh):=rfl
theorem e_pkOfow  : iS .ow=(Md.pk):=rfl
theorem e_mdInpk  : Mn .pk=(Md.pk):=rfl
theorem e_mdInsh  : Mn .sh=(Md.sh):=rfl
theorem e_mdIntp  : Mn .tp=(Md.sh):=rfl
theorem e_mdInow  : Mn .ow=(Md.ow):=rfl
theorem e_mdItow  : Kd .ow=(Md.sh):=rfl
theorem e_nil{a:DS}{P:List DV->DS->Prop}:pW a P=(P [] a):=rfl
theorem e_cons{e:DE}{c:DA}{d:DS}{P:List DV->DS->Prop}:sW e c d P=(e d λx b=>c b λxs a=>P (x::xs) a):=rfl
theorem e_tup{c:DA}{b:DS}{P:DV->DS->Prop}:GD c b P=(c b λxs a=>tupB xs a P):=rfl
theorem e_lst{c:DA}{b:DS}{P:DV->DS->Prop}:IV c b P=(c b λxs a=>lstB xs a P):=rfl
theorem e_noPart{a:DS}{P:Option Int->DS->Prop}:vA a P=(P none a):=rfl
theorem e_part{c:DE}{b:DS}{P:Option Int->DS->Prop}:Z9 c b P=(c b λx a=>X2 x a P):=rfl
theorem e_partB{m:Md}{i:Int}{a:DS}{P:Option Int->DS->Prop}:X2 (.dat m (.int i)) a P=(P (some i) a):=rfl
theorem e_sl{i:Bool}{e:DE}{dl f:DO}{d:DS}{P:DV->DS->Prop}:MQ i e dl f d P=(e d λx c=>dl c λl b=>f b λh a=>MP i x l h a P):=rfl
theorem e_slBl{i:Bool}{m:Md}{ds:List Ad}{l h:Option Int}{a:DS}{P:DV->DS->Prop}:MP i (.dat m (.list ds)) l h a P=(Zc i m (Qe ds l h) λz=>P z a):=rfl
theorem e_cb{rd:DC}{c:DA}{b:DS}{P:DV->DS->Prop}:JP rd c b P=(c b λxs a=>rd xs λz=>P z a):=rfl
theorem e_listl{i:Bool}{ds:List Ad}{m a:Md}{P:DV->Prop}:rP i [.dat m (.list ds)] P=(Zc i m ds P):=rfl
theorem e_tuplel{i:Bool}{ds:List Ad}{m a:Md}{P:DV->Prop}:jT i [.dat m (.list ds)] P=(iR i m ds P):=rfl
theorem e_all{ds:List Ad}{m a:Md}{P:DV->Prop}:r6 [.dat m (.list ds)] P=(∃bs:List Bool,ds=bs.map Ub/\P (.dat .ow (.bool (bs.all id)))):=rfl
theorem e_isi{d:Ad}{n:String}{m a:Md}{P:DV->Prop}:n6 [.dat m d,.val (.ty n)] P=((n = "int" \/ n = "bool" \/ n = "str" \/ n = "list" \/ n = "tuple")/\P (.dat .ow (.bool (Ux d n)))):=rfl
theorem e_v{v:V}{a:DS}{P:DV->DS->Prop}:dV v a P=(P (.val v) a):=rfl
theorem e_b{c:DE}{b:DS}{P:Bool->DS->Prop}:dB c b P=(c b λx a=>bB x a P):=rfl
theorem e_bB{m:Md}{b:Bool}{a:DS}{P:Bool->DS->Prop}:bB (.dat m (.bool b)) a P=(P b a):=rfl
theorem e_notT{dt:DT}{c:DS}{P:Bool->DS->Prop}:AD dt c P=(dt c λb a=>P (!b) a):=rfl
theorem e_orT{dt d:DT}{c:DS}{P:Bool->DS->Prop}:GX dt d c P=(dt c λb a=>JF d b a P):=rfl
theorem e_orTt{b:DT}{a:DS}{P:Bool->DS->Prop}:JF b true a P=(P true a):=rfl
theorem e_orTf{b:DT}{a:DS}{P:Bool->DS->Prop}:JF b false a P=(b a P):=rfl
theorem e_not{c:DE}{b:DS}{P:DV->DS->Prop}:FZ c b P=(c b λx a=>HJ x a P):=rfl
theorem e_notB{m:Md}{b:Bool}{a:DS}{P:DV->DS->Prop}:HJ (.dat m (.bool b)) a P=(P (.dat .ow (.bool (!b))) a):=rfl
theorem e_and{c db:DE}{b:DS}{P:DV->DS->Prop}:HQ c db b P=(c b λx a=>GS db x a P):=rfl
theorem e_ifE{dt:DT}{d db:DE}{c:DS}{P:DV->DS->Prop}:HK dt d db c P=(dt c λb a=>LD d db b a P):=rfl
theorem e_ifEt{b db:DE}{a:DS}{P:DV->DS->Prop}:LD b db true a P=(b a P):=rfl
theorem e_ifEf{b db:DE}{a:DS}{P:DV->DS->Prop}:LD b db false a P=(db a P):=rfl
theorem e_neg{c:DE}{b:DS}{P:DV->DS->Prop}:GI c b P=(c b λx a=>GE x a P):=rfl
theorem e_negB{m:Md}{i:Int}{a:DS}{P:DV->DS->Prop}:GE (.dat m (.int i)) a P=(P (.dat .ow (.int (-i))) a):=rfl
theorem e_dL{c:DE}{b:DS}{P:Md->List Ad->DS->Prop}:dL c b P=(c b λx a=>lB x a P):=rfl
theorem e_dTp{c:DE}{b:DS}{P:Md->List Ad->DS->Prop}:MF c b P=(c b λx a=>KA x a P):=rfl
theorem e_lB{m:Md}{ds:List Ad}{a:DS}{P:Md->List Ad->DS->Prop}:lB (.dat m (.list ds)) a P=(P (Kd m) ds a):=rfl
theorem e_tpB{m:Md}{ds:List Ad}{a:DS}{P:Md->List Ad->DS->Prop}:KA (.dat m (.tuple ds)) a P=(P (Kd m) ds a):=rfl
theorem e_tpB_w1{a:List Int}{m:Md}{ds:List Ad}{b:DS}{P:Md->List Ad->DS->Prop}:KA (.dat m (Dc a)) b P=(P (Kd m) (a.map Bz) b):=rfl
theorem e_range1{c:DA}{b:DS}{P:Md->List Ad->DS->Prop}:nX c b P=(c b λxs a=>Y3 xs a P):=rfl
theorem e_rng1B{m:Md}{j:Int}{a:DS}{P:Md->List Ad->DS->Prop}:Y3 [.dat m (.int j)] a P=(-1000000<=j/\j<=1000000/\P .sh ((Ci j.toNat).map λi:Nat=>.int i) a):=rfl
theorem e_enum{c:DA}{b:DS}{P:Md->List Ad->DS->Prop}:L4 c b P=(c b λxs a=>AB xs a P):=rfl
theorem e_enumB{m:Md}{ds:List Ad}{a:DS}{P:Md->List Ad->DS->Prop}:AB [.dat m (.list ds)] a P=(P (Kd m) (ds.zipIdx.map λp=>.tuple [.int p.2,p.1]) a):=rfl
theorem e_for{b:DI}{c:DG}{db:DB}{D:DEnds}{a:DS}:T8 b c db D a=(b a (IW c db D)):=rfl
theorem e_comp{c:DI}{d:List Nat}{dc:DT}{b:DE}{a:DS}{P:DV->DS->Prop}:B1 c d dc b a P=(c a (o5 d dc b P)):=rfl
theorem e_compL{c:DI}{d:List Nat}{dc:DT}{b:DE}{a:DS}{P:DV->DS->Prop}:K1 c d dc b a P=(c a (pO d dc b P)):=rfl
theorem e_stepL{dc:DT}{f:DE}{d:DS}{a:Ad->Nat->Prop}{e:Nat->Prop}:Jd false dc f d a e=(dc d λb c=>G4 f a e b c):=rfl
theorem e_stepLT{d:DE}{c:DS}{a:Ad->Nat->Prop}{e:Nat->Prop}:G4 d a e true c=(d c λy b=>E1 a y b):=rfl
theorem e_glst{n:Nat}{b:wF}{m:Md}{ds:List Ad}{a:DS}{Q:DS->Prop}:u6 n b (.dat m (.list ds)) a Q=(ds.length=n/\b (ds.map λd=>.dat (Mn m) d) a Q):=rfl
theorem e_noTest{a:DS}{P:Bool->DS->Prop}:On a P=(P true a):=rfl
theorem e_step{dc:DT}{f:DE}{d:DS}{a:Ad->Nat->Prop}{e:Nat->Prop}:Sn dc f d a e=(dc d λb c=>o6 f a e b c):=rfl
theorem e_stepT{d:DE}{c:DS}{a:Ad->Nat->Prop}{e:Nat->Prop}:o6 d a e true c=(d c λy b=>BX a y b):=rfl
theorem e_stepF{d:DE}{b:DS}{a:Ad->Nat->Prop}{c:Nat->Prop}:o6 d a c false b=(c b.n):=rfl
theorem e_yesB{m:Md}{e:Ad}{b:DS}{a:Ad->Nat->Prop}:BX a (.dat m e) b=(imm e=true/\a e b.n):=rfl
theorem e_call{c:PF}{d:DA}{b:DS}{P:DV->DS->Prop}:X8 c d b P=(d b λxs a=>callB c xs a P):=rfl
theorem e_callW{i:Nat}{c:DF}{d:DA}{a:DS}{P:DV->DS->Prop}:rV i c d a P=(match a.sl[i]? with | some .drw=>d a λxs b=>callBW i c xs b P | _=>False):=rfl
theorem e_draws{c:DA}{b:DS}{P:DV->DS->Prop}:i5 c b P=(c b λxs a=>Up xs a P):=rfl
theorem e_drawsB{m:Md}{i:Int}{a:DS}{P:DV->DS->Prop}:Up [.dat m (.int i)] a P=(P .drw a):=rfl
theorem e_append{i:Nat}{c:DE}{D:DEnds}{a:DS}:jL i c D a=(match a.sl[i]? with | some (.dat _ (.list _))=>c a λy b=>appB i y b D | _=>False):=rfl
theorem e_scrSl{i:Nat}{dl d:DO}{a:DS}{P:DV->DS->Prop}:sH i dl d a P=(match a.sl[i]? with | some (.scr ns)=>dl a λl b=>d b λh c=>P (.dat .ow (.list ((Qe ns l h).map Bz))) c | _=>False):=rfl
theorem e_scrCat{i:Nat}{c:DE}{a:DS}{P:DV->DS->Prop}:kT i c a P=(match a.sl[i]? with | some (.scr ns)=>c a λy b=>IR ns y b P | _=>False):=rfl
theorem e_scrB{ns:List Int}{m:Md}{es:List Ad}{a:DS}{P:DV->DS->Prop}:IR ns (.dat m (.list es)) a P=(Eb es=true/\ns.length+es.length<=1000000/\P (.dat .ow (.list (ns.map Bz++es))) a):=rfl
theorem e_compN{b:Bool}{f a:DI}{g:List Nat}{d:DE}{e:DS}{P:DV->DS->Prop}:qP b f g a d e P=(f e λm ds c=>GN b g a d P m ds c):=rfl
theorem e_callX{e:PX}{b:Addr->Prop}{c:DA}{d:DS}{P:DV->DS->Prop}:zY e b c d P=(c d λxs a=>callXB e b xs a P):=rfl
theorem e_raise{a:Addr->Prop}{C:Addr}{D:DEnds}{b:DS}:kG a C D b=(a C):=rfl
section
variable{t u:DB}{D:DEnds}{c b:DS}
theorem jO{k:Type}{m:DG}{db:DB}{ds:List Ad}{l:List k}{g:k->Ad}(e:ds=l.map g)(I:Nat->DS->Prop)(o:I 0 b)(p:∀i a c,l[i]? = some a->I i c->m (.dat .sh (g a)) c λj=>db { D with nx:=I (i+1),ct:=I (i+1),bk:=D.nx } j)(n:∀c,I l.length c->D.nx c):IW m db D .sh ds b:=by
 subst e
 refine ⟨rfl,I,o,λi d c f r=>?_,λc h=>n c (by rw[Af] at h; exact h)⟩
 rw[Bu] at f
 cases q:l[i]? with
 | none=>rw[q] at f; cases f
 | some a=>rw[q] at f; cases f; exact p i a c q r
end
section
variable{j:List Nat}{dc:DT}{k:DE}{P:DV->DS->Prop}{m:Md}{ds:List Ad}{b:DS}{c:Type}
theorem lU{l:List c}{g:c->Ad}(e:ds=l.map g)(p:c->Bool)(f:c->Ad)(h:∀a∈l,∀(s:Ad->Nat->Prop) (w:Nat->Prop),(p a=true->s (f a) b.n)->(p a=false->w b.n)->Sn dc k ⟨.dat m (g a)::frD b.sl j,b.n⟩ s w)(q:P (.dat .ow (.list ((l.filter p).map f))) b):o5 j dc k P m ds b:=by
 subst e
 refine ⟨λi o n=>n=b.n/\o=((l.take i).filter p).map f,⟨rfl,by simp⟩,λi d o n r ⟨u,t⟩=>?_,λo n ⟨u,t⟩=>?_⟩
 ·subst u t
  rw[Bu] at r
  cases q:l[i]? with
  | none=>rw[q] at r; cases r
  | some a =>
   rw[q] at r
   cases r
   refine h a (Bf q) _ _ (λv=>⟨rfl,?_⟩) (λv=>⟨rfl,?_⟩)
   ·rw[Ly q,Pj,Ay]; simp [v]
   ·rw[Ly q,Pj,Ay]; simp [v]
 ·subst u t
  rw[Af,Fo]
  exact q
theorem e8{l:List c}{g:c->Ad}(e:ds=l.map g)(f:c->Ad)(h:∀a∈l,∀(d:Ad->Nat->Prop) (i:Nat->Prop),d (f a) b.n->Sn dc k ⟨.dat m (g a)::frD b.sl j,b.n⟩ d i)(q:P (.dat .ow (.list (l.map f))) b):o5 j dc k P m ds b:=by
 refine lU e (λ_=>true) f (λa p d i o _=>h a p d i (o rfl)) ?_
 rw[yT.mpr λ_ _=>rfl]
 exact q
theorem DM{l:List c}{g:c->Ad}(e:ds=l.map g)(p:c->Bool)(f:c->Ad)(h:∀a∈l,∀(s:Ad->Nat->Prop) (w:Nat->Prop),(p a=true->s (f a) b.n)->(p a=false->w b.n)->Jd false dc k ⟨.dat m (g a)::frD b.sl j,b.n⟩ s w)(q:P (.dat .tp (.list ((l.filter p).map f))) b):pO j dc k P m ds b:=by
 subst e
 refine ⟨λi o n=>n=b.n/\o=((l.take i).filter p).map f,⟨rfl,by simp⟩,λi d o n r ⟨u,t⟩=>?_,λo n ⟨u,t⟩=>?_⟩
 ·subst u t
  rw[Bu] at r
  cases q:l[i]? with
  | none=>rw[q] at r; cases r
  | some a =>
   rw[q] at r
   cases r
   refine h a (Bf q) _ _ (λv=>⟨rfl,?_⟩) (λv=>⟨rfl,?_⟩)
   ·rw[Ly q,Pj,Ay]; simp [v]
   ·rw[Ly q,Pj,Ay]; simp [v]
 ·subst u t
  rw[Af,Fo]
  exact q
theorem E5{l:List c}{g:c->Ad}(e:ds=l.map g)(f:c->Ad)(h:∀a∈l,∀(d:Ad->Nat->Prop) (i:Nat->Prop),d (f a) b.n->Jd false dc k ⟨.dat m (g a)::frD b.sl j,b.n⟩ d i)(q:P (.dat .tp (.list (l.map f))) b):pO j dc k P m ds b:=by
 refine DM e (λ_=>true) f (λa p d i o _=>h a p d i (o rfl)) ?_
 rw[yT.mpr λ_ _=>rfl]
 exact q
end
theorem Rp{t u:DB}{D:DEnds}{b:Bool}{a:DS}(c:b=true->t D a)(d:b=false->u D a):FP t u D b a:=by
 cases b with
 | true=>exact c rfl
 | false=>exact d rfl
theorem r9{c:DT}{b:Bool}{a:DS}{P:Bool->DS->Prop}(d:b=true->P true a)(e:b=false->c a P):JF c b a P:=by
 cases b with
 | true=>exact d rfl
 | false=>exact e rfl
theorem EY{db:DE}{m:Md}{b:Bool}{a:DS}{P:DV->DS->Prop}(c:b=true->db a P)(d:b=false->P (.dat .ow (.bool false)) a):GS db (.dat m (.bool b)) a P:=by
 cases b with
 | true=>exact c rfl
 | false=>exact d rfl
class Im (d:Ad):Prop where
 h:imm d=true
class ImA (ds:List Ad):Prop where
 h:Eb ds=true
instance {i:Int}:Im (.int i):=⟨by simp [imm]⟩
instance {i:Bool}:Im (.bool i):=⟨by simp [imm]⟩
instance {i:Str}:Im (.str i):=⟨by simp [imm]⟩
instance:Im .none:=⟨by simp [imm]⟩
instance {ds:List Ad} [h:ImA ds]:Im (.tuple ds):=⟨by rw[imm]; exact h.h⟩
instance {ns:List Int}:Im (Dc ns):=⟨mH ns⟩
instance:ImA []:=⟨by simp [Eb]⟩
instance {d:Ad} {ds:List Ad} [h:Im d] [t:ImA ds]:ImA (d::ds):=⟨by rw[Eb,h.h,t.h]; rfl⟩
instance {α:Type} {f:α->Ad} {l:List α} [h:∀a,Im (f a)]:ImA (l.map f):=⟨Rl (λa=>(h a).h) l⟩
instance {a b:List Ad} [h:ImA a] [k:ImA b]:ImA (a++b):=⟨by rw[Va,h.h,k.h]; rfl⟩
class Dp (d:Ad) (k:outParam Nat):Prop where
 h:d.depth<=k
class DpA (ds:List Ad) (k:outParam Nat):Prop where
 h:Bl ds<=k
theorem dp{d:Ad}{k:Nat}[h:Dp d k](a:k<=60:=by decide):d.depth<=60:=Bw h.h a
instance {i:Int}:Dp (.int i) 0:=⟨by simp [Cu]⟩
instance {i:Bool}:Dp (.bool i) 0:=⟨by simp [Cu]⟩
instance {i:Str}:Dp (.str i) 0:=⟨by simp [Cu]⟩
instance:Dp .none 0:=⟨by simp [Cu]⟩
instance {ds:List Ad} {k:Nat} [h:DpA ds k]:Dp (.tuple ds) (k+1):=⟨by have:=h.h; simp only[Cu]; omega⟩
instance {ds:List Ad} {k:Nat} [h:DpA ds k]:Dp (.list ds) (k+1):=⟨by have:=h.h; simp only[Cu]; omega⟩
instance {ns:List Int}:Dp (Dc ns) 1:=⟨dN ns⟩
instance:DpA [] 0:=⟨by simp [Bl]⟩
instance {d:Ad} {ds:List Ad} {k j:Nat} [h:Dp d k] [t:DpA ds j]:DpA (d::ds) (k+j):=⟨by have:=h.h; have:=t.h; simp only[Bl]; omega⟩
instance {α:Type} {f:α->Ad} {l:List α} {k:Nat} [h:∀a,Dp (f a) k]:DpA (l.map f) k:=⟨Sw λx hx=>by
 obtain ⟨a,_,rfl⟩:=Fb.mp hx
 exact (h a).h⟩
theorem kM{a b:List Ad}:Bl (a++b)<=Bl a+Bl b:=by
 induction a with
 | nil=>simp [Bl]
 | cons x a c=>simp only[Cd,Bl]; omega
instance {a b:List Ad} {k j:Nat} [h:DpA a k] [t:DpA b j]:DpA (a++b) (k+j):=⟨by have:=h.h; have:=t.h; have:=kM (a:=a) (b:=b); omega⟩
theorem eqD_str(i j:Str):Dt (.str i) (.str j)=(i == j):=by simp [Dt]
theorem o8(a b:List Ad):Dt (.list a) (.list b)=Jb a b:=by simp [Dt]
theorem V0(a b:List Ad):Dt (.tuple a) (.tuple b)=Jb a b:=by simp [Dt]
theorem vM(x y:Ad)(a b:List Ad):Jb (x::a) (y::b)=(Dt x y && Jb a b):=by simp [Jb]
theorem J0:Jb [] []=true:=by simp [Jb]
theorem nJ{c:Type}[DecidableEq c]{f:c->Ad}(h:∀a b,Dt (f a) (f b)=decide (a=b)):∀l m:List c,Jb (l.map f) (m.map f)=decide (l=m)
 | [],[]=>by simp [Jb]
 | [],_::_=>by simp [Jb]
 | _::_,[]=>by simp [Jb]
 | a::l,b::m=>by simp [Jb,h,nJ h l m]
theorem eqD_intd(i j:Int):Dt (.int i) (.int j)=decide (i=j):=by simp [Dt]; rfl
theorem lF(a b:List Int):Dt (Dc a) (Dc b)=decide (a=b):=by
 unfold Dc
 rw[V0,nJ eqD_intd]
def EG(ws:List (List Int)):Ad:=.list (ws.map Dc)
instance {ws:List (List Int)}:Dp (EG ws) 2:=⟨(inferInstance:Dp (.list (ws.map Dc)) 2).h⟩
def IC(ns:List Int):Ad:=.list (ns.map Bz)
instance {ns:List Int}:Dp (IC ns) 1:=⟨(inferInstance:Dp (.list (ns.map Bz)) 1).h⟩
theorem any_int(ns:List Int)(i:Int):((ns.map Bz).any λe=>Dt e (.int i))=decide (i∈ns):=by
 rw[aG]
 induction ns with
 | nil=>rfl
 | cons n ns a =>
  rw[Ng,a]
  simp only[Function.comp,eqD_intd,Ai]
  by_cases h:n=i
  ·subst h; simp
  ·have : ¬ i=n:=λz=>h z.symm
   simp [h,this]
theorem Mo{c:Type}{l:List c}{i:Int}(e:0<=i)(d:i<l.length):∃a,l[i.toNat]? = some a/\Yw l i=some a/\a∈l:=by
 have b:i.toNat<l.length:=by omega
 refine ⟨l[i.toNat],by simp [b],?_,eG b⟩
 have q:Yw l ((i.toNat:Nat):Int)=some l[i.toNat]:=V1 (by simp [b])
 rwa [show ((i.toNat:Nat):Int)=i by omega] at q
theorem im_e{d:Ad}[h:Im d]:(imm d=true)=True:=eq_true h.h
theorem ima_e{ds:List Ad}[h:ImA ds]:(Eb ds=true)=True:=eq_true h.h
theorem dp_e{d:Ad}{k:Nat}[h:Dp d k](a:k<=60):(d.depth<=60)=True:=eq_true (Bw h.h a)
theorem dpa_e{ds:List Ad}{k:Nat}[h:DpA ds k](a:k<=60):(Bl ds<=60)=True:=eq_true (Bw h.h a)
theorem ow_e{d:Ad}{R:Ad->Prop}:(∃e,DV.dat .ow d=.dat .ow e/\R e)=R d:=by
 apply propext
 constructor
 ·(intro a; obtain ⟨e,h,r⟩ := a); cases h; exact r
 ·intro r; exact ⟨d,rfl,r⟩
theorem tt_e{m:Md}{b:Bool}:(∃a,DV.dat m (.bool b)=.dat a (.bool true))=(b=true):=by
 apply propext
 constructor
 ·rintro ⟨e,h⟩; cases h; rfl
 ·intro r; subst r; exact ⟨m,rfl⟩
theorem cdiv_e{i j:Int}:ES i j=(0<j/\j<1073741824):=rfl
theorem cpow_e{i j:Int}:CA i j=(0<=j/\j<=1000000/\i.natAbs<2 ^ 64):=rfl
theorem FW{t u:DB}{D:DEnds}{b:Bool}{c:DS}(J:DS->Prop)(h:∀N:DS->Prop,(∀a,J a->N a)->FP t u { D with nx:=N } b c)(k:∀a,J a->D.nx a):FP t u D b c:=h D.nx k
theorem II{b a:List DV}{n n':Nat}(h:b=a)(h':n=n'):(⟨b,n⟩ : DS)=⟨a,n'⟩:=by subst h h'; rfl
theorem yW{j i a:Nat}(h:(Ci j)[i]? = some a):a=i/\i<j:=by
 obtain ⟨b,c⟩:=Aw.mp h
 rw[Hw] at b
 rw[List.getElem_range] at c
 exact ⟨c.symm,b⟩
def NP(v:DV):Prop:=∀l,npk (v::l)=npk l
theorem Qg:NP .un:=λ_=>rfl
theorem Oq{d:Ad}:NP (.dat .sh d):=λ_=>rfl
theorem fold_w(w:List Int):Jc (List.map Bz w)=Dc w:=rfl
theorem isi_tt(ds:List Ad):Ux (.tuple ds) "tuple" = true:=by simp [Ux,M9]
theorem GL{ns:List Int}(k:Nat):(Qe ns none (some (k:Int))).length<=k:=by
 rw[Xu,My]
 exact Nat.min_le_left _ _
theorem ifB_lt{t u:DB}{D:DEnds}{a:DS}:FP t u D true a=t D a:=rfl
theorem ifB_lf{t u:DB}{D:DEnds}{a:DS}:FP t u D false a=u D a:=rfl
theorem isi_ss(i:Str):Ux (.str i) "str" = true:=by simp [Ux,M9]
theorem tJ{c:Type}{l:List c}{i:Nat}{a:c}(h:l[i]? = some a):Yw l (i:Int)=some a:=by
 obtain ⟨b,e,d,_⟩:=Mo (l:=l) (i:=(i:Int)) (by omega) (by have:=(Aw.mp h).1; omega)
 rw[d,<- e,<- h]; rfl
theorem yesL_ow{e:Ad}{b:DS}{a:Ad->Nat->Prop}:E1 a (.dat .ow e) b=a e b.n:=propext ⟨λh=>h.2,λh=>⟨by decide,h⟩⟩
theorem qZ{m a:Md}{ds es:List Ad}{P:DV->Prop}(b:m≠.pk)(c:a≠.pk):Vi (.dat m (.list ds)) (.dat a (.list es)) P=(ds.length+es.length<=1000000/\P (.dat .tp (.list (ds++es)))):=propext ⟨λh=>h.2.2,λh=>⟨b,c,h⟩⟩
theorem catL_show{ds es:List Ad}{P:DV->Prop}:Vi (.dat .sh (.list ds)) (.dat .ow (.list es)) P=(ds.length+es.length<=1000000/\P (.dat .tp (.list (ds++es)))):=qZ (by decide) (by decide)
theorem catL_shtp{ds es:List Ad}{P:DV->Prop}:Vi (.dat .sh (.list ds)) (.dat .tp (.list es)) P=(ds.length+es.length<=1000000/\P (.dat .tp (.list (ds++es)))):=qZ (by decide) (by decide)
theorem catL_tpsh{ds es:List Ad}{P:DV->Prop}:Vi (.dat .tp (.list ds)) (.dat .sh (.list es)) P=(ds.length+es.length<=1000000/\P (.dat .tp (.list (ds++es)))):=qZ (by decide) (by decide)
theorem atI_0{a:Type}(x:a)(l:List a):Yw (x::l) 0=some x:=tJ (i:=0) rfl
theorem atI_1{a:Type}(x y:a)(l:List a):Yw (x::y::l) 1=some y:=tJ (i:=1) rfl
theorem atI_2{a:Type}(x y z:a)(l:List a):Yw (x::y::z::l) 2=some z:=tJ (i:=2) rfl
theorem HS{a:Type}(x y z t:a)(l:List a):Yw (x::y::z::t::l) 3=some t:=tJ (i:=3) rfl
theorem some_e{b:Type}{a:b}{R:b->Prop}:(∃d,some a=some d/\R d)=R a:=propext ⟨λ⟨_,e,h⟩=>by cases e; exact h,λh=>⟨a,rfl,h⟩⟩
theorem dec_self{b:Type}(a:b)[h:Decidable (a=a)]:decide (a=a)=true:=by simp
theorem eqD_i1(a b:Int):Dt (.list [.int a]) (.list [.int b])=decide (a=b):=by rw[o8,vM,J0,eqD_intd,Bool.and_true]
theorem retA_sh{d:Ad}{R:Ad->Prop}:(∃m d',DV.dat .sh d=.dat m d'/\m≠.pk/\R d')=R d:=propext ⟨λ⟨m,d',e,_,h⟩=>by cases e; exact h,λh=>⟨_,_,rfl,by decide,h⟩⟩
end DL
namespace K72
open PySem L2 Nd DL
def top(i:Nat):Stmt:=PySem.Challenge.pw_needledeck_k72_what_a_box_refuses.main.body.getD i (.Pass ⟨0,0,0,0⟩)
abbrev Uu:Stmt:=top 14
abbrev Xj:Stmt:=top 15
abbrev Pc:Stmt:=top 16
abbrev Qv:Stmt:=top 17
abbrev cO:Stmt:=top 18
abbrev Qt:Stmt:=top 19
abbrev Qx:Stmt:=top 24
abbrev Ri:Stmt:=top 25
abbrev Sx:Stmt:=top 26
abbrev Mu:Stmt:=top 27
abbrev qT:Stmt:=top 28
abbrev Uz:Stmt:=top 29
abbrev iP:Stmt:=top 32
abbrev sS:Stmt:=top 33
abbrev Sr:Stmt:=top 34
abbrev Tb:Stmt:=top 35
abbrev Nx:Stmt:=top 36
abbrev Sq:Stmt:=top 37
abbrev Sk:Stmt:=top 38
abbrev Pf:Stmt:=top 39
abbrev Ll:Stmt:=top 40
abbrev Ma:Stmt:=top 41
abbrev Rg:Stmt:=top 42
abbrev jB:Stmt:=top 43
section
variable{P:Bk}{w:World}{K:PySem.W.Frag}{mg:Str->Option Value}{base:Heap}
theorem ND:FnScope ["_law_cell"] ["_law_cell"] (Bi iP):=⟨rfl,rfl,rfl,by decide +kernel,rfl,by decide +kernel,by decide +kernel⟩
theorem zK{f:Addr}{b:Bj}(F:Fun K "_law_draws" "_law_draws" iP f b):FnOk P w K mg base Hq 1 f b ["_law_cell"] vG:=by
 refine F.ok ND (λvs H Q E h=>?_) (λe A a s H vs Q E g h=>?_)
 ·obtain ⟨c,rfl,_⟩:=h
  rfl
 obtain ⟨c,rfl,q⟩:=h
 refine ⟨_,Ni (Xt (Yi (Do (pv 0) (Do Gi (Do (sY Z3 (pv 0) (Ke jA Gi Gi) (Qr _)) Ir))))),?_⟩
 refine ⟨_,rfl,_,rfl,10,18,rfl,rfl,⟨by decide,by decide,by decide⟩,_,_,rfl,rfl,(by show 3<=Ba; decide),λp d=>?_⟩
 exact q p _ _ d Cg (Et d _)
theorem NB:FnScope ["_law_draws_here", "_law_k", "_law_number"] ["_law_draws_here"] (Bi sS):=⟨rfl,rfl,rfl,by decide +kernel,rfl,by decide +kernel,by decide +kernel⟩
theorem S7{f:Addr}{j:Bj}(F:Fun K "_law_next" "_law_next" sS f j):FnOk P w K mg base Hq 1 f j ["_law_draws_here"] M1:=by
 refine F.ok NB (λvs H Q E h=>?_) (λn A g s H vs Q E p h=>?_)
 ·obtain ⟨d,c,k,b,rfl,_⟩:=h
  rfl
 obtain ⟨d,c,k,b,rfl,l,r,o,q⟩:=h
 refine ⟨_,Ja (rM (Ke bK (cS Ti (pv 0) Gi (λ_ _=>rfl)) Gi) (u4 (pv 0) Gi mK))
  (Ja (Sd (i:=1) NB.nd rfl (By rfl) (cS Ti (pv 0) Gi (λ_ _=>rfl)))
  (Ja (uR (C5 (cS Ti (pv 0) Gi (λ_ _=>rfl)))
   (Ja (Sd (i:=2) NB.nd rfl (By rfl) (Ke Yd (cS Ti (pv 0) Gi (λ_ _=>rfl)) (Ke jA Gi Gi)))
    (Ja (rM (Ke jY (cS Ti (pv 0) Gi (λ_ _=>rfl)) (Ke jA Gi Gi)) (u4 (pv 0) Gi mK))
    (Ni (Xt (pv 2))))) sT)
  (Ja (Sd (i:=2) NB.nd rfl (By rfl) (Ke Yd (Ke cJ (Ke bK (Ke bK (Ke Yd (cS Ti (pv 0) Gi (λ_ _=>rfl)) Gi) (Ke cJ (Ke cJ (pv 1) (pv 1)) Gi)) (pv 1)) Gi) Gi))
  (Ja (Sd (i:=2) NB.nd rfl (By rfl) (Ke Yd (Ke cJ (pv 2) (pv 2)) Gi))
  (Ni (Xt (Ke jY (Ke Yd (Ke cJ (pv 2) (Ke bK (pv 2) Gi)) Gi) Gi))))))),?_⟩
 -- draws[1]=draws[1]+1
 refine ⟨_,rfl,d,_,1,_,rfl,rfl,Ua.of l,rfl,_,_,rfl,rfl,_,rfl,d,_,1,1,rfl,rfl,l,rfl,?_⟩
 have a:(upd H d (.lst ([V.int c,V.int k,V.bl b].set 1 (V.int (k+1))))) d=some (.lst [.int c,.int (k+1),.bl b]):=Cg
 generalize e:upd H d (.lst ([V.int c,V.int k,V.bl b].set 1 (V.int (k+1))))=H1 at a
 have m:Ui d H H1:=by rw[<- e]; exact Ui.upd
 -- k=draws[1]; if draws[2]
 refine ⟨_,rfl,d,_,1,_,rfl,rfl,Ua.of a,rfl,_,rfl,d,_,2,_,rfl,rfl,Ua.of a,rfl,_,rfl,?_⟩
 refine LW (λ_=>?_) (λ_=>?_)
 ·refine ⟨_,rfl,d,_,0,_,rfl,rfl,Ua.of a,rfl,10,6,rfl,rfl,⟨by decide,by decide,by decide⟩,_,_,rfl,rfl,(by show (0:Int)<10 ^ (6:Int).toNat; decide),?_⟩
  refine ⟨_,rfl,d,_,0,_,rfl,rfl,Ua.of a,rfl,10,6,rfl,rfl,⟨by decide,by decide,by decide⟩,_,_,rfl,rfl,⟨by decide,by decide⟩,_,rfl,d,_,0,0,rfl,rfl,a,rfl,_,rfl,?_⟩
  exact q _ _ _ Cg (m.trans Ui.upd)
 ·have t:=aQ c 1000003 (by decide)
  have b1:=aQ ((c % 1000003+(k+1) * (k+1) * 7919+(k+1)) * 48271) 2147483629 (by decide)
  refine ⟨_,rfl,d,_,0,_,rfl,rfl,Ua.of a,rfl,_,_,rfl,rfl,(by show (0:Int)<1000003; decide),_,rfl,_,rfl,_,_,rfl,rfl,.inl ⟨by omega,by omega⟩,_,_,rfl,rfl,.inr ⟨by decide,by decide⟩,_,_,rfl,rfl,_,rfl,_,_,rfl,rfl,
   _,_,rfl,rfl,.inr ⟨by decide,by decide⟩,_,_,rfl,rfl,(by show (0:Int)<2147483629; decide),?_⟩
  generalize ((c % 1000003+(k+1) * (k+1) * 7919+(k+1)) * 48271) % 2147483629=x at b1
  have b2:=aQ (x * x) 2147483587 (by decide)
  refine ⟨_,rfl,_,rfl,_,_,rfl,rfl,.inl ⟨by omega,by omega⟩,_,_,rfl,rfl,(by show (0:Int)<2147483587; decide),?_⟩
  generalize (x * x) % 2147483587=y at b2
  refine ⟨_,rfl,_,rfl,_,_,rfl,rfl,_,_,rfl,rfl,.inl ⟨by omega,by omega⟩,_,_,rfl,rfl,(by show (0:Int)<2147483579; decide),_,_,rfl,rfl,⟨by decide,by decide⟩,?_⟩
  exact q _ _ _ a m
theorem wQ{f:Addr}{a:Bj}(F:Fun K "_law_draws" "_law_draws" iP f a):FnOk P w K mg base Hq 1 f a ["_law_cell"] Vw:=zU (zK F)
theorem j9{f:Addr}{a:Bj}(F:Fun K "_law_next" "_law_next" sS f a):FnOk P w K mg base Hq 1 f a ["_law_draws_here"] (yQ K Uv):=O0 (S7 F)
end
end K72
namespace DL
open PySem L2 Nd
def sub(a b:List Int):Bool:=a.all λi=>decide (i∈b)
theorem BG{h:Int}{a:List Int}(r:Eg h a):a.Nodup:=r.1.imp λ{x y} h=>Int.ne_of_lt h
theorem yL{a:List Int}(nd:a.Nodup)(h:∀x∈a,0<=x/\x<60):a.length<=60:=Bw (NdS.len_leI nd λe b=>kP (h e b).1 (h e b).2) (by decide)
theorem Lz(a:Int){b:Int}(h:0<b):0<=a % b/\a % b<b:=aQ a b h
def zF:DF:=λc n R=>∃h:Int,c=[.int h]/\0<h/\h<=60/\n<=90000/\∀b a,n<=a->a<=n+10->Eg h b->R (Dc b) a
end DL
namespace Nd
open PySem L2 Ts
end Nd
namespace Nd
open PySem L2
def ch:Nat->Nat->Nat
 | _,0=>1
 | 0,_+1=>0
 | n+1,k+1=>ch n k+ch n (k+1)
def cw:Nat->Int->Nat->List (List Int)
 | _,_,0=>[[]]
 | 0,_,_+1=>[]
 | d+1,p,m+1=>(cw d (p+1) m).map (p::·)++cw d (p+1) (m+1)
end Nd
namespace DL
open PySem L2 Nd
def pairD(p:Nat×Nat):Ad:=.tuple [.int p.1,.int p.2]
instance {p:Nat×Nat}:Im (pairD p):=⟨(inferInstance:Im (.tuple [.int p.1,.int p.2])).h⟩
instance {p:Nat×Nat}:Dp (pairD p) 1:=⟨(inferInstance:Dp (.tuple [.int p.1,.int p.2]) 1).h⟩
def Z4(p:Nat×Nat×List Int):Ad:=.tuple [.int p.1,.int p.2.1,Dc p.2.2]
instance {p:Nat×Nat×List Int}:Im (Z4 p):=⟨(inferInstance:Im (.tuple [.int p.1,.int p.2.1,Dc p.2.2])).h⟩
instance {p:Nat×Nat×List Int}:Dp (Z4 p) 2:=⟨(inferInstance:Dp (.tuple [.int p.1,.int p.2.1,Dc p.2.2]) 2).h⟩
end DL
namespace DL
open PySem PySem.Spec PyProof.Rows L2 Nd
end DL
namespace Nd
open PySem PySem.Spec PyProof.Rows L2
def bL(z:Str):Prop:=∀c∈z.cps.toList,c<128
def JS(z:Str):It:=⟨λi _=>i<z.cps.size,λi H x a=>a=H/\∃c,z.cps[i]? = some c/\x=.str ⟨#[c]⟩,λi _=>z.cps.size<=i⟩
theorem C9{P:Bk}{w:World}{K:PySem.W.Frag}{J:Expr}(z:Str)(t:Tok)(it:Addr):Turn P w K J (JS z) [it] it (λi h=>h.IsStrIter it "str_ascii_iterator" z t i) where
 mem:=by simp
 obj:=λi h st b f=>by
  have e:b=it:=by simpa using f
  subst e
  obtain ⟨o,e,c,d⟩:=st
  exact ⟨o,e,λv z=>by rw[d] at z; cases z⟩
 keep:=λi h l st k=>by
  obtain ⟨o,e,c,d⟩:=st
  exact ⟨o,k it (by simp) o e,c,d⟩
 item:=by
  intro X A u p B i a s C H E I m st g
  subst A u p
  obtain ⟨x,r,G,y,q,n⟩:=m it (by simp)
  have g:i<z.cps.size:=g
  have D:z.cps[i]? = some z.cps[i]:=by simp [g]
  refine wpAny_pyNext_ascii_item st D λl j L=>?_
  have F:Inv X a C H { s with heap:=l,toks:=s.toks+1 }:=I.turned (t':=s.toks+1) (λb o f e=>(L.2 b f).trans e) x r y q n
  obtain ⟨o,e,c,d⟩:=id j
  exact ⟨_,rfl,uW (s:={ s with heap:=l,toks:=s.toks+1 }) e c d (by decide) ⟨.str ⟨#[z.cps[i]]⟩,H,F,⟨_,rfl⟩,⟨rfl,_,D,rfl⟩,j,λb f=>(m b f).1⟩⟩
 done:=by
  intro X A u p B i a s C H E I m st g
  subst A u p
  obtain ⟨x,r,G,y,q,n⟩:=m it (by simp)
  have g:z.cps.size<=i:=g
  exact wpAny_pyNext_ascii_end (I.ok.hd B) st (by simp; omega) λl M=>⟨rfl,I.turned (t':=s.toks) (λb o f e=>M b o f e) x r y q n⟩
 self:=λ_ _ _ _ _ st h=>wpAny_pyIter_striter_ascii st h
section
variable{X:Cx}{a:Expr}
def JZ(a:TE):TI:=λb H R=>a b H λx c=>∃z,x=.str z/\bL z/\R (JS z) c
theorem FJ{l:Expr}{j:TE}(m:PE X l j):PI X a l (JZ j):=by
 intro c s u H R I h
 refine Gy (m c s u H _ I h) λv d f => ?_
 obtain ⟨x,n,g,w,p⟩ := f
 obtain ⟨z,e,k,q⟩:=p
 subst e
 obtain ⟨t,rfl⟩:=w
 refine wpAny_pyIter_strU ?_
 have A:strIterType z = "str_ascii_iterator" := by
  rw[strIterType,if_pos]
  rw[Array.all_eq_true']
  exact λi y=>decide_eq_true (k i (by simpa using y))
 rw[A]
 refine ⟨d.heap.objs.size,[d.heap.objs.size],_,_,n,rfl,g.kept (t':=d.toks) λb o e=>Aq _ e,C9 z t _,⟨_,Be _ rfl,rfl,rfl⟩,λb r=>?_,q⟩
 have e:b=d.heap.objs.size:=by simpa using r
 subst e
 exact g.fpOk (Au _) (g.hok.fresh (Au _))
end
def KD(c:Nat)(z:Str):Prop:=c∉z.cps.toList
end Nd
namespace DL
open PySem PySem.Spec PyProof.Rows L2 Nd
def signs(z:Str):List Ad:=z.cps.toList.map λc=>Le ⟨#[c]⟩
section
variable{K:PySem.W.Frag}{H:Hp}
theorem zX{z:Str}:IterOk K (JS z) [] .sh (signs z) where
 md:=.inl rfl
 hd:=λe d=>nomatch d
 np:=λ_ e d=>nomatch d
 go:=λH n i h b=>by
  unfold signs at b
  rw[Af,Bg] at b
  exact b
 yld:=λH n i x g h b y=>by
  obtain ⟨rfl,c,f,rfl⟩:=y
  refine ⟨Lu.refl _,.str ⟨#[c]⟩,[],?_,.str _,λa z=>nomatch z⟩
  unfold signs
  rw[Bu,Hi,f]
  rfl
 stop:=λH n h=>by
  unfold signs
  rw[Af,Bg]
  exact Au _
end
def JK(x:DV)(a:DS)(P:Md->List Ad->DS->Prop):Prop:=match x with
 | .dat _ (.str z)=>bL z/\z.length<=100000/\P .sh (signs z) a
 | _=>False
def MH(c:DE):DI:=λb P=>c b λx a=>JK x a P
def sX(ne:Bool):D2:=λx y P=>match x,y with
 | .dat _ (.str i),.dat _ (.str j)=>P (.dat .ow (.bool (match ne with | true=>!(!(Ge j i 0 j.length 1).isEmpty) | false=>!(Ge j i 0 j.length 1).isEmpty)))
 | _,_=>False
theorem FB{K:PySem.W.Frag}:qY K (λx y H Q=>∃i j,x=.str i/\y=.str j/\Q (.bl (!(Ge j i 0 j.length 1).isEmpty)) H) (sX false):=by
 intro c X n S T x y v w F G H Q P b a k
 unfold sX at a
 split at a
 ·obtain ⟨rfl,_⟩:=(b.told Gm).str_inv
  obtain ⟨rfl,_⟩:=(b.told mem_mid).str_inv
  exact ⟨_,_,rfl,rfl,k _ _ [] H (b.drop2.pushI (.bl _)) a⟩
 ·exact a.elim
section
variable{X:Cx}{o e a b i:Expr}{c db g:DE}{f d pos:Pos}
theorem ED(h:Fg X e g):sC X i e (MH g):=by
 refine PI.imp (FJ h) λu H R h=>?_
 obtain ⟨j,Y,S,T,q,P,rfl,n,t,l,k⟩:=h
 refine ⟨j,Y,S,T,q,_,rfl,n,t,l,λx c v F p f s d a b=>?_⟩
 unfold JK at b
 split at b
 ·obtain ⟨rfl,_⟩:=(a.told mem_mid).str_inv
  obtain ⟨m,o,r⟩:=b
  exact ⟨_,rfl,m,k _ _ c _ [] p f s d a.drop zX (by unfold signs; rw[Af,Bg]; exact Bw o (pB (by decide))) r⟩
 ·exact b.elim
theorem DN(e:Fg X a c)(hb:Fg X b db)(d:Iy .In b=false:=by with_unfolding_all rfl):Fg X (.Compare a [.In] [b] pos) (dY (sX false) c db):=rH xO FB e hb d
theorem zN{x:Str}{z:Str}{u:Value}(b:Gl X x)(a:X.mg x=some u)(r:RelV (.str z) u)(hd:(x == ("__debug__" : Str))=false:=by decide):Fg X (.Name x pos) (dC (.str z)):=Xi (Jl b a r hd) λ_=>.str z
theorem lP{x:Str}{z:Int}{u:Value}(b:Gl X x)(a:X.mg x=some u)(r:RelV (.int z) u)(hd:(x == ("__debug__" : Str))=false:=by decide):Fg X (.Name x pos) (dC (.int z)):=Xi (Jl b a r hd) λ_=>.int z
end
section
variable{a:DS}{P:DV->DS->Prop}{m:Md}{z y:Str}{c db b:DE}{ds:List Ad}
theorem e_tx{Q:Md->List Ad->DS->Prop}:MH b a Q=(b a λx c=>JK x c Q):=rfl
theorem e_txB{Q:Md->List Ad->DS->Prop}:JK (.dat m (.str z)) a Q=(bL z/\z.length<=100000/\Q .sh (signs z) a):=rfl
theorem e_inS{a:Md}{Q:DV->Prop}:sX false (.dat m (.str z)) (.dat a (.str y)) Q=Q (.dat .ow (.bool (!(Ge y z 0 y.length 1).isEmpty))):=rfl
theorem e_lenS{Q:DV->Prop}:zD [.dat m (.str z)] Q=(z.length<=1000000/\Q (.dat .ow (.int z.length))):=rfl
end
end DL
namespace Nd
open PySem PySem.Spec PyProof.Rows L2
end Nd
namespace DL
open PySem PySem.Spec PyProof.Rows L2 Nd
end DL
namespace Nd
open PySem PySem.Spec PyProof.Rows L2
section
variable{X:Cx}{e a b c:Expr}{o f d g:TE}{lo l:Option Expr}{n p:TO}{pos m:Pos}
theorem zP(J:PE X a f)(hb:PE X b d)(D:PE X c g):PE X (.JoinedStr [a,b,c] pos) (λm H Q=>f m H λx n=>∃i,x=.str i/\i.length<=1000000/\d m n λy p=>∃j,y=.str j/\i.length+j.length<=1000000/\g m p λw u=>∃k,w=.str k/\i.length+j.length+k.length<=1000000/\∀z,Q (.str z) u):=by
 intro e s m H Q I h
 refine JoinedStr_many (Rt (Gy (J e s m H _ I h) λv T o => ?_))
 obtain ⟨x,n,E,L,i,F,l,P⟩ := o
 subst F
 obtain ⟨t,rfl⟩:=L
 have r:Str.empty.length=0:=rfl
 refine ⟨?_,Rt (Gy (hb e T m n _ E P) λv K ⟨y,p,B,S,j,G,Y,M⟩=>?_)⟩
 ·rw[Iw,r,Fn]; omega
 subst G
 obtain ⟨V,rfl⟩:=S
 refine ⟨?_,Rt (Gy (D e K m p _ B M) λv W ⟨w,u,R,O,k,C,N,q⟩=>?_)⟩
 ·rw[Iw,Iw,r,Fn]; omega
 subst C
 obtain ⟨U,rfl⟩:=O
 have A:(Str.empty++i++j++k).length<=Ba:=by rw[Iw,Iw,Iw,r,Fn]; omega
 exact ⟨A,joinParts_nil ⟨.str _,u,R.tok _,⟨_,rfl⟩,q _⟩ A⟩
end
end Nd
namespace DL
open PySem PySem.Spec PyProof.Rows L2 Nd
section
variable{X:Cx}{H0:Hp}{b e:Expr}{es:List Expr}{a:DE}{d:DA}{c:DI}{pos p:Pos}{r:List V->Hp->VK->Prop}{rd:DC}{x:Str}{T:String}
theorem bO(d:PE X e (MK X.K H0 a))(l:El e none pos.line X.env=pure false:=by rfl):PS X (.Expr e pos) (pE X.K H0 (oN a)):=by
 refine PS.impD (Wo d l) λD t H h=>?_
 obtain ⟨S,T,k,P,rfl,i,u,q,j,n,w,s,r⟩:=h
 refine ⟨S,T,k,_,rfl,i,q,j,λx c v F g o m f b p=>?_⟩
 rw[<- m]
 exact n c g o f b.drop p
end
section
variable{P:Bk}{w:World}{K:PySem.W.Frag}{mg:Str->Option Value}{base:Heap}{N:List Str}{b:Str}{a:Scope}{f:Addr}{i:Value}{A:Cf}{outer:List Env}{d:Ak}{c H0:Hp}{E:XK}
variable{X:Cx}{l iter:Expr}{x:Str}{n pos:Pos}{k:List Expr}{g:Scope}{q:List (Str×Addr)}{ys:List Str}{p:List Nat}{m:DI}{dc:DT}{o:DE}
theorem qB{n:Addr->Prop}{C:Addr}{x:Str}{np g pos u l fp v:Pos}{k m:Str}{z:Int}{e:Expr}{j r:Nat}(F:∀C H',n C->Lu c H'->E (.ref C) none H')(q:Gl (Kb (Iu P w) P w K mg base N b a f i A outer d c E) x)(t:mg x=some (.ref C))(p:PySem.W.excIn K C Ze "ValueError.__new__" = true)(y:PE (Kb (Iu P w) P w K mg base N b a f i A outer d c E) e (tC (.int z)))(s:z.natAbs.log2<1920)(l1:k.length<=1000)(l2:m.length<=1000)(l3:Str.length (toString z:Str)<=1000)(hd:(x == ("__debug__" : Str))=false:=by decide):PS (Kb (Iu P w) P w K mg base N b a f i A outer d c E) (.Raise (some (.Call (.Name x np) [.JoinedStr [.Constant (.str k) j u,.FormattedValue e (-1) none fp,.Constant (.str m) r l] v] [] g)) none pos) (pE K c (kG n C)):=by
 refine PS.impD (Wr q t p (Do (zP Xz (J3 y) Xz) Ir) hd) λD G o h=>?_
 obtain ⟨S,T,H,Q,rfl,I,J,B,hd,_⟩:=h
 exact ⟨k,rfl,by omega,z,rfl,s,_,rfl,by omega,m,rfl,by omega,λ_=>⟨(by show 1<=Ba; decide),F C o hd (tE B)⟩⟩
end
theorem Fi{X:Cx}{e:Expr}{es:List Expr}{b:DE}{a:DA}(c:Fg X e b)(d:Wb X es a)(f:∀l,An (e::l) X.env=(false,eval e X.env)::An l X.env:=by intro _; rfl):Wb X (e::es) (sW b a):=Ac c d (f es)
theorem Ep{X:Cx}{es:List Expr}{a:DA}{i:Str}{j:Nat}{pos:Pos}(b:Wb X es a):Wb X (.Constant (.str i) j pos::es) (sW (dC (.str i)) a):=Fi Er b
def Zp:DV->Bool
 | .drw=>true
 | .obj _=>true
 | _=>false
theorem Yo{x:DV}(h:Zp x=true):O1 x=true:=by
 cases x <;> first | rfl | cases h
theorem Rk{x:DV}(h:Zp x=true):x=.drw\/∃a,x=.obj a:=by
 cases x <;> first | exact .inl rfl | exact .inr ⟨_,rfl⟩ | cases h
def Oo(Is:List Ent)(C:List Addr)(H:Hp):Hp:=λa=>open Classical in if a∈C\/∃e∈Is,Px e.x=false/\a∈cells e then none else H a
def XG(Is:List Ent):Addr->Prop:=λa=>∃e∈Is,Px e.x=true/\a∈e.F
theorem Nw{e:Ent}(h:Px e.x=true):cells e=e.F:=by
 obtain ⟨v,x,F⟩:=e
 cases x <;> first | rfl | cases h
theorem gD{Is:List Ent}{C:List Addr}{H:Hp}{b:Addr}{o:HO}(h:Oo Is C H b=some o):H b=some o:=by
 unfold Oo at h
 split at h
 ·cases h
 ·exact h
theorem vD{Is:List Ent}{C:List Addr}{H:Hp}{b:Addr}(h:¬ (b∈C\/∃e∈Is,Px e.x=false/\b∈cells e)):Oo Is C H b=H b:=if_neg h
theorem uL{Is:List Ent}{C:List Addr}{H:Hp}{b:Addr}(h:b∈C\/∃e∈Is,Px e.x=false/\b∈cells e):Oo Is C H b=none:=if_pos h
theorem yJ{Is:List Ent}{C:List Addr}{H:Hp}{b:Addr}(h:Oo Is C H b=none):(b∈C\/∃e∈Is,Px e.x=false/\b∈cells e)\/H b=none:=by
 unfold Oo at h
 split at h
 ·exact .inl ‹_›
 ·exact .inr h
theorem W0{K:PySem.W.Frag}{H:Hp}{n:Nat}{e:Ent}(j:Zp e.x=true)(ok:Fx K H n e):∀b∈cells e,∀o,H b=some o->¬ MB o:=by
 obtain ⟨v,x,F⟩:=e
 intro b g o q s
 rcases Rk j with rfl | ⟨i,rfl⟩
 ·obtain ⟨h,c,k,f,_,m,l,_⟩:=ok
  have d:F=[h]:=m
  subst d
  rw[Aj.mp g] at q
  have a:H h=some (.lst _):=l
  rw[a] at q
  cases q
  rcases s with ⟨_,s⟩ | ⟨_,_,s⟩ <;> cases s
 ·exact i.ns ok.2 b g o q s
theorem A7{c:Type}{R:c->c->Prop}(f:∀a b,R a b->R b a):∀{l:List c},l.Pairwise R->∀a∈l,∀b∈l,a=b\/R a b
 | [],_,a,ha,_,_=>nomatch ha
 | x::l,h,a,ha,b,hb=>by
  obtain ⟨d,i⟩:=Ax.mp h
  rcases Ai.mp ha with g | ha' <;> rcases Ai.mp hb with e | hb'
  ·exact .inl (g.trans e.symm)
  ·exact .inr (g▸d b hb')
  ·exact .inr (e▸f _ _ (d a ha'))
  ·exact A7 f i a ha' b hb'
section
variable{K:PySem.W.Frag}{H0 H H':Hp}{X:Addr->Prop}{n n':Nat}{Is j A E B:List Ent}{C:List Addr}
theorem At.inout(h:At K H0 X n (Is++E) H)(G:∀e∈Is,Zp e.x=true)(g:At K (Oo Is (E.flatMap cells) H) (XG Is) n' (A++[⟨none,.grd H,E.flatMap cells⟩]) H')(R:n<=n'):At K H0 X n' (A++E) H':=by
 obtain ⟨L,v,s⟩:=Bs.mp h.sep
 obtain ⟨t,_,B⟩:=Bs.mp g.sep
 have u:∀i∈Is,∀e∈E,∀a∈cells i,a∉e.F:=λi d e he a l=>(s i d e he).1 (.inr (Yo (G i d))) a l
 have C:∀x∈A,∀a∈E.flatMap cells,a∉x.F:=λx m a l=>(B x m _ Ab).2 (.inr rfl) a l
 have N:∀a∈E.flatMap cells,∃o,H a=some o/\H' a=some o:=g.ok _ (Ag _ Ab)
 have keep:∀b o,(∀i∈Is,b∉cells i)->H b=some o->H' b=some o:=λb o j q=>by
  by_cases p:b∈E.flatMap cells
  ·obtain ⟨y,J,g2⟩:=N b p
   rw[q] at J
   cases J
   exact g2
  ·refine g.same b o (λ⟨i,d,r,z⟩=>j i d (by rw[Nw r]; exact z)) ?_
   rw[vD λz=>z.elim p λ⟨i,d,_,z⟩=>j i d z]
   exact q
 have fresh:∀x∈A,∀a∈cells x,H a=none\/(∃i∈Is,Px i.x=false/\a∈cells i)\/(XG Is a/\Px x.x=true):=λx m a l=>by
  rcases g.new x (Ae _ m) a l with z | z
  ·rcases yJ z with (z | z) | z
   ·exact absurd (Dm x a l) (C x m a z)
   ·exact .inr (.inl z)
   ·exact .inl z
  ·exact .inr (.inr z)
 refine ⟨λe he=>?_,Bs.mpr ⟨t,v,λx m e he=>⟨λ_ a l z=>?_,λ_ a l=>C x m a (List.mem_flatMap.mpr ⟨e,he,l⟩)⟩⟩,λe he a l=>?_,λb o I q=>?_,λb o q=>?_,λb j=>?_⟩
 ·rcases Ar.mp he with he | he
  ·exact g.ok e (Ae _ he)
  ·refine (h.ok e (Ag _ he)).kp (λb o q z=>keep b o (λi d j=>?_) q) R
   rcases z with z | z
   ·exact u i d e he b j z
   ·exact W0 (G i d) (h.ok i (Ae _ d)) b j o q z
 ·rcases fresh x m a l with q | ⟨i,d,_,q⟩ | ⟨⟨i,d,r,q⟩,_⟩
  ·obtain ⟨o,D⟩:=(h.ok e (Ag _ he)).dom a z
   rw[q] at D; cases D
  ·exact u i d e he a q z
  ·exact u i d e he a (by rw[Nw r]; exact q) z
 ·rcases Ar.mp he with he | he
  ·rcases fresh e he a l with q | ⟨i,d,r,q⟩ | ⟨⟨i,d,r,q⟩,m⟩
   ·exact .inl (h.new0 q)
   ·rcases h.new i (Ae _ d) a q with z | z
    ·exact .inl z
    ·rw[r] at z; cases z.2
   ·rcases h.new i (Ae _ d) a (by rw[Nw r]; exact q) with z | z
    ·exact .inl z
    ·exact .inr ⟨z.1,m⟩
  ·exact h.new e (Ag _ he) a l
 ·refine keep b o (λi d j=>?_) (h.same b o I q)
  rcases h.new i (Ae _ d) b j with z | z
  ·rw[z] at q; cases q
  ·exact I z.1
 ·obtain ⟨y,M⟩:=h.dom b o q
  by_cases j:∃i∈Is,b∈cells i
  ·obtain ⟨i,d,j⟩:=j
   rcases h.new i (Ae _ d) b j with z | z
   ·rw[z] at q; cases q
   ·obtain ⟨_,c,k,f,O,_⟩:=g.xd b ⟨i,d,z.2,by rw[<- Nw z.2]; exact j⟩
    exact ⟨_,O⟩
  ·exact ⟨y,keep b y (λi d z=>j ⟨i,d,z⟩) M⟩
 ·obtain ⟨z,c,k,f,Q,P,S⟩:=h.xd b j
  refine ⟨z,?_⟩
  by_cases p:∃i∈Is,b∈cells i
  ·obtain ⟨i,d,p⟩:=p
   rcases h.new i (Ae _ d) b p with w | w
   ·exact absurd w z
   ·exact (g.xd b ⟨i,d,w.2,by rw[<- Nw w.2]; exact p⟩).2
  ·exact ⟨c,k,f,keep b _ (λi d z=>p ⟨i,d,z⟩) Q,P,by omega⟩
theorem At.inout0{ds:List Ad}(ok:∀e∈Is++j,Fx K H n e)(sp:(Is++j).Pairwise Nq)(E:∀e∈Is,Zp e.x=true)(q:datas (j.map Ent.x)=some ds)(w:∀a∈C,H a≠none/\∀e∈Is++j,a∉e.F)(m:Nat):At K (Oo Is C H) (XG Is) n ((Is++(j.map Sm++Fs m))++[⟨none,.grd H,C⟩]) H:=by
 obtain ⟨G,T,Q⟩:=Bs.mp sp
 have l:=Wl q m
 have I:∀e∈j.map Sm++Fs m,e.F=[]\/∃d∈j,e.F=d.F:=λe he=>by
  rcases Ar.mp he with he | he
  ·obtain ⟨d,p,rfl⟩:=Fb.mp he
   refine .inr ⟨d,p,?_⟩
   obtain ⟨v,x,F⟩:=d
   cases x <;> rfl
  ·rw[(Gc.mp he).2]
   exact .inl rfl
 have S:∀i∈Is,∀e∈j.map Sm++Fs m,∀a∈cells i,a∉e.F:=λi s e he a g z=>by
  rcases I e he with q | ⟨d,p,q⟩
  ·rw[q] at z; cases z
  ·rw[q] at z
   exact (Q i s d p).1 (.inr (Yo (E i s))) a g z
 have D:∀a∈C,∀e∈Is++(j.map Sm++Fs m),a∉e.F:=λa g e he z=>by
  rcases Ar.mp he with he | he
  ·exact (w a g).2 e (Ae _ he) z
  ·rcases I e he with q | ⟨d,p,q⟩
   ·rw[q] at z; cases z
   ·rw[q] at z
    exact (w a g).2 d (Ag _ p) z
 refine ⟨λe he=>?_,Bs.mpr ⟨Bs.mpr ⟨G,Oa λa g b r=>⟨λt c h=>?_,λt c h=>?_⟩,λa g b r=>⟨λt c h=>S a g b r c h,λt c h=>?_⟩⟩,En _ _,λa g b r=>?_⟩,λe he a g=>?_,λb o _ e=>gD e,λb o e=>⟨o,gD e⟩,λb r=>?_⟩
 ·rcases Ar.mp he with he | he
  ·rcases Ar.mp he with he | he
   ·exact ok e (Ae _ he)
   ·exact oT q (λe he=>ok e (Ag _ he)) m e he
  ·rw[Aj.mp he]
   intro a g
   cases q:H a with
   | none=>exact absurd q (w a g).1
   | some o=>exact ⟨o,by first | rfl | exact q,by first | rfl | exact q⟩
 ·rw[(l a g).1] at h; cases h
 ·rw[(l b r).1] at h; cases h
 ·rw[(l b r).1] at h; cases h
 ·rw[Aj.mp r]
  exact ⟨λt c h z=>D c z a g (Dm a c h),λt c h=>D c h a g⟩
 ·rcases Ar.mp he with he | he
  ·rcases Ar.mp he with he | he
   ·by_cases p:Px e.x=true
    ·exact .inr ⟨⟨e,he,p,by rw[<- Nw p]; exact g⟩,p⟩
    ·exact .inl (uL (.inr ⟨e,he,by simpa using p,g⟩))
   ·rw[(l e he).1] at g; cases g
  ·rw[Aj.mp he] at g
   exact .inl (uL (.inl g))
 ·obtain ⟨i,s,p,r⟩:=r
  have o:=ok i (Ae _ s)
  have N:b∉C:=λz=>(w b z).2 i (Ae _ s) r
  have R:¬ ∃e∈Is,Px e.x=false/\b∈cells e:=λ⟨e,he,u,A⟩=>by
   rcases A7 (λ_ _=>Nq.symm) G i s e he with rfl | z
   ·rw[p] at u; cases u
   ·exact z.2 (.inr (Yo (E e he))) b A r
  rw[vD λz=>z.elim N R]
  obtain ⟨v,x,F⟩:=i
  cases x with
  | drw =>
   obtain ⟨L,c,k,f,_,P,J,O,M⟩:=o
   have B:F=[L]:=P
   subst B
   rw[Aj.mp r]
   have y:H L=some (.lst _):=J
   exact ⟨λz=>(by rw[y] at z; cases z),c,k,f,J,O,M⟩
  | _=>cases p
end
def Sy:List DV->List DV->Prop
 | [],[]=>True
 | .drw::xs,.drw::ys=>Sy xs ys
 | .obj κ::xs,.obj κ'::ys=>κ'.a=κ.a/\Sy xs ys
 | _,_=>False
theorem zL:∀{Is S:List Ent},Sy (Is.map Ent.x) ((S.map Ent.x).take Is.length)->(∀s∈S,∀b,s.x=.obj b->s.v=some (.ref b.a))->(∀i∈Is,∀b,i.x=.obj b->i.v=some (.ref b.a))->Is.Pairwise Nq->S.Pairwise Nq->(∀i∈Is,Px i.x=true->∀s∈S,(∃b,s.x=.obj b)->Nq i s)->∃M:List Ent,M.map Ent.v=Is.map Ent.v/\M.map Ent.x=(S.map Ent.x).take Is.length/\(∀m∈M,(m∈Is/\Px m.x=true)\/(m∈S/\∃b,m.x=.obj b))/\M.Pairwise Nq
 | [],S,_,_,_,_,_,_=>⟨[],rfl,rfl,λ_ z=>(nomatch z),Es⟩
 | i::Is,[],h,_,_,_,_,_=>by
  obtain ⟨v,x,F⟩:=i
  cases x <;> exact absurd h id
 | i::Is,s::S,h,hs,hi,p1,p2,cr=>by
  obtain ⟨r,u⟩:=Ax.mp p1
  obtain ⟨y,D⟩:=Ax.mp p2
  have C:Sy (Is.map Ent.x) ((S.map Ent.x).take Is.length):=by
   obtain ⟨v,x,F⟩:=i
   obtain ⟨B,k,A⟩:=s
   cases x <;> cases k <;> first | exact h | exact h.2 | exact absurd h id
  obtain ⟨M,n,o,j,l⟩:=zL C (λs z=>hs s (Ah _ z)) (λs z=>hi s (Ah _ z)) u D (λi z d s w=>cr i (Ah _ z) d s (Ah _ w))
  have t:(i.x=.drw/\s.x=.drw)\/∃b c,i.x=.obj b/\s.x=.obj c/\c.a=b.a:=by
   obtain ⟨v,x,F⟩:=i
   obtain ⟨B,k,A⟩:=s
   cases x <;> cases k <;> first | exact .inl ⟨rfl,rfl⟩ | exact .inr ⟨_,_,rfl,rfl,h.1⟩ | exact absurd h id
  have f:∀m∈M,(m∈i::Is/\Px m.x=true)\/(m∈s::S/\∃b,m.x=.obj b):=λm hm=>(j m hm).imp (λz=>⟨Ah _ z.1,z.2⟩) (λz=>⟨Ah _ z.1,z.2⟩)
  rcases t with ⟨g,e⟩ | ⟨b,c,g,e,q⟩
  ·have p:Px i.x=true:=by rw[g]; rfl
   refine ⟨i::M,by rw[Ap,Ap,n],by rw[Ap,Ap,Bp,Oh,o,g,e],λm hm=>?_,Ax.mpr ⟨λm hm=>?_,l⟩⟩
   ·rcases Ai.mp hm with rfl | hm
    ·exact .inl ⟨Ab,p⟩
    ·exact f m hm
   ·rcases j m hm with ⟨z,_⟩ | ⟨z,w⟩
    ·exact r m z
    ·exact cr i Ab p m (Ah _ z) w
  ·refine ⟨s::M,?_,by rw[Ap,Ap,Bp,Oh,o],λm hm=>?_,Ax.mpr ⟨λm hm=>?_,l⟩⟩
   ·rw[Ap,Ap,n,hs s Ab c e,hi i Ab b g,q]
   ·rcases Ai.mp hm with rfl | hm
    ·exact .inr ⟨Ab,_,e⟩
    ·exact f m hm
   ·rcases j m hm with ⟨z,w⟩ | ⟨z,_⟩
    ·exact (cr m (Ah _ z) w s Ab ⟨_,e⟩).symm
    ·exact y m z
section
variable{K:PySem.W.Frag}{H H':Hp}{n n':Nat}{Is S B:List Ent}{C:List Addr}
theorem At.inout1(ok:∀e∈Is,Fx K H n e)(sp:Is.Pairwise Nq)(h:At K (Oo Is C H) (XG Is) n' (S++B) H')(q:Sy (Is.map Ent.x) ((S.map Ent.x).take Is.length))(Z:∀f∈B,∀a,XG Is a->a∉f.F):∃M:List Ent,M.map Ent.v=Is.map Ent.v/\M.map Ent.x=(S.map Ent.x).take Is.length/\At K (Oo Is C H) (XG Is) n' (M++B) H':=by
 obtain ⟨U,O,W⟩:=Bs.mp h.sep
 have A:∀i∈Is,Px i.x=true->∃b,i=⟨some (.ref b),.drw,[b]⟩/\XG Is b:=λi r t=>by
  have o:=ok i r
  obtain ⟨v,x,F⟩:=i
  cases x with
  | drw =>
   obtain ⟨b,c,k,f,P,V,_⟩:=o
   have E:v=some (.ref b):=P
   have G:F=[b]:=V
   subst E G
   exact ⟨b,rfl,_,r,rfl,Ab⟩
  | _=>cases t
 have p:∀{J:Hp} {m:Nat} {e:Ent},Fx K J m e->∀j,e.x=.obj j->e.v=some (.ref j.a):=λ{J m e} o j g=>by
  obtain ⟨v,x,F⟩:=e
  have u:x=.obj j:=g
  subst u
  exact o.1
 have l:∀i∈Is,Px i.x=true->∀f:Ent,(∀a,XG Is a->a∉f.F)->Nq i f:=λi r t f D=>by
  obtain ⟨b,rfl,g⟩:=A i r t
  exact ⟨λ_ a d=>by rw[Aj.mp d]; exact D b g,λ_ a d z=>by rw[Aj.mp z] at d; exact D b g (Dm _ _ d)⟩
 have Y:∀s∈S,(∃j,s.x=.obj j)->∀a,XG Is a->a∉s.F:=λs y ⟨j,g⟩ a d=>by
  have o:=h.ok s (Ae _ y)
  obtain ⟨v,x,F⟩:=s
  have u:x=.obj j:=g
  subst u
  obtain ⟨_,c,k,f,t,_⟩:=h.xd a d
  exact j.nd o.2 t
 obtain ⟨M,T,m2,I,R⟩:=zL q (λs y=>p (h.ok s (Ae _ y))) (λi r=>p (ok i r)) sp U (λi r t s y g=>l i r t s (Y s y g))
 refine ⟨M,T,m2,λe he=>?_,Bs.mpr ⟨R,O,λm N f D=>?_⟩,λe he a d=>?_,h.same,h.dom,h.xd⟩
 ·rcases Ar.mp he with he | he
  ·rcases I e he with ⟨z,w⟩ | ⟨z,_⟩
   ·obtain ⟨b,rfl,g⟩:=A e z w
    obtain ⟨_,c,k,f,X,Q,L⟩:=h.xd b g
    exact ⟨b,c,k,f,rfl,rfl,X,Q,L⟩
   ·exact h.ok e (Ae _ z)
  ·exact h.ok e (Ag _ he)
 ·rcases I m N with ⟨z,w⟩ | ⟨z,_⟩
  ·exact l m z w f (Z f D)
  ·exact W m z f D
 ·rcases Ar.mp he with he | he
  ·rcases I e he with ⟨z,w⟩ | ⟨z,_⟩
   ·exact .inr ⟨⟨e,z,w,by rw[<- Nw w]; exact d⟩,w⟩
   ·exact h.new e (Ae _ z) a d
  ·exact h.new e (Ag _ he) a d
end
section
variable(K:PySem.W.Frag)(H0:Hp)(Y:Addr->Prop)(B:List Ent)
def pA(f:DE):TE:=λd H Q=>∃(S T:List Ent) (c:DS) (P:DV->DS->Prop),vs S=d/\Sl S c/\B.Sublist T/\At K H0 Y c.n (S++T) H/\f c P /\
 ∀x a v F b e,vs b=d->Sl b a->At K H0 Y a.n (b++⟨some v,x,F⟩::T) e->P x a->Q v e
def tQ(i:DA):TA:=λf H Q=>∃(S T:List Ent) (d:DS) (P:List DV->DS->Prop),vs S=f/\Sl S d/\B.Sublist T/\At K H0 Y d.n (S++T) H/\i d P /\
 ∀e a b g c h,vs c=f->Sl c a->b.map Ent.x=e->b.map Ent.v=g.map some->At K H0 Y a.n (c++(b++T)) h->P e a->Q g h
def jM(db:DB):TS:=λD f H=>∃(S T:List Ent) (d:DS) (P:DEnds),vs S=f/\Sl S d/\(∀e∈T,Lr e.x=false)/\B.Sublist T/\At K H0 Y d.n (S++T) H/\db P d /\
 (∀a b c,Sl b a->At K H0 Y a.n (b++T) c->P.nx a->D.nx (vs b) c) /\
 (∀x a v F b c,Sl b a->At K H0 Y a.n (b++⟨some v,x,F⟩::T) c->P.rt x a->D.rt v c) /\
 (∀a b c,Sl b a->At K H0 Y a.n (b++T) c->P.bk a->D.bk (vs b) c) /\
 (∀a b c,Sl b a->At K H0 Y a.n (b++T) c->P.ct a->D.ct (vs b) c)
end
abbrev Pr:=List DV->List Ad->Nat->(DV->List DV->Nat->Prop)->(Addr->List DV->Nat->Prop)->Prop
def Ig(K:PySem.W.Frag)(pg:Pr):Sp:=λk H Q E=>∃(b f:List Ent) (C:List Addr) (n:Nat) (i:List Ad) (R:DV->List DV->Nat->Prop) (j:Addr->List DV->Nat->Prop),
 (b++f).map Ent.v=k.map some/\(∀e∈b++f,Fx K H n e)/\(b++f).Pairwise Nq/\(∀e∈b,Zp e.x=true)/\datas (f.map Ent.x)=some i/\(∀a∈C,H a≠none/\∀e∈b++f,a∉e.F)/\pg (b.map Ent.x) i n R j /\
 (∀x g d v F M h,R x g d->n<=d->M.map Ent.v=b.map Ent.v->M.map Ent.x=g->At K (Oo b C H) (XG b) d ((M++[⟨some v,x,F⟩])++[⟨none,.grd H,C⟩]) h->Q v h) /\
 (∀c g d M h,j c g d->n<=d->M.map Ent.v=b.map Ent.v->M.map Ent.x=g->At K (Oo b C H) (XG b) d (M++[⟨none,.grd H,C⟩]) h->E (.ref c) none h)
def Ml:List DV->List Nat->Option (List DV×List DV)
 | sl,[]=>some ([],sl)
 | sl,i::is=>match sl[i]? with
  | some x=>match Ml (sl.set i .un) is with
   | some (ys,tl)=>some (x::ys,tl)
   | none=>none
  | none=>none
def Rv:List DV->List Nat->List DV->List DV
 | sl,i::is,z::zs=>Rv (sl.set i z) is zs
 | sl,[],_=>sl
 | sl,_::_,[]=>sl
def Kz:List DV->Bool
 | []=>true
 | x::xs=>Zp x && Kz xs
theorem Nk:∀{Is:List Ent},Kz (Is.map Ent.x)=true->∀e∈Is,Zp e.x=true
 | [],_,_,z=>nomatch z
 | e::Is,h,f,hf=>by
  rw[Ap,Kz,Cz] at h
  rcases Ai.mp hf with rfl | hf
  ·exact h.1
  ·exact Nk h.2 f hf
section
variable{K:PySem.W.Frag}{H0 H:Hp}{Y:Addr->Prop}{n:Nat}
theorem Mm{S:List Ent}{i:Nat}{e f:Ent}(h:S[i]? = some e)(hv:f.v=e.v):vs (S.set i f)=vs S:=by
 unfold vs
 rw[Fc]
 apply aF
 intro j
 rw[Qn]
 split
 ·rename_i a
  subst a
  rw[Bu,h]
  split
  ·rw[hv]; rfl
  ·rename_i b
   rw[Af] at b
   exact absurd (Aw.mp h).1 b
 ·rfl
theorem Sf:∀{is:List Nat} {S:List Ent} {ys a:List DV},Ml (S.map Ent.x) is=some (ys,a)->∃Is R:List Ent,Is.map Ent.x=ys/\R.map Ent.x=a/\vs R=vs S/\is.map (λi=>(vs S)[i]?)=Is.map (λe=>some e.v)/\∀{T:List Ent} {H:Hp} {H0:Hp} {Y:Addr->Prop} {n:Nat},At K H0 Y n (S++T) H->At K H0 Y n (Is++(R++T)) H
 | [],S,ys,a,h=>by
  cases h
  exact ⟨[],S,rfl,rfl,rfl,rfl,λh=>h⟩
 | i::is,S,ys,a,h=>by
  rw[Ml] at h
  cases q:(S.map Ent.x)[i]? with
  | none=>rw[q] at h; cases h
  | some x =>
   rw[q] at h
   have c:(match Ml ((S.map Ent.x).set i .un) is with
    | some (ys,a)=>some (x::ys,a)
    | none=>none)=some (ys,a):=h
   cases f:Ml ((S.map Ent.x).set i .un) is with
   | none=>rw[f] at c; cases c
   | some p =>
    obtain ⟨d,s⟩:=p
    rw[f] at c
    cases c
    rw[Bu] at q
    cases b:S[i]? with
    | none=>rw[b] at q; cases q
    | some e =>
     rw[b] at q
     have ex:e.x=x:=Br q
     have o:Ml ((S.set i ⟨e.v,.un,[]⟩).map Ent.x) is=some (d,a):=by rw[Fc]; exact f
     obtain ⟨Is,R,r,k,m,g,u⟩:=Sf o
     have j:vs (S.set i ⟨e.v,.un,[]⟩)=vs S:=Mm b rfl
     refine ⟨e::Is,R,by rw[Ap,ex,r],k,m.trans j,?_,λ{T H H0 Y n} t=>?_⟩
     ·rw[j] at g
      rw[Ap,Ap,g,Lv b]
     ·have l:=(t.blank (v:=e.v)).perm (E':=e::(S.set i ⟨e.v,.un,[]⟩++T)) (by
       rw[<- Cd,<- Cd]
       exact (Ta (y:=(⟨e.v,.un,[]⟩ : Ent)) b).append_right T)
      exact (u l.tomid).perm (by
       rw[Cd,<- Az,<- Az]
       exact Cy)
def Pp:List Ent->List Nat->List Ent->List Ent
 | S,i::is,z::zs=>Pp (S.set i z) is zs
 | S,[],_=>S
 | S,_::_,[]=>S
theorem uE:∀{is:List Nat} {S M:List Ent},(Pp S is M).map Ent.x=Rv (S.map Ent.x) is (M.map Ent.x)
 | [],S,M=>by rw[Pp,Rv]
 | i::is,S,[]=>by rw[Pp,Ol,Rv]
 | i::is,S,m::M=>by rw[Pp,Ap,Rv,uE,Fc]
theorem u5:∀{is:List Nat} {S M:List Ent},is.map (λi=>(vs S)[i]?)=M.map (λe=>some e.v)->vs (Pp S is M)=vs S
 | [],S,M,_=>by rw[Pp]
 | i::is,S,[],_=>by rw[Pp]
 | i::is,S,m::M,h=>by
  rw[Ap,Ap] at h
  obtain ⟨c,d⟩:=Fp h
  have a:(S.map Ent.v)[i]? = some m.v:=c
  rw[Bu] at a
  cases q:S[i]? with
  | none=>rw[q] at a; cases a
  | some e =>
   rw[q] at a
   have b:vs (S.set i m)=vs S:=Mm q (Br a).symm
   rw[Pp,u5 (by rw[b]; exact d),b]
theorem jK:∀{is:List Nat} {S M T:List Ent},M.length=is.length->At K H0 Y n (M++(S++T)) H->At K H0 Y n (Pp S is M++T) H
 | [],S,M,T,hl,h=>by
  rw[Pp]
  cases M with
  | nil=>exact h
  | cons=>cases hl
 | i::is,S,[],T,hl,h=>by cases hl
 | i::is,S,m::M,T,hl,h=>by
  rw[Pp]
  refine jK (by simpa using hl) ?_
  have a:At K H0 Y n (S++m::(M++T)) H:=h.perm (by
   rw[Cd]
   refine List.Perm.trans (Jq m ?_) Cy.symm
   rw[<- Az,<- Az]
   exact Ej.append_right T)
  exact a.store.perm (by
   rw[<- Az,<- Az]
   exact Ej.append_right T)
end
def Xn:List Nat->TA->TA
 | [],t=>t
 | i::is,t=>Y5 (Kc i) (Xn is t)
theorem aV{t:TA}:∀{is:List Nat} {ws:List V} {a:L2.St} {H:Hp} {Q:List V->Hp->Prop},is.map (λi=>a[i]?)=ws.map (λw=>some (some w))->t a H (λus f=>Q (ws++us) f)->Xn is t a H Q
 | [],[],a,H,Q,_,h=>h
 | [],_::_,_,_,_,e,_=>by cases e
 | _::_,[],_,_,_,e,_=>by cases e
 | i::is,w::ws,a,H,Q,e,h=>by
  rw[Ap,Ap] at e
  obtain ⟨d,g⟩:=Fp e
  exact ⟨w,d,aV (ws:=ws) (Q:=λb c=>Q (w::b) c) g h⟩
def vJ(is:List Nat)(pg:Pr)(e:Addr->DS->Prop)(xs:List DV)(a:DS)(P:DV->DS->Prop):Prop:=match datas xs,Ml a.sl is with
 | some ds,some (ys,sl)=>noPk xs=true/\Kz ys=true/\pg ys ds a.n (λx d b=>P x ⟨Rv sl is d,b⟩) (λc d b=>e c ⟨Rv sl is d,b⟩)
 | _,_=>False
def Ss(is:List Nat)(pg:Pr)(d:Addr->DS->Prop)(e:DA):DE:=λb P=>match Ml b.sl is with
 | some (ys,_)=>Kz ys=true/\e b λc a=>vJ is pg d c a P
 | none=>False
section
variable{K:PySem.W.Frag}{H0 H:Hp}{Y:Addr->Prop}{B:List Ent}{E:XK}{d:L2.St}{Q:VK}{is:List Nat}{pg:Pr}{f:Addr->DS->Prop}{j:DA}
theorem JR{n:Nat}{e:Ent}(a:Zp e.x=true)(ok:Fx K H n e):∃w,e.v=some w:=by
 obtain ⟨v,x,F⟩:=e
 rcases Rk a with rfl | ⟨c,rfl⟩
 ·obtain ⟨b,_,_,_,h,_⟩:=ok
  exact ⟨_,h⟩
 ·exact ⟨_,ok.1⟩
theorem A0{n:Nat}:∀{Is:List Ent},(∀e∈Is,Zp e.x=true)->(∀e∈Is,Fx K H n e)->∃ws:List V,Is.map Ent.v=ws.map some
 | [],_,_=>⟨[],rfl⟩
 | e::Is,io,ok=>by
  obtain ⟨w,h⟩:=JR (io e Ab) (ok e Ab)
  obtain ⟨ws,a⟩:=A0 (λe z=>io e (Ah _ z)) (λe z=>ok e (Ah _ z))
  exact ⟨w::ws,by rw[Ap,Ap,h,a]⟩
theorem bI(h:pA K H0 Y B (Ss is pg f j) d H Q)(hE:∀c k s H',f c k->Sl s k->vs s=d->At K H0 Y k.n (s++B) H'->E (.ref c) none H'):∃ws:List V,is.map (λi=>d[i]?)=ws.map (λw=>some (some w))/\tQ K H0 Y B j d H λus H1=>Ig K pg (ws++us) H1 Q E:=by
 obtain ⟨S,T,δ,P,rfl,hS,hB,hA,t,kk⟩:=h
 unfold Ss at t
 split at t
 case h_2=>exact t.elim
 rename_i h3 h2 q0
 obtain ⟨W,t⟩:=t
 have U:S.map Ent.x=δ.sl:=hS
 obtain ⟨A,R0,a1,a2,a3,a4,a5⟩:=Sf (K:=K) (S:=S) (U.symm▸q0)
 have G:=Nk (Is:=A) (by rw[a1]; exact W)
 obtain ⟨ws,hw⟩:=A0 (Is:=A) G λe he=>(a5 hA).ok e (Ae _ he)
 have y:is.map (λi=>(vs S)[i]?)=ws.map (λw=>some (some w)):=by
  rw[a4]
  have:=congrArg (List.map some) hw
  rw[Dk,Dk] at this
  exact this
 refine ⟨ws,y,S,T,δ,_,rfl,hS,hB,hA,t,λxs k u us s H' e1 e2 ex eu h0 p=>?_⟩
 subst ex
 unfold vJ at p
 split at p
 case h_2=>exact p.elim
 rename_i ds ys tl q1 q2
 obtain ⟨np,io,p⟩:=p
 have N:s.map Ent.x=k.sl:=e2
 obtain ⟨Is,R,b1,b2,b3,b4,b5⟩:=Sf (K:=K) (S:=s) (N.symm▸q2)
 have D:=Nk (Is:=Is) (by rw[b1]; exact io)
 have hM:At K H0 Y k.n (Is++(R++(u++T))) H':=b5 h0
 have C:At K H0 Y k.n ((Is++u)++(R++T)) H':=hM.perm (by
  rw[Az]
  refine Jg Is ?_
  rw[<- Az,<- Az]
  exact Ej.append_right T)
 have hO:At K H0 Y k.n (Is++(R++T)) H':=C.sub ((Ie Is u).append (Bm _))
 have sp:=Bs.mp C.sep
 have J:∀e∈Is++u,Lr e.x=false:=λe he=>by
  rcases Ar.mp he with he | he
  ·rcases Rk (D e he) with z | ⟨κ,z⟩ <;> rw[z] <;> rfl
  ·exact Sh np e he
 have I:Is.map Ent.v=ws.map some:=by
  have z:Is.map (λe=>some e.v)=ws.map (λw=>some (some w)):=by rw[<- b4,e1]; exact y
  have z2:(Is.map Ent.v).map some=(ws.map some).map some:=by rw[Dk,Dk]; exact z
  exact (Yr λa b h=>Br h).mp z2
 have len:Is.length=is.length:=by
  have:=congrArg Ei b4
  rw[Af,Af] at this
  exact this.symm
 have l:∀{M:List Ent},M.map Ent.v=Is.map Ent.v->vs (Pp R is M)=vs S/\M.length=is.length:=λ{M} hv=>by
  have hl:M.length=Is.length:=by
   have:=congrArg Ei hv
   rw[Af,Af] at this
   exact this
  refine ⟨?_,hl.trans len⟩
  rw[u5,b3,e1]
  rw[b3,b4]
  have:=congrArg (List.map some) hv
  rw[Dk,Dk] at this
  exact this.symm
 refine ⟨Is,u,(R++T).flatMap cells,k.n,ds,_,_,by rw[Ay,I,eu,Ay],λe he=>C.ok e (Ae _ he),sp.1,D,q1,λa ha=>?_,by rw[b1]; exact p,λx zs n' v F M m r hn X mx O=>?_,λc zs n' M m r hn X mx O=>?_⟩
 ·obtain ⟨g,hg,hc⟩:=Gd.mp ha
  refine ⟨λz=>?_,λe he=>(sp.2.2 e he g hg).2 (.inl (J e he)) a hc⟩
  obtain ⟨o,q⟩:=(C.ok g (Ag _ hg)).dom a (Dm g a hc)
  rw[q] at z; cases z
 ·have Z:=At.inout hO D O hn
  obtain ⟨pv,L⟩:=l X
  refine kk x ⟨Rv tl is zs,n'⟩ v F (Pp R is M) m pv ?_ (jK L (Z.perm ?_)) r
  ·show (Pp R is M).map Ent.x=_
   rw[uE,b2,mx]
  ·rw[Az]
   exact Jg M (show (⟨some v,x,F⟩::(R++T):List Ent).Perm (R++⟨some v,x,F⟩::T) from Cy.symm)
 ·have Z:=At.inout hO D O hn
  obtain ⟨pv,L⟩:=l X
  refine hE c ⟨Rv tl is zs,n'⟩ (Pp R is M) m r ?_ pv ((jK L Z).sub ((Bm _).append hB))
  show (Pp R is M).map Ent.x=_
  rw[uE,b2,mx]
end
section
variable{X:Cx}{H0:Hp}{Y:Addr->Prop}{B:List Ent}{st:Stmt}{Mi f:List Stmt}{e j c iter:Expr}{es:List Expr}{g:DE}{k:DA}{dt:DT}{o:DG}{l:DI}{t u db:DB}{pos:Pos}
theorem Ru(h:Wb X es k):PA X es (tQ X.K H0 Y B k):=PA.imp h λd H Q ⟨S,T,a,P,c,b,_,z⟩=>⟨H0,Y,S,T,a,P,c,b,z⟩
theorem KP(h:oV X st db):PS X st (jM X.K H0 Y B db):=PS.impD h λD e H ⟨S,T,c,P,d,a,b,_,z⟩=>⟨H0,Y,S,T,c,P,d,a,b,z⟩
theorem Qu(h:Uq X Mi db):Uo X Mi (jM X.K H0 Y B db):=Uo.impD h λD e H ⟨S,T,c,P,d,a,b,_,z⟩=>⟨H0,Y,S,T,c,P,d,a,b,z⟩
theorem bG(h:∀H0 Y,PE X e (pA X.K H0 Y [] g)):Fg X e g:=λa s c H Q I q=>by
 obtain ⟨H0,Y,S,T,d,P,f,b,z⟩:=q
 exact h H0 Y a s c H Q I ⟨S,T,d,P,f,b,List.nil_sublist T,z⟩
theorem Lo(h:PS X st (jM X.K H0 Y B t)):Uo X [st] (jM X.K H0 Y B t):=Ni h
theorem Em(j:PS X st (jM X.K H0 Y B t))(n:Uo X Mi (jM X.K H0 Y B u)):Uo X (st::Mi) (jM X.K H0 Y B (U4 t u)):=by
 refine Uo.impD (Ja j n) λD s H h=>?_
 obtain ⟨S,T,o,P,rfl,l,e,c,r,m,q,f,d,g⟩:=h
 exact ⟨S,T,o,_,rfl,l,e,c,r,m,λa k v i b p=>⟨k,T,a,P,rfl,i,e,c,b,p,q,f,d,g⟩,f,d,g⟩
theorem Rx{a b:List Stmt}(q:fH X c dt)(r:Uo X a (jM X.K H0 Y B t))(hb:Uo X b (jM X.K H0 Y B u)):PS X (.If c a b pos) (jM X.K H0 Y B (JD dt t u)):=by
 refine PS.impD (uR q r hb) λD y H h=>?_
 obtain ⟨S,T,v,P,rfl,w,n,o,x,s,j,i,l,m⟩:=h
 refine ⟨H0,Y,S,T,v,_,rfl,w,x,s,λb d f z g k e p=>?_⟩
 cases b with
 | true=>exact oF ⟨f,T,d,P,g,k,n,o,e,p,j,i,l,m⟩
 | false=>exact nU ⟨f,T,d,P,g,k,n,o,e,p,j,i,l,m⟩
theorem Kn(d:PE X e (pA X.K H0 Y B g))(i:El e none pos.line X.env=pure false:=by rfl):PS X (.Expr e pos) (jM X.K H0 Y B (oN g)):=by
 refine PS.impD (Wo d i) λD s H h=>?_
 obtain ⟨S,T,n,P,rfl,o,y,r,q,m,k,t,u,w⟩:=h
 refine ⟨S,T,n,_,rfl,o,r,q,m,λx a v F f c j l b p=>?_⟩
 show D.nx (vs S) c
 rw[<- j]
 exact k a f c l b.drop p
theorem Qq(c:PE X e (pA X.K H0 Y B g)):PS X (.Return (some e) pos) (jM X.K H0 Y B (CF g)):=by
 refine PS.impD (Xt c) λD s H h=>?_
 obtain ⟨S,T,l,P,rfl,j,t,i,o,k,w,m,r,q⟩:=h
 exact ⟨S,T,l,_,rfl,j,i,o,k,λx b v F f n u d a p=>m x b v F f n d a p⟩
theorem kA(hp:aE (model X.prog X.w) X.A X.env X.xe)(hc:X.calm=true)(hi:sC X j iter l)(hg:Y2 X j o)(hb:Uo X f (jM X.K H0 Y B db))(O:∀x,Cr iter X.env x=pure x:=by intro _; rfl):PS X (.For j iter f [] pos) (jM X.K H0 Y B (T8 l o db)):=by
 refine PS.impD (qF hp hc hi hg hb O) λD M H h=>?_
 obtain ⟨S,T,p,P,rfl,hS,hT,hB,hA,hd,k1,k2,k3,k4⟩:=h
 refine ⟨H0,Y,S,T,p,_,rfl,hS,hA,hd,λm C Q J k S1 H1 e1 e2 U it hz p1=>?_⟩
 obtain ⟨rfl,I,h0,O,hf⟩:=p1
 rw[<- e1]
 have V:∀e∈k++T,Lr e.x=false:=λe he=>by
  rcases Ar.mp he with he | he
  ·exact it.np rfl e he
  ·exact hT e he
 refine ⟨λi q M H=>q=C.length - i/\i<=C.length/\∃S p,vs S=M/\Sl S p/\At X.K H0 Y p.n (S++(k++T)) H/\I i p,⟨C.length,by simp,Cw _,S1,Q,rfl,e2,U,h0⟩,?_⟩
 (intro i q M H q_; obtain ⟨rfl,hi,S2,b,rfl,W,u,Z⟩ := q_)
 have a:∀e∈k,Fx X.K H b.n e:=λe he=>u.ok e (Ag _ (Ae _ he))
 by_cases s:i<C.length
 ·refine .inr ⟨it.go H b.n i a s,λE L=>∃S p,vs S=E/\Sl S p/\At X.K H0 Y p.n (S++(k++T)) L/\I (i+1) p,λE L q=>⟨C.length - (i+1),by omega,rfl,s,q⟩,λx L y=>?_⟩
  obtain ⟨s1,d,F,h1,h2,h3⟩:=it.yld H b.n i x L a s y
  refine ⟨H0,Y,S2,k++T,b,.dat .sh d,F,_,rfl,W,u.item s1 h2 h3 it.md it.hd it.np,O i d b h1 Z,λR S3 H3 e4 N p3=>?_⟩
  refine ⟨S3,k++T,R,_,rfl,e4,V,hB.trans (Bv _ _),N,p3,λc t G r g z=>⟨t,c,rfl,r,g,z⟩,λx c v F t G r g z=>k2 x c v F t G r g.dropH z,
   λc t G r g z=>k1 c t G r g.dropL z,λc t G r g z=>⟨t,c,rfl,r,g,z⟩⟩
 ·have e:i=C.length:=by omega
  subst e
  exact .inl ⟨it.stop H b.n a,k1 b S2 H W u.dropL (hf b Z)⟩
end
def jP(b:PX)(f:Addr->DS->Prop)(xs:List DV)(a:DS)(P:DV->DS->Prop):Prop:=match datas xs with
 | some e=>b e (λd=>P (.dat .ow d) a) λc=>f c a
 | none=>False
def jJ(f:PX)(c:Addr->DS->Prop)(d:DA):DE:=λe P=>d e λb a=>jP f c b a P
def Nv(K:PySem.W.Frag)(C:Addr)(m:Str)(b:Kind):Prop:=∀H F,b.P K H F->∃c fs,H b.a=some (.ins C c fs)/\fs.lookup m=none
def Mb(K:PySem.W.Frag)(C:Addr)(m:Str)(i:Nat)(pg:Pr)(b:Addr->DS->Prop)(c:DA):DE:=λa P=>match a.sl[i]? with
 | some (.obj κ)=>Nv K C m κ/\Ss [i] pg b c a P
 | _=>False
abbrev BD(X:Cx)(H0:Hp)(Y:Addr->Prop)(B:List Ent)(e:Addr->DS->Prop)(E:XK):Prop:=∀c a d b,e c a->Sl d a->At X.K H0 Y a.n (d++B) b->E (.ref c) none b
section
variable{K:PySem.W.Frag}{H0 H:Hp}{Y:Addr->Prop}{B:List Ent}{E:XK}{b:L2.St}{Q:VK}{i:Nat}{C:Addr}{m:Str}{pg:Pr}{j:PX}{f:Addr->DS->Prop}{g:DA}
theorem xZ(h:pA K H0 Y B (jJ j f g) b H Q)(U:∀c i m H',f c i->Sl m i->vs m=b->At K H0 Y i.n (m++B) H'->E (.ref c) none H'):tQ K H0 Y B g b H λus C=>fE K j us C Q E:=by
 obtain ⟨S,T,L,P,rfl,M,z,O,G,J⟩:=h
 refine ⟨S,T,L,_,rfl,M,z,O,G,λV i t us m H' u w ex R k p=>?_⟩
 subst ex
 unfold jP at p
 cases q:datas (t.map Ent.x) with
 | none=>rw[q] at p; exact p.elim
 | some I =>
  rw[q] at p
  refine ⟨t,i.n,I,_,_,R,λe A=>k.ok e (Ag _ (Ae _ A)),q,p,λv d F l r rd N y s=>?_,λc l D s=>?_⟩
  ·exact J _ i v F m l u w (((k.dropL.grow s (Au _)).pushF rd N (λa o=>k.dropL.free (y a o)) (λa o=>k.new0 (y a o))).tomid) r
  ·exact U c i m l D w u ((k.dropL.grow s (Au _)).sub ((Bm _).append z))
theorem cT(h:pA K H0 Y B (Mb K C m i pg f g) b H Q)(hE:∀c d o H',f c d->Sl o d->vs o=b->At K H0 Y d.n (o++B) H'->E (.ref c) none H'):Kc i b H λx t=>∃a r fs,x=.ref a/\t a=some (.ins C r fs)/\fs.lookup m=none/\tQ K H0 Y B g b t λus I=>Ig K pg (x::us) I Q E:=by
 obtain ⟨S,T,N,P,rfl,y,Z,z,e,M⟩:=h
 unfold Mb at e
 split at e
 case h_2=>exact e.elim
 rename_i k hi
 obtain ⟨G,e⟩:=e
 obtain ⟨j,u,D⟩:=Hn y hi
 have L:j∈S:=Bf u
 obtain ⟨v,x,F⟩:=j
 have l:x=.obj k:=D
 subst l
 obtain ⟨R,W⟩:=z.ok _ (Ae _ L)
 have q:v=some (.ref k.a):=R
 subst q
 obtain ⟨r,fs,V,U⟩:=G H F W
 obtain ⟨J,s,O⟩:=bI (is:=[i]) ⟨S,T,N,P,rfl,y,Z,z,e,M⟩ hE
 have A:(vs S)[i]? = some (some (.ref k.a)):=Lv u
 cases J with
 | nil=>cases s
 | cons w p =>
  cases p with
  | cons w2 X=>cases (Fp s).2
  | nil =>
   have : (vs S)[i]? = some (some w):=(Fp s).1
   rw[A] at this
   cases this
   exact ⟨_,A,k.a,r,fs,rfl,V,U,O⟩
theorem CK{R:List V->Hp->Prop}(h:tQ K H0 Y B pW b H R):R [] H:=by
 obtain ⟨S,T,e,P,rfl,a,g,f,c,d⟩:=h
 exact d [] e [] [] S H rfl a rfl rfl f c
end
section
variable{X:Cx}{H0:Hp}{Y:Addr->Prop}{B:List Ent}{CX:eL}{k:Nat}{f:Addr}{d:Bj}{ps:List Str}{pg:Pr}{l:PX}{j:Addr->DS->Prop}{E:XK}{x m:Str}{p pos b:Pos}{e o:Expr}{es:List Expr}{g:DA}{is:List Nat}{i:Nat}{C:Addr}
theorem xT(G:BD X H0 Y B j E)(F:FnOk X.prog X.w X.K X.mg X.base CX k f d ps (Ig X.K pg))(n:Room k X.A)(r:Gl X x)(t:X.mg x=some (.ref f))(o:PySem.W.keepIn X.K (.ref f)=true)(hb:Binds X.K d ps [])(C:Fu CX X E)(s:∀H0 Y B,PA X (e::es) (Xn is (tQ X.K H0 Y B g)))(a:(x == ("__debug__" : Str))=false:=by decide)(l:An (e::es) X.env=(false,eval e X.env)::An es X.env:=by rfl)(i:(Cq pos (An es X.env)).any (·.1)=false:=by rfl):PE X (.Call (.Name x p) (e::es) [] pos) (pA X.K H0 Y B (Ss is pg j g)):=by
 refine PE.imp (Os F n r t o hb .nil C (s H0 Y B) a l i) λI H Q h=>?_
 obtain ⟨J,y,u⟩:=bI (E:=E) h λc b m v D z _ q=>G c b m v D z q
 refine aV y ?_
 simpa only [Bo] using u
theorem Js(F:FnOk X.prog X.w X.K X.mg X.base CX k f d ps (Ig X.K pg))(j:Room k X.A)(n:Gl X x)(i:X.mg x=some (.ref f))(l:PySem.W.keepIn X.K (.ref f)=true)(hb:Binds X.K d ps [])(m:Fu CX X E)(h:∀H0 Y B,PA X (e::es) (Xn is (tQ X.K H0 Y B g)))(a:(x == ("__debug__" : Str))=false:=by decide)(c:An (e::es) X.env=(false,eval e X.env)::An es X.env:=by rfl)(b:(Cq pos (An es X.env)).any (·.1)=false:=by rfl):Fg X (.Call (.Name x p) (e::es) [] pos) (Ss is pg (λ_ _=>False) g):=bG λH0 Y=>xT (λ_ _ _ _ z=>z.elim) F j n i l hb m h a c b
theorem Ky(J:BD X H0 Y B j E)(F:FnOk X.prog X.w X.K X.mg X.base CX k f d ps (fE X.K l))(q:Room k X.A)(u:Gl X x)(y:X.mg x=some (.ref f))(s:PySem.W.keepIn X.K (.ref f)=true)(hb:Binds X.K d ps [])(G:Fu CX X E)(v:Wb X (e::es) g)(a:(x == ("__debug__" : Str))=false:=by decide)(m:An (e::es) X.env=(false,eval e X.env)::An es X.env:=by rfl)(i:(Cq pos (An es X.env)).any (·.1)=false:=by rfl):PE X (.Call (.Name x p) (e::es) [] pos) (pA X.K H0 Y B (jJ l j g)):=by
 refine PE.imp (Os F q u y s hb .nil G (Ru (H0:=H0) (Y:=Y) (B:=B) v) a m i) λr H Q h=>?_
 have z:=xZ (E:=E) h λc b n C I D _ t=>J c b n C I D t
 show tQ X.K H0 Y B g r H λL o=>fE X.K l (L++[]) o Q E
 simpa only [Bo] using z
theorem gX{pl:Sem Bool}(M:BD X H0 Y B j E)(x:PE X o (Kc i))(c:Cls X.K C)(z:Meth X.K C m f)(F:FnOk X.prog X.w X.K X.mg X.base CX k f d ps (Ig X.K pg))(u:Room k X.A)(hb:Binds X.K d ps [])(L:Fu CX X E)
  (y:Wb X (e::es) g)
  (q:An (e::es) X.env=(false,eval e X.env)::An es X.env:=by rfl) (s:(Cq pos (An es X.env)).any (·.1)=false:=by rfl)
  (N:eval (.Call (.Attribute o m b) (e::es) [] pos) X.env=(do
   let ov <- eval o X.env
   Gp b.atName
   let (f,first) <- Gf [ov] (Hr ov m pl)
   Lc pos f first (Cq pos (An (e::es) X.env)) (Hu pos (Fd [] X.env))):=by rfl) :
  PE X (.Call (.Attribute o m b) (e::es) [] pos) (pA X.K H0 Y B (Mb X.K C m i pg j g)):=by
 refine PE.imp (R5 x c z F u hb .nil L (Ru (H0:=H0) (Y:=Y) (B:=B) y) q s N) λO H Q h=>?_
 obtain ⟨v,G,a,J,fs,r,n,l,D⟩:=cT (E:=E) h λc p t I r n _ l=>M c p t I r n l
 refine ⟨v,G,a,J,fs,r,n,l,?_⟩
 simpa only [Bo] using D
theorem dP{pl:Sem Bool}(u:BD X H0 Y B j E)(t:PE X o (Kc i))(c:Cls X.K C)(r:Meth X.K C m f)(F:FnOk X.prog X.w X.K X.mg X.base CX k f d ps (Ig X.K pg))(s:Room k X.A)(hb:Binds X.K d ps [])(y:Fu CX X E)
  (x:eval (.Call (.Attribute o m b) [] [] pos) X.env=(do
   let ov <- eval o X.env
   Gp b.atName
   let (f,first) <- Gf [ov] (Hr ov m pl)
   Lc pos f first (Cq pos (An [] X.env)) (Hu pos (Fd [] X.env))):=by rfl) :
  PE X (.Call (.Attribute o m b) [] [] pos) (pA X.K H0 Y B (Mb X.K C m i pg j pW)):=by
 refine PE.imp (zE t c r F s hb .nil y x) λI H Q h=>?_
 obtain ⟨v,D,a,p,fs,e,g,n,z⟩:=cT (E:=E) h λc l q G e g _ n=>u c l q G e g n
 refine ⟨v,D,a,p,fs,e,g,n,?_⟩
 exact CK z
theorem w5{pl:Sem Bool}(p:PE X o (Kc i))(c:Cls X.K C)(l:Meth X.K C m f)(F:FnOk X.prog X.w X.K X.mg X.base CX k f d ps (Ig X.K pg))(n:Room k X.A)(hb:Binds X.K d ps [])(r:Fu CX X E)
  (j:Wb X (e::es) g)
  (h:An (e::es) X.env=(false,eval e X.env)::An es X.env:=by rfl) (a:(Cq pos (An es X.env)).any (·.1)=false:=by rfl)
  (q:eval (.Call (.Attribute o m b) (e::es) [] pos) X.env=(do
   let ov <- eval o X.env
   Gp b.atName
   let (f,first) <- Gf [ov] (Hr ov m pl)
   Lc pos f first (Cq pos (An (e::es) X.env)) (Hu pos (Fd [] X.env))):=by rfl) :
  Fg X (.Call (.Attribute o m b) (e::es) [] pos) (Mb X.K C m i pg (λ_ _=>False) g):=bG λH0 Y=>gX (λ_ _ _ _ z=>z.elim) p c l F n hb r j h a q
theorem wJ{pl:Sem Bool}(g:PE X o (Kc i))(c:Cls X.K C)(a:Meth X.K C m f)(F:FnOk X.prog X.w X.K X.mg X.base CX k f d ps (Ig X.K pg))(e:Room k X.A)(hb:Binds X.K d ps [])(j:Fu CX X E)
  (h:eval (.Call (.Attribute o m b) [] [] pos) X.env=(do
   let ov <- eval o X.env
   Gp b.atName
   let (f,first) <- Gf [ov] (Hr ov m pl)
   Lc pos f first (Cq pos (An [] X.env)) (Hu pos (Fd [] X.env))):=by rfl) :
  Fg X (.Call (.Attribute o m b) [] [] pos) (Mb X.K C m i pg (λ_ _=>False) pW):=bG λH0 Y=>dP (λ_ _ _ _ z=>z.elim) g c a F e hb j h
end
def Pg:List DV->Bool
 | []=>false
 | .drw::_=>true
 | _::xs=>Pg xs
theorem gU:∀{Is:List Ent},Pg (Is.map Ent.x)=false->∀a,¬ XG Is a
 | [],_,a,⟨e,he,_⟩=>nomatch he
 | ⟨v,x,F⟩::Is,h,a,⟨e,he,hd,ha⟩=>by
  rw[Ap] at h
  have c:Px x=false/\Pg (Is.map Ent.x)=false:=by
   cases x <;> first | exact ⟨rfl,h⟩ | cases h
  rcases Ai.mp he with rfl | he
  ·have b:Px x=true:=hd
   rw[c.1] at b; cases b
  ·exact gU c.2 a ⟨e,he,hd,ha⟩
def uH(ys:List DV):DV->Prop
 | .dat _ d=>Pg ys=true->Hm d=true
 | .obj _=>True
 | _=>False
def xV(ys:List DV)(n:Nat)(R:DV->List DV->Nat->Prop):DEnds where
 nx:=λa=>n<=a.n/\Sy ys (a.sl.take ys.length)/\R (.dat .ow .none) (a.sl.take ys.length) a.n
 rt:=λx a=>n<=a.n/\Sy ys (a.sl.take ys.length)/\uH ys x/\R x (a.sl.take ys.length) a.n
def IZ(ys:List DV)(n:Nat)(b:Addr->List DV->Nat->Prop)(c:Addr)(a:DS):Prop:=n<=a.n/\Sy ys (a.sl.take ys.length)/\b c (a.sl.take ys.length) a.n
section
variable{P:Bk}{w:World}{K:PySem.W.Frag}{mg:Str->Option Value}{base:Heap}
theorem EC{Is:List Ent}{H H0:Hp}{n:Nat}{E:List Ent}{x:DV}{v:V}{F:List Addr}(i:At K H0 (XG Is) n E H)(l:⟨some v,x,F⟩∈E)(h:uH (Is.map Ent.x) x):∀a,XG Is a->a∉F:=λa b=>by
 obtain ⟨_,c,k,f,g,_⟩:=i.xd a b
 have ok:=i.ok _ l
 cases x with
 | dat m d =>
  obtain ⟨u,e,rd,_⟩:=ok
  refine RdF.nodr g rd (h ?_)
  cases q:Pg (Is.map Ent.x) with
  | true=>rfl
  | false=>exact absurd b (gU q a)
 | obj j=>exact j.nd ok.2 g
 | _=>exact h.elim
theorem sU{pg:Pr}{p:Nat}(h:∀ys ds n R a,pg ys ds n R a->ys.length+ds.length=p):∀vs H Q E,Ig K pg vs H Q E->vs.length=p:=λm H Q E z=>by
 obtain ⟨i,j,C,n,ds,R,a,c,ok,k,g,q,l,f,_⟩:=z
 have d:=h _ ds n R a f
 have b:=Hj q
 rw[Af] at b
 have e:=congrArg Ei c
 rw[Af,Af,Bn] at e
 rw[Af] at d
 omega
theorem uU{pg:Pr}{N ps:List Str}{us:List V}{H:Hp}{Q:VK}{E:XK}{db:(Addr->DS->Prop)->DB}(z:Ig K pg us H Q E)(h:∀ys ds n R k,pg ys ds n R k->ys.length+ds.length=ps.length/\db (IZ ys n k) (xV ys n R) ⟨ys++args0 ds (N.length - ps.length),n⟩):∃H0 Y B k,(∀c b i H',k c b->Sl i b->At K H0 Y b.n (i++B) H'->E (.ref c) none H')/\jM K H0 Y B (db k) { nx:=λ_ H'=>Q .non H',rt:=Q } (L2.start N us) H:=by
 obtain ⟨g,Ds,C,n,ds,R,k,S,ok,O,X,q,P,hp,L,T⟩:=z
 obtain ⟨l1,U⟩:=h _ ds n R k hp
 have W:=Hj q
 rw[Af] at W
 have l3:=congrArg Ei S
 rw[Af,Af,Bn] at l3
 rw[Af] at l1
 have o:∀e∈g,Fx K H n e:=λe y=>ok e (Ae _ y)
 have m:=(Bs.mp O).1
 have l:∀f∈[(⟨none,.grd H,C⟩ : Ent)],∀a,XG g a->a∉f.F:=λf hf a ⟨e,y,_,D⟩ J=>by
  rw[Aj.mp hf] at J
  exact (P a J).2 e (Ae _ y) D
 have G:∀{i:List Ent} {b:DS},Sl i b->(i.map Ent.x).take g.length=b.sl.take (g.map Ent.x).length:=λ{i b} e=>by
  rw[Af,show i.map Ent.x=b.sl from e]
 refine ⟨Oo g C H,XG g,[⟨none,.grd H,C⟩],IZ (g.map Ent.x) n k,λc b i H' j Z r=>?_,g++(Ds.map Sm++Fs (N.length - ps.length)),[⟨none,.grd H,C⟩],⟨g.map Ent.x++args0 ds (N.length - ps.length),n⟩,xV (g.map Ent.x) n R,?_,?_,λe z=>?_,Bm _,At.inout0 ok O X q P _,U,λb i H' A r p=>?_,λx b v F i H' A r p=>?_,λ_ _ _ _ _ p=>p.elim,λ_ _ _ _ _ p=>p.elim⟩
 ·obtain ⟨w,d,j⟩:=j
  rw[<- G Z] at d j
  obtain ⟨M,t,u,s⟩:=At.inout1 o m r d l
  exact T c _ b.n M H' (u▸j) w t rfl s
 ·unfold vs L2.start Fs
  rw[Ay,Ay,K4,Ks,<- Az,<- Ay,S,show us.length=ps.length by omega]
 ·unfold Sl args0 Fs
  rw[Ay,Ay,Py q,Ks]
 ·rw[Aj.mp z]; rfl
 ·obtain ⟨w,d,j⟩:=p
  rw[<- G A] at d j
  have I:At K (Oo g C H) (XG g) b.n (i++⟨some .non,.dat .ow .none,[]⟩::[⟨none,.grd H,C⟩]) H':=r.pushI .non
  obtain ⟨M,t,u,s⟩:=At.inout1 o m I d (λf hf=>by
   rcases Ai.mp hf with rfl | hf
   ·exact λ_ _ z=>nomatch z
   ·exact l f hf)
  exact L (.dat .ow .none) _ b.n .non [] M H' (u▸j) w t rfl (by rw[Az]; exact s)
 ·obtain ⟨w,d,D,j⟩:=p
  rw[<- G A] at d j
  obtain ⟨M,t,u,s⟩:=At.inout1 o m r d (λf hf=>by
   rcases Ai.mp hf with rfl | hf
   ·exact EC r (Ag _ Ab) D
   ·exact l f hf)
  exact L x _ b.n v F M H' (u▸j) w t rfl (by rw[Az]; exact s)
theorem Ue{x a:Str}{st:Stmt}{f:Addr}{g:Bj}{N ps:List Str}{k:Nat}{pg:Pr}{db:(Addr->DS->Prop)->DB}(F:Fun K x a st f g)(S:FnScope N ps (Bi st))(hb:∀(b:Value) (A:Cf) (outer:List Env) (s:Ak) (H:Hp) (E:XK) (H0:Hp) (Y:Addr->Prop) (B:List Ent) (d:Addr->DS->Prop),Room k (A.deeper (Fe a (Bi st) s.heap.objs.size f b))->(∀c e i H',d c e->Sl i e->At K H0 Y e.n (i++B) H'->E (.ref c) none H')->Uo (Kb (Iu P w) P w K mg base N a (Bi st) f b A outer s H E) (Gr st) (jM K H0 Y B (db d)))(h:∀ys ds n R d,pg ys ds n R d->ys.length+ds.length=ps.length/\db (IZ ys n d) (xV ys n R) ⟨ys++args0 ds (N.length - ps.length),n⟩):FnOk P w K mg base (Iu P w) (k+1) f g ps (Ig K pg):=by
 refine MR F S (sU λys ds n R d z=>(h ys ds n R d z).1) λb A outer s H o Q E j z=>?_
 obtain ⟨H0,Y,B,d,l,m⟩:=uU z h
 exact ⟨_,hb b A outer s H E H0 Y B d j l,m⟩
theorem We{x a:Str}{st:Stmt}{f:Addr}{d:Bj}{N ps:List Str}{k:Nat}{pg:Pr}{db:DB}(F:Fun K x a st f d)(S:FnScope N ps (Bi st))(hb:∀(b:Value) (A:Cf) (outer:List Env) (s:Ak) (H:Hp) (E:XK),Room k (A.deeper (Fe a (Bi st) s.heap.objs.size f b))->Uq (Kb Hq P w K mg base N a (Bi st) f b A outer s H E).nox (Gr st) db)(h:∀ys ds n R c,pg ys ds n R c->ys.length+ds.length=ps.length/\db (xV ys n R) ⟨ys++args0 ds (N.length - ps.length),n⟩):FnOk P w K mg base Hq (k+1) f d ps (Ig K pg):=by
 refine F.ok S (sU λys ds n R c z=>(h ys ds n R c z).1) λb A outer s H l Q E e z=>?_
 obtain ⟨i,Y,B,c,j,g⟩:=uU (db:=λ_=>db) z h
 exact ⟨_,Qu (hb b A outer s H E e),g⟩
end
def tM(b:Addr->DS->Prop)(C:Addr):DB:=λ_ a=>b C a
section
variable{P:Bk}{w:World}{K:PySem.W.Frag}{mg:Str->Option Value}{base:Heap}{N:List Str}{b:Str}{a:Scope}{f:Addr}{d:Value}{A:Cf}{outer:List Env}{s:Ak}{H:Hp}{E:XK}{H0:Hp}{Y:Addr->Prop}{B:List Ent}
theorem Yq{k:Addr->DS->Prop}{C:Addr}{x:Str}{np g pos:Pos}{t:Str}{l:Pos}{j:Nat}(u:∀c e i H',k c e->Sl i e->At K H0 Y e.n (i++B) H'->E (.ref c) none H')(y:Gl (Kb (Iu P w) P w K mg base N b a f d A outer s H E) x)(r:mg x=some (.ref C))(q:PySem.W.excIn K C Ze "ValueError.__new__" = true)(hd:(x == ("__debug__" : Str))=false:=by decide):PS (Kb (Iu P w) P w K mg base N b a f d A outer s H E) (.Raise (some (.Call (.Name x np) [.Constant (.str t) j l] [] g)) none pos) (jM K H0 Y B (tM k C)):=by
 refine PS.impD (Wr y r q (Do Xz Ir) hd) λD F p h=>?_
 obtain ⟨S,T,v,Q,rfl,o,G,m,z,hd,_⟩:=h
 exact ⟨(by show 1<=Ba; decide),u C v S p hd o (z.sub ((Bm _).append m))⟩
end
def cM(C x g:Addr):Kind where
 a:=x
 c:=2
 fl:=λ_=>none
 P:=λK H F=>F=[x,g]/\x≠g/\H x=some (.ins C g [])/\H g=some (.own x)
 kp:=λ⟨e,n,d,f⟩ k=>⟨e,n,k _ _ d (.inl (by rw[e]; exact Ab)),k _ _ f (.inl (by rw[e]; exact Ah _ Ab))⟩
 dom:=λ⟨e,n,d,f⟩ b hb=>by
  rw[e] at hb
  rcases Ai.mp hb with rfl | hb
  ·exact ⟨_,d⟩
  ·rw[Aj.mp hb]; exact ⟨_,f⟩
 ns:=λ⟨e,n,d,f⟩ b hb o q s=>by
  rw[e] at hb
  rcases Ai.mp hb with rfl | hb
  ·rw[d] at q; cases q
   rcases s with ⟨_,s⟩ | ⟨_,_,s⟩ <;> cases s
  ·rw[Aj.mp hb,f] at q; cases q
   rcases s with ⟨_,s⟩ | ⟨_,_,s⟩ <;> cases s
 nd:=λ⟨e,n,d,f⟩ h hb=>by
  rw[e] at hb
  rcases Ai.mp hb with rfl | hb
  ·rw[show _=some (HO.lst _) from h] at d; cases d
  ·rw[<- Aj.mp hb,show _=some (HO.lst _) from h] at f; cases f
def uS(C:Addr)(pg:Pr)(g:Addr->DS->Prop)(xs:List DV)(a:DS)(P:DV->DS->Prop):Prop:=match datas xs with
 | some f=>noPk xs=true/\∀x e,pg [.obj (cM C x e)] f a.n (λy h b=>y=.dat .ow .none/\∃d,h=[.obj d]/\P (.obj d) ⟨a.sl,b⟩) λc _ b=>g c ⟨a.sl,b⟩
 | none=>False
def dO(C:Addr)(pg:Pr)(c:Addr->DS->Prop)(d:DA):DE:=λe P=>d e λb a=>uS C pg c b a P
section
variable{K:PySem.W.Frag}{H0 H:Hp}{Y:Addr->Prop}{B:List Ent}{E:XK}{i:L2.St}{Q:VK}{C:Addr}{pg:Pr}{j:Addr->DS->Prop}{k:DA}
theorem oK(h:pA K H0 Y B (dO C pg j k) i H Q)(hE:∀c s t H',j c s->Sl t s->vs t=i->At K H0 Y s.n (t++B) H'->E (.ref c) none H'):tQ K H0 Y B k i H λus X=>∀x l,X x=none->X l=none->l≠x->Ig K pg (.ref x::us) (upd (upd X l (.own x)) x (.ins C l [])) (λv N=>v=.non/\Q (.ref x) N) E:=by
 obtain ⟨S,T,δ,P,rfl,hS,hB,hA,hd,kk⟩:=h
 refine ⟨S,T,δ,_,rfl,hS,hB,hA,hd,λxs s A us t H' e1 e2 ex eu w p=>?_⟩
 subst ex
 unfold uS at p
 intro x l hx L O
 cases q:datas (A.map Ent.x) with
 | none=>rw[q] at p; exact p.elim
 | some ds =>
  rw[q] at p
  obtain ⟨np,p⟩:=p
  have s1:Lu H' (upd (upd H' l (.own x)) x (.ins C l [])):=λb o e=>by
   rw[Cn (Ea e hx),Cn (Ea e L)]
   exact e
  have h1:=w.grow s1 (Au _)
  have g1:(upd (upd H' l (.own x)) x (.ins C l [])) x=some (.ins C l []):=Cg
  have g2:(upd (upd H' l (.own x)) x (.ins C l [])) l=some (.own x):=by rw[Cn O]; exact Cg
  generalize hH:upd (upd H' l (.own x)) x (.ins C l [])=N at *
  have V:∀f∈t++(A++T),x∉f.F/\l∉f.F:=λf I=>⟨w.free hx f I,w.free L f I⟩
  let u:Ent:=⟨some (.ref x),.obj (cM C x l),[x,l]⟩
  have ce:∀a∈cells u,a=x\/a=l:=λa D=>by
   have : a∈[x,l]:=Dm u a D
   rcases Ai.mp this with z | z
   ·exact .inl z
   ·exact .inr (Aj.mp z)
  have h2:At K H0 Y s.n (u::(t++(A++T))) N:=h1.push (e:=u) ⟨rfl,rfl,(λz=>O z.symm),g1,g2⟩ (λf I=>⟨λ_ a D=>by
    rcases ce a D with rfl | rfl
    ·exact (V f I).1
    ·exact (V f I).2,λ_ a D z=>by
    have z':a∈[x,l]:=z
    have J:=Dm f a D
    rcases Ai.mp z' with rfl | z'
    ·exact (V f I).1 J
    ·rw[Aj.mp z'] at J; exact (V f I).2 J⟩) (λa D=>by
    rcases ce a D with rfl | rfl
    ·exact .inl (w.new0 hx)
    ·exact .inl (w.new0 L))
  have pm:(t++(A++T)).Perm (A++(t++T)):=by
   rw[<- Az,<- Az]
   exact Ej.append_right T
  have R:At K H0 Y s.n (([u]++A)++(t++T)) N:=h2.perm (pm.cons u)
  have hO:At K H0 Y s.n ([u]++(t++T)) N:=R.sub ((Ie [u] A).append (Bm _))
  have sp:=Bs.mp R.sep
  have iE:∀e∈[u],Zp e.x=true:=λe he=>by rw[Aj.mp he]; rfl
  have h0:∀e∈[u]++A,Lr e.x=false:=λe he=>by
   rcases Ar.mp he with he | he
   ·rw[Aj.mp he]; rfl
   ·exact Sh np e he
  refine ⟨[u],A,(t++T).flatMap cells,s.n,ds,_,_,by rw[Ay,eu]; rfl,λe he=>R.ok e (Ae _ he),sp.1,iE,q,λa D=>?_,p x l,λy zs n' v F M G r hn W mx hG=>?_,λc zs n' M G r hn W mx hG=>?_⟩
  ·obtain ⟨g,hg,hc⟩:=Gd.mp D
   refine ⟨λz=>?_,λe he=>(sp.2.2 e he g hg).2 (.inl (h0 e he)) a hc⟩
   obtain ⟨o,q⟩:=(R.ok g (Ag _ hg)).dom a (Dm g a hc)
   rw[q] at z; cases z
  ·have U:=At.inout hO iE hG hn
   obtain ⟨ey,κ,ez,pp⟩:=r
   subst ey ez
   cases M with
   | nil=>cases W
   | cons m M' =>
    cases M' with
    | cons m2 M2=>cases (Fp W).2
    | nil =>
     obtain ⟨Z,h5,mF⟩:=m
     have e3:Z=some (.ref x):=(Fp W).1
     have e4:h5=.obj κ:=(Fp mx).1
     subst e3 e4
     have rn:=U.told (v:=v) (m:=.ow) (d:=.none) (F:=F) (Ae _ (Ag _ Ab))
     obtain ⟨rfl,rfl⟩:=rn.non_inv
     refine ⟨rfl,kk (.obj κ) ⟨s.sl,n'⟩ (.ref x) mF t G e1 e2 ?_ pp⟩
     have h4:=U.sub (show (([(⟨some (.ref x),.obj κ,mF⟩ : Ent)])++(t++T)).Sublist _ from (Ie _ _).append (Bm _))
     exact At.tomid (S:=t) (T:=T) h4
  ·have U:=At.inout hO iE hG hn
   exact hE c ⟨s.sl,n'⟩ t G r e2 e1 ((U.sub (Bv _ _)).sub ((Bm _).append hB))
end
section
variable{X:Cx}{H0:Hp}{Y:Addr->Prop}{B:List Ent}{CX:eL}{k:Nat}{f:Addr}{b:Bj}{ps:List Str}{pg:Pr}{d:Addr->DS->Prop}{E:XK}{x:Str}{p pos:Pos}{e:Expr}{es:List Expr}{a:DA}{C:Addr}
theorem E4(J:BD X H0 Y B d E)(M:Mk X.K C f)(F:FnOk X.prog X.w X.K X.mg X.base CX k f b ps (Ig X.K pg))(q:Room (k+1) X.A)(t:Gl X x)(v:X.mg x=some (.ref C))(hb:Binds X.K b ps [])(G:Fu CX X E)(u:Wb X (e::es) a)(g:(x == ("__debug__" : Str))=false:=by decide)(n:An (e::es) X.env=(false,eval e X.env)::An es X.env:=by rfl)(j:(Cq pos (An es X.env)).any (·.1)=false:=by rfl):PE X (.Call (.Name x p) (e::es) [] pos) (pA X.K H0 Y B (dO C pg d a)):=by
 refine PE.imp (P7 M F q t v hb .nil G (Ru (H0:=H0) (Y:=Y) (B:=B) u) g n j) λr H Q h=>?_
 have y:=oK (E:=E) h λc i o z I D _ s=>J c i o z I D s
 show tQ X.K H0 Y B a r H λL l=>∀x m,l x=none->l m=none->m≠x->Ig X.K pg (.ref x::(L++[])) _ _ E
 simpa only [Bo] using y
theorem V8(M:Mk X.K C f)(F:FnOk X.prog X.w X.K X.mg X.base CX k f b ps (Ig X.K pg))(i:Room (k+1) X.A)(m:Gl X x)(j:X.mg x=some (.ref C))(hb:Binds X.K b ps [])(l:Fu CX X E)(h:Wb X (e::es) a)(c:(x == ("__debug__" : Str))=false:=by decide)(g:An (e::es) X.env=(false,eval e X.env)::An es X.env:=by rfl)(d:(Cq pos (An es X.env)).any (·.1)=false:=by rfl):Fg X (.Call (.Name x p) (e::es) [] pos) (dO C pg (λ_ _=>False) a):=bG λH0 Y=>E4 (λ_ _ _ _ z=>z.elim) M F i m j hb l h c g d
end
def tR(i:Nat):DG:=λx a P=>match x with
 | .obj b=>P ⟨a.sl.set i (.obj b),a.n⟩
 | _=>False
theorem p9{K:PySem.W.Frag}{i:Nat}:∀v b H Q,LG K (tR i) v b H Q->Sz i v b H Q:=by
 intro v b H Q h
 obtain ⟨f,Y,S,T,g,x,F,P,rfl,d,e,a,k⟩:=h
 show Q ((vs S).set i (some v)) H
 unfold tR at a
 split at a
 ·rename_i c
  rw[<- rL (x:=.obj c) (F:=F)]
  exact k _ _ H (Qs d) e.store a
 ·exact a.elim
theorem xQ{X:Cx}{i:Nat}{x:Str}{e:Expr}{a:DE}{pos pos':Pos}(d:X.N.Nodup)(j:X.N[i]? = some x)(g:Loc X.env.scope x)(c:Fg X e a)(f:El e (some (.Name x pos')) pos.line X.env=pure false:=by rfl)(b:X.fn x=true\/X.env.scope.names.lookup x=some .local:=by first | exact .inl rfl | exact .inr rfl | assumption):oV X (.Assign [.Name x pos'] e pos) (mR a (tR i)):=PS.impD (Sd d j g c f b) (dW (λ_ _ _ h=>h) p9)
def MU(X:Cx)(a:List (Addr×Obj))(e:L2.St->XK)(f:Value)(s':Ak):Prop:=∃b c d,Inv X a b c d/\Iu X.prog X.w X.stack c d (e b) f s'
def FM(X:Cx)(e:Expr)(g:(Addr->DS->Prop)->DE):Prop:=∀(i:Hp) (Y:Addr->Prop) (B:List Ent) (j:Addr->DS->Prop) (k:XK) (d:L2.St),(∀c b f m,j c b->Sl f b->vs f=d->At X.K i Y b.n (f++B) m->k (.ref c) none m) ->
 ∀(a:List (Addr×Obj)) (s:Ak) (H:Hp) (Q:VK),Inv X a d H s->pA X.K i Y B (g j) d H Q ->
  wpAny (model X.prog X.w) X.A (eval e X.env) (EP X a d Q) (λp o=>∃h l,Inv X a d h l/\Iu X.prog X.w X.stack h l k p o) s
def LV(X:Cx)(st:Stmt)(e:(Addr->DS->Prop)->DB):Prop:=∀(f:Hp) (Y:Addr->Prop) (B:List Ent) (g:Addr->DS->Prop) (h:L2.St->XK),(∀c b d j,g c b->Sl d b->At X.K f Y b.n (d++B) j->h (vs d) (.ref c) none j) ->
 ∀(a:List (Addr×Obj)) (s:Ak) (i:L2.St) (H:Hp) (D:Ends),Inv X a i H s->jM X.K f Y B (e g) D i H->wpAny (model X.prog X.w) X.A (exec st X.env) (SP X a D) (MU X a h) s
def AR(X:Cx)(st:List Stmt)(e:(Addr->DS->Prop)->DB):Prop:=∀(f:Hp) (Y:Addr->Prop) (B:List Ent) (g:Addr->DS->Prop) (h:L2.St->XK),(∀c b d j,g c b->Sl d b->At X.K f Y b.n (d++B) j->h (vs d) (.ref c) none j) ->
 ∀(a:List (Addr×Obj)) (s:Ak) (i:L2.St) (H:Hp) (D:Ends),Inv X a i H s->jM X.K f Y B (e g) D i H->wpAny (model X.prog X.w) X.A (execs st X.env) (SP X a D) (MU X a h) s
section
variable{X:Cx}{E:XK}
theorem BS{CX:eL}{g:Nat}{f:Addr}{e:Bj}{ps:List Str}{sp:Sp}(F:FnOk X.prog X.w X.K X.mg X.base CX g f e ps sp)(m:Room g X.A)(hb:Binds X.K e ps []){a:List (Addr×Obj)}{s:Ak}{j:L2.St}{H:Hp}{Q:VK}{i:Value->Ak->Prop}{us:List Value}{vs:List V}(I:Inv X a j H s)(r:Fj vs us)(h:sp vs H Q E)(o:∀d s',CX X.stack H s E d s'->i d s'):wpAny (model X.prog X.w) X.A (call (.ref f) us) (EP X a j Q) i s:=by
 have k:us.length=ps.length:=by rw[<- r.length]; exact F.len _ _ _ _ h
 have c:=hb s us I.kIn (by simpa using k)
 rw[Bo] at c
 refine Vo (Il (F.run X.A X.stack s H ⟨us,[]⟩ us vs Q E m I.env0 c r h) λn s' b=>?_)
 cases n with
 | error d=>exact o d s' b
 | ok l =>
  cases l with
  | ret u=>exact I.after b
  | next=>exact Di b
  | brk=>exact Di b
  | cont=>exact Di b
theorem EO{e:Expr}{t:TE}{a:List (Addr×Obj)}{s:Ak}{b:L2.St}{H:Hp}{Q:VK}{d:Value->Ak->Prop}(h:PE X.nox e t)(I:Inv X a b H s)(q:t b H Q):wpAny (model X.prog X.w) X.A (eval e X.env) (EP X a b Q) d s :=
 Cv (h a s b H Q (I.wish _) q) (λ_ _ ⟨v,f,c,r,q⟩=>⟨v,f,c.unwish,r,q⟩) (λ_ _ z=>Di z)
theorem C6{es:List Expr}{t:TA}{pos:Pos}{a:List (Addr×Obj)}{s:Ak}{b:L2.St}{H:Hp}{Q:List V->Hp->Prop}{d:Value->Ak->Prop}(h:PA X.nox es t)(I:Inv X a b H s)(q:t b H Q):wpAny (model X.prog X.w) X.A (spliced (Cq pos (An es X.env))) (AP X a b Q) d s :=
 Cv (h pos a s b H Q (I.wish _) q) (λ_ _ ⟨v,e,c,r,q⟩=>⟨v,e,c.unwish,r,q⟩) (λ_ _ z=>Di z)
section
variable{CX:eL}{j:Nat}{f C:Addr}{i:Bj}{ps:List Str}{sp:Sp}{m x:Str}{d pos p:Pos}{o e:Expr}{es:List Expr}{n:TE}{t:TA}{b:List (Addr×Obj)}{s:Ak}{g:L2.St}{H:Hp}{Q:VK}{k:Value->Ak->Prop}
theorem Q2{pl:Sem Bool}(N:PE X.nox o n)(c:Cls X.K C)(M:Meth X.K C m f)(F:FnOk X.prog X.w X.K X.mg X.base CX j f i ps sp)(O:Room j X.A)(hb:Binds X.K i ps [])(P:PA X.nox (e::es) t)(I:Inv X b g H s)(h:x9 C m sp [] E n t g H Q)
  (Y:∀y G p s',Inv X b g y G->CX X.stack y G E p s'->k p s')
  (B:An (e::es) X.env=(false,eval e X.env)::An es X.env:=by rfl) (D:(Cq pos (An es X.env)).any (·.1)=false:=by rfl)
  (ht:eval (.Call (.Attribute o m d) (e::es) [] pos) X.env=(do
   let ov <- eval o X.env
   Gp d.atName
   let (f,first) <- Gf [ov] (Hr ov m pl)
   Lc pos f first (Cq pos (An (e::es) X.env)) (Hu pos (Fd [] X.env))):=by rfl) :
  wpAny (model X.prog X.w) X.A (eval (.Call (.Attribute o m d) (e::es) [] pos) X.env) (EP X b g Q) k s:=by
 refine PySem.W.methodCall_KW (pl:=pl) (Gy (EO N I h) λu G ⟨x,y,J,T,a,dx,fs,ex,U,l,q⟩=>?_) ht
 subst ex
 obtain rfl:u=Co a:=T
 refine Um J U c M l ?_
 refine PySem.W.callWith_K (first:=[.ref a]) (h₀:=X.base) I.ok.mod.kin M.kp (Gy (C6 P J q) λus S ⟨vs,L,v,r,R⟩=>⟨v.kIn,?_⟩) B D
 have Z:sp (V.ref a::vs) L Q E:=by
  have:=R
  simp only[Bo] at this
  exact this
 exact BS (us:=.ref a::us) (vs:=.ref a::vs) F O hb v (.cons rfl r) Z λp s' z=>Y L S p s' v z
theorem S5(M:Mk X.K C f)(F:FnOk X.prog X.w X.K X.mg X.base CX j f i ps sp)(L:Room (j+1) X.A)(N:Gl X x)(P:X.mg x=some (.ref C))(hb:Binds X.K i ps [])(O:PA X.nox (e::es) t)(I:Inv X b g H s)(h:AG C sp [] E t g H Q)(Z:∀y a o s',Inv X b g y a->CX X.stack y a E o s'->k o s')(B:(x == ("__debug__" : Str))=false:=by decide)(J:An (e::es) X.env=(false,eval e X.env)::An es X.env:=by rfl)(D:(Cq pos (An es X.env)).any (·.1)=false:=by rfl):wpAny (model X.prog X.w) X.A (eval (.Call (.Name x p) (e::es) [] pos) X.env) (EP X b g Q) k s:=by
 refine Jx (Rh I N P ?_ B)
 refine PySem.W.callWith_K (h₀:=X.base) I.ok.mod.kin M.kp (Gy (C6 O I h) λd a ⟨vs,y,l,r,q⟩=>⟨l.kIn,?_⟩) J D
 have z:=q (a.heap.objs.size+1) a.heap.objs.size (l.hok.fresh (Vt _)) (l.hok.fresh (Au _)) (Cj (Nf _))
 have n:=Inv.made (C:=C) l
 rw[Bo] at z
 have G:Fj (V.ref (a.heap.objs.size+1)::vs) (Co (a.heap.objs.size+1)::d):=.cons rfl r
 have T:(Co (a.heap.objs.size+1)::d).length=ps.length:=by
  have e:=G.length
  rw[F.len _ _ _ _ z] at e
  exact e.symm
 have m:=hb _ (Co (a.heap.objs.size+1)::d) n.kIn (by rw[Bo]; exact T)
 rw[Bo] at m
 refine Vo (nZ (f:=f) l.kIn M.makes M.init (beq_iff_eq.mp M.fn) (Il (F.run _ X.stack _ _ ⟨Co (a.heap.objs.size+1)::d,[]⟩ (Co (a.heap.objs.size+1)::d) _ _ E (L.make C d [])
  (n.env0.make C d []) m G z) λr s' c=>?_))
 cases r with
 | error e=>exact Z _ _ e s' n c
 | ok U =>
  cases U with
  | ret u =>
   obtain ⟨v,R,Y,S,o,q3⟩:=n.after c
   subst o
   exact ⟨S,⟨V.ref (a.heap.objs.size+1),R,Y,rfl,q3⟩⟩
  | next=>exact Di c
  | brk=>exact Di c
  | cont=>exact Di c
end
section
variable{k:Nat}{f C:Addr}{j:Bj}{ps:List Str}{pg:Pr}{r:PX}{m x:Str}{b pos pos' p:Pos}{o e c:Expr}{es:List Expr}{g:DA}{is:List Nat}{i:Nat}{d:(Addr->DS->Prop)->DE}{dt:DT}{l n:(Addr->DS->Prop)->DB}{st:Stmt}
theorem B2(F:FnOk X.prog X.w X.K X.mg X.base (Iu X.prog X.w) k f j ps (Ig X.K pg))(n:Room k X.A)(r:Gl X x)(u:X.mg x=some (.ref f))(q:PySem.W.keepIn X.K (.ref f)=true)(hb:Binds X.K j ps [])(t:∀H0 Y B,PA X.nox (e::es) (Xn is (tQ X.K H0 Y B g)))(a:(x == ("__debug__" : Str))=false:=by decide)(l:An (e::es) X.env=(false,eval e X.env)::An es X.env:=by rfl)(b:(Cq pos (An es X.env)).any (·.1)=false:=by rfl):FM X (.Call (.Name x p) (e::es) [] pos) λd=>Ss is pg d g:=by
 intro H0 Y B d i G C c s H Q I h
 obtain ⟨L,y,v⟩:=bI (E:=i) h C
 exact S6 (E:=i) F n r u q hb (t H0 Y B) I (aV y v) (λm D M J o z=>⟨m,D,o,z⟩) a l b
theorem U2{pl:Sem Bool}(x:PE X.nox o (Kc i))(c:Cls X.K C)(G:Meth X.K C m f)(F:FnOk X.prog X.w X.K X.mg X.base (Iu X.prog X.w) k f j ps (Ig X.K pg))(t:Room k X.A)(hb:Binds X.K j ps [])(D:Wb X.nox (e::es) g)
  (d:An (e::es) X.env=(false,eval e X.env)::An es X.env:=by rfl) (l:(Cq pos (An es X.env)).any (·.1)=false:=by rfl)
  (R:eval (.Call (.Attribute o m b) (e::es) [] pos) X.env=(do
   let ov <- eval o X.env
   Gp b.atName
   let (f,first) <- Gf [ov] (Hr ov m pl)
   Lc pos f first (Cq pos (An (e::es) X.env)) (Hu pos (Fd [] X.env))):=by rfl) :
  FM X (.Call (.Attribute o m b) (e::es) [] pos) λp=>Mb X.K C m i pg p g:=by
 intro H0 Y B p q T P n s H Q I h
 obtain ⟨v,L,a,M,fs,O,N,y,J⟩:=cT (E:=q) h P
 refine Q2 (E:=q) x c G F t hb (Ru (H0:=H0) (Y:=Y) (B:=B) D) I ⟨v,L,a,M,fs,O,N,y,?_⟩ (λr S V U u z=>⟨r,S,u,z⟩) d l R
 simpa only [Bo] using J
theorem W3(M:Mk X.K C f)(F:FnOk X.prog X.w X.K X.mg X.base (Iu X.prog X.w) k f j ps (Ig X.K pg))(o:Room (k+1) X.A)(u:Gl X x)(y:X.mg x=some (.ref C))(hb:Binds X.K j ps [])(v:Wb X.nox (e::es) g)(b:(x == ("__debug__" : Str))=false:=by decide)(n:An (e::es) X.env=(false,eval e X.env)::An es X.env:=by rfl)(c:(Cq pos (An es X.env)).any (·.1)=false:=by rfl):FM X (.Call (.Name x p) (e::es) [] pos) λm=>dO C pg m g:=by
 intro H0 Y B m d t G i s H Q I h
 refine S5 (E:=d) M F o u y hb (Ru (H0:=H0) (Y:=Y) (B:=B) v) I ?_ (λa J N L r z=>⟨a,J,r,z⟩) b n c
 have D:=oK (E:=d) h G
 show tQ X.K H0 Y B g t H λq a=>∀x l,a x=none->a l=none->l≠x->Ig X.K pg (.ref x::(q++[])) _ _ d
 simpa only [Bo] using D
theorem mB(n:FM X e d)(o:El e none pos.line X.env=pure false:=by rfl):LV X (.Expr e pos) λk=>oN (d k):=by
 intro G Y B k O Q b s U H D I h
 obtain ⟨S,T,E,P,rfl,J,hT,N,L,C,t,V,Z,k4⟩:=h
 refine wpAny_Expr_any (Cv (n G Y B k (O (vs S)) (vs S) (λc a g f M K r R=>r▸Q c a g f M K R) b s H (λ_ f=>D.nx (vs S) f) I ⟨S,T,E,_,rfl,J,N,L,C,λx a v F g f q w l p=>?_⟩) (λu m ⟨y,i,j,r1,A⟩=>⟨_,i,j,A⟩) λev W ⟨i,m,j,z⟩=>⟨_,i,m,j,z⟩) I.quiet o
 rw[<- q]
 exact t a g f w l.drop p
theorem V9{E:DG}(n:∀v l H Q,LG X.K E v l H Q->Sz i v l H Q)(O:X.N.Nodup)(hi:X.N[i]? = some x)(hx:Loc X.env.scope x)(L:FM X e d)(U:El e (some (.Name x pos')) pos.line X.env=pure false:=by rfl)(hf:X.fn x=true\/X.env.scope.names.lookup x=some .local:=by first | exact .inl rfl | exact .inr rfl | assumption):LV X (.Assign [.Name x pos'] e pos) λt=>mR (d t) E:=by
 intro C Y B t EE hE b s l H D I h
 obtain ⟨S,T,δ,P,rfl,hS,hT,hB,hA,hd,Z,k2,k3,k4⟩:=h
 refine wpAny_Assign_Name (Cv (L C Y B t (EE (vs S)) (vs S) (λc a g f h1 h2 W h4=>W▸hE c a g f h1 h2 h4) b s H (λv f=>D.nx ((vs S).set i (some v)) f) I ⟨S,T,δ,_,rfl,hS,hB,hA,hd,λy a v F g f V e2 w p=>?_⟩) (λu G ⟨y,j,k,r1,q1⟩=>?_) λev s' ⟨j,G,k,z⟩=>⟨_,j,G,k,z⟩) U
 ·exact n v _ f (λo m=>D.nx o m) ⟨C,Y,g,T,a,y,F,P.nx,V,e2,w,p,λr R m M A q=>Z r R m M A q⟩
 ·exact Vy k O hi hx r1 (λs2 J=>⟨_,j,J,q1⟩) hf
theorem bM(b:LV X st l):AR X [st] l:=by
 intro c Y B d e g a s i H D I h
 refine kZ (Gy (b c Y B d e g a s i H D I h) λf j q=>?_)
 cases f with
 | next=>exact Pm q
 | ret v=>exact q
 | brk=>exact q
 | cont=>exact q
end
end
def bY(x C:Addr):Kind where
 a:=x
 c:=0
 fl:=λ_=>none
 P:=λ_ H F=>F=[x]/\H x=some (rK x C)
 kp:=λ⟨e,h⟩ k=>⟨e,k _ _ h (.inl (by rw[e]; exact Ab))⟩
 dom:=λ⟨e,h⟩ b d=>by rw[e] at d; rw[Aj.mp d]; exact ⟨_,h⟩
 ns:=λ_ b d=>(by rw[List.take_zero] at d; cases d)
 nd:=λ⟨e,h⟩ f d=>by
  rw[e] at d
  rw[<- Aj.mp d,show _=some (HO.lst _) from f] at h; cases h
def zA(K:PySem.W.Frag)(j k:Nat)(D:Addr)(b:(Addr->DS->Prop)->DB):DB:=λd e=>b (λc a=>PySem.W.subIn K (.ref c) (.ref D)=some true/\∀x,d.nx ⟨((a.sl.set k .un).set j (.obj (bY x c))).set k .un,a.n⟩) d e
theorem O7{X:Cx}{d:List Stmt}{r:(Addr->DS->Prop)->DB}{D:Addr}{j k:Nat}{n y c:Str}{np hp ap yp vp pos:Pos}(M:X.stack=X.env::X.outer)(V:X.env.frame=some X.env.locals)(hN:X.N.Nodup)(hk:X.N[k]? = some n)(G:X.env.scope.names.lookup n=some .local)(hj:X.N[j]? = some y)(J:X.env.scope.names.lookup y=some .local)(hg:Gl X c)(hm:X.mg c=some (.ref D))(hD:PySem.W.excIn X.K D Ze "ValueError.__new__" = true)(hb:AR X d r)(L:(c == ("__debug__" : Str))=false:=by decide)(R:(n == ("__debug__" : Str))=false:=by decide)(E:(n == ("__classdict__" : Str))=false:=by decide)(O:El (.Name n vp) (some (.Name y yp)) ap.line X.env=pure false:=by rfl):oV X (.Try d [.ExceptHandler (some (.Name c np)) (some n) [.Assign [.Name y yp] (.Name n vp) ap] hp] [] [] pos) (zA X.K j k D r):=by
 intro p s σ H De I h
 obtain ⟨w,Y,S,T,δ,P,rfl,hS,hT,hA,hd,k1,k2,k3,k4⟩:=h
 refine wpAny_Try_except (Cv (hb w Y T _ (λA Q _ H2=>∃C,Q=.ref C/\PySem.W.subIn X.K (.ref C) (.ref D)=some true/\∀x,H2 x=none->De.nx (Wa j k x A) (upd H2 x (rK x C))) (λc b o u l Z m=>?_) p s (vs S) H De I ⟨S,T,δ,P,rfl,hS,hT,Bm _,hA,hd,k1,k2,k3,k4⟩) (λf s1 q=>?_) λev s' l=>?_)
 ·obtain ⟨F,l⟩:=l
  refine ⟨c,rfl,F,λx U=>?_⟩
  have h1:At X.K w Y b.n (o++T) (upd u x (rK x c)):=m.grow (Et U _) (Au _)
  have h2:At X.K w Y b.n (o++⟨some (.ref x),.un,[]⟩::T) (upd u x (rK x c)):=(h1.blank (v:=some (.ref x))).tomid
  have h3:=h2.store (i:=k)
  have h4:At X.K w Y b.n (o.set k ⟨some (.ref x),.un,[]⟩++⟨some (.ref x),.obj (bY x c),[x]⟩::T) (upd u x (rK x c)):=(h3.push (e:=⟨some (.ref x),.obj (bY x c),[x]⟩) ⟨rfl,rfl,Cg⟩ (λf hf=>⟨λ_ a g=>(nomatch g),λ_ a g z=>by
    have z':=Aj.mp z
    subst z'
    rcases Ar.mp hf with hf | hf
    ·rcases List.mem_or_eq_of_mem_set hf with hf | rfl
     ·exact m.free U f (Ae _ hf) (Dm f a g)
     ·exact nomatch g
    ·exact m.free U f (Ag _ hf) (Dm f a g)⟩) (λa g=>(nomatch g))).tomid
  have h5:=h4.store (i:=j)
  have h6:At X.K w Y b.n ((o.set k ⟨some (.ref x),.un,[]⟩).set j ⟨some (.ref x),.obj (bY x c),[x]⟩++⟨none,.un,[]⟩::T) (upd u x (rK x c)):=(h5.blank (v:=none)).tomid
  have h7:=h6.store (i:=k)
  have:=k1 ⟨((b.sl.set k .un).set j (.obj (bY x c))).set k .un,b.n⟩ _ _ (?_) h7 (l x)
  ·have e2:vs ((((o.set k ⟨some (.ref x),.un,[]⟩).set j ⟨some (.ref x),.obj (bY x c),[x]⟩).set k ⟨none,.un,[]⟩))=Wa j k x (vs o):=by
    unfold vs Wa
    rw[Fc,Fc,Fc]
   rw[e2] at this
   exact this
  ·unfold Sl at Z ⊢
   rw[Fc,Fc,Fc,Z]
 ·cases f with
  | next=>exact Pm q
  | ret v=>exact q
  | brk=>exact q
  | cont=>exact q
 ·obtain ⟨A,H1,s1,I1,l⟩:=l
  obtain ⟨ee,C,t,u,B,rfl,Fl,C',hC,F,q⟩:=l
  cases hC
  exact xB M V hN hk G hj J hg hm hD F I1 Fl (q ee Fl.new) L R O E
def mP(ne:Bool)(i:Nat):DE:=λa P=>match a.sl[i]? with
 | some (.dat _ d)=>P (.dat .ow (.bool (match ne with | true=>!isNone d | false=>isNone d))) a
 | some (.obj _)=>P (.dat .ow (.bool ne)) a
 | _=>False
def E3(K:PySem.W.Frag)(i:Nat)(c:V):DE:=λa P=>match a.sl[i]? with
 | some (.obj κ)=>∃x C b,κ=bY x C/\ExcK K C/\PySem.W.kitOne K (.ref C) (oA c)=some b/\P (.dat .ow (.bool b)) a
 | _=>False
section
variable{X:Cx}{e:Expr}{i:Nat}{pos p f:Pos}{c:V}
theorem sR{K:PySem.W.Frag}{ne:Bool}{t:L2.St}{H:Hp}{Q:VK}(h:LE K (mP ne i) t H Q):∃v,t[i]? = some (some v)/\Q (.bl (match ne with | true=>!decide (v=.non) | false=>decide (v=.non))) H:=by
 obtain ⟨w,Y,S,T,p,P,rfl,g,j,e,k⟩:=h
 unfold mP at e
 split at e
 ·rename_i m d q
  obtain ⟨b,f,n⟩:=Hn g q
  have o:b∈S:=Bf f
  obtain ⟨u,x,F⟩:=b
  have c:x=.dat m d:=n
  subst c
  obtain ⟨v,s,r,_⟩:=j.ok _ (Ae _ o)
  refine ⟨v,by rw[Lv f]; exact congrArg some s,?_⟩
  rw[O2 r]
  cases ne with
  | true=>exact k (.dat .ow (.bool (!isNone d))) p (.bl (!isNone d)) [] S H rfl g (j.pushI (m:=.ow) (.bl _)) e
  | false=>exact k (.dat .ow (.bool (isNone d))) p (.bl (isNone d)) [] S H rfl g (j.pushI (m:=.ow) (.bl _)) e
 ·rename_i l q
  obtain ⟨b,f,n⟩:=Hn g q
  have o:b∈S:=Bf f
  obtain ⟨u,x,F⟩:=b
  have c:x=.obj l:=n
  subst c
  obtain ⟨s,_⟩:=j.ok _ (Ae _ o)
  refine ⟨V.ref l.a,by rw[Lv f]; exact congrArg some s,k (.dat .ow (.bool ne)) p _ [] S H rfl g (j.pushI (m:=.ow) ?_) e⟩
  cases ne with
  | true=>rw[show decide (V.ref l.a=V.non)=false by simp]; exact .bl _
  | false=>rw[show decide (V.ref l.a=V.non)=false by simp]; exact .bl _
 ·exact e.elim
theorem CT{K:PySem.W.Frag}{l:L2.St}{H:Hp}{Q:VK}(w:RelV c (oA c))(h:LE K (E3 K i c) l H Q):∃v,l[i]? = some (some v)/\EA K [v,c] H Q:=by
 obtain ⟨B,Y,S,T,s,P,rfl,j,n,a,k⟩:=h
 unfold E3 at a
 split at a
 ·rename_i o z
  obtain ⟨d,g,q⟩:=Hn j z
  have r:d∈S:=Bf g
  obtain ⟨u,x,F⟩:=d
  have e:x=.obj o:=q
  subst e
  obtain ⟨A,p⟩:=n.ok _ (Ae _ r)
  obtain ⟨y,C,b,rfl,f,t,a⟩:=a
  refine ⟨_,by rw[Lv g]; exact congrArg some A,y,C,c,b,rfl,p.2,f,w,t,k _ s _ [] S H rfl j (n.pushI (m:=.ow) (.bl _)) a⟩
 ·exact a.elim
theorem CP{x:Str}{b:Pos}{a:Expr}{c:V}(k:RelV c (oA c))(j:PE X (.Name x b) (Kc i))(g:PE X a (tC c))(m:Gl X "isinstance")(f:X.mg "isinstance" = none)(e:An [.Name x b,a] X.env=(false,eval (.Name x b) X.env)::An [a] X.env:=by rfl)(d:An [a] X.env=(false,eval a X.env)::An [] X.env:=by rfl)(n:(Cq pos (An [a] X.env)).any (·.1)=false:=by rfl):Fg X (.Call (.Name "isinstance" p) [.Name x b,a] [] pos) (E3 X.K i c):=by
 refine PE.imp (bS (r:=EA X.K) L8 m f (by decide +kernel) (Do j (Do g Ir d) e) (by decide) (by decide) e n) λo H Q h=>?_
 obtain ⟨v,l,q⟩:=CT k h
 exact ⟨v,l,q⟩
end
section
variable{K:PySem.W.Frag}{H0 H H':Hp}{Y:Addr->Prop}{n:Nat}{E Vs:List Ent}{v:Option V}{d κ':Kind}{F F':List Addr}
theorem At.wobj(h:At K H0 Y n (⟨v,.obj d,F⟩::(Vs++E)) H)(np:∀g∈Vs,Lr g.x=false)(A:κ'.a=d.a)(M:κ'.P K H' F')(r:∀b∈F'.take κ'.c,b∈F.take d.c\/H b=none)(J:∀b∈F',b∈F\/(∃g∈Vs,b∈g.F)\/H b=none)(j:∀b o,H b=some o->b∉F.take d.c->H' b=some o)(hd:∀b∈F.take d.c,∃o,H' b=some o):At K H0 Y n (⟨v,.obj κ',F'⟩::E) H':=by
 obtain ⟨N,C⟩:=Ax.mp h.sep
 obtain ⟨O,B,G⟩:=Bs.mp C
 obtain ⟨D,p⟩:=h.ok _ Ab
 have i:∀e∈E,Fx K H n e:=λe he=>h.ok e (Ah _ (Ag _ he))
 have l:∀e∈E,Nq ⟨v,.obj d,F⟩ e:=λe he=>N e (Ag _ he)
 have Q:cells ⟨v,.obj d,F⟩=F.take d.c:=rfl
 have m:∀b∈F.take d.c,H0 b=none:=λb hb=>by
  rcases h.new _ Ab b hb with z | z
  ·exact z
  ·cases z.2
 refine ⟨λe he=>?_,Ax.mpr ⟨λe he=>⟨λ_ b hb z=>?_,λ_ b hb z=>?_⟩,B⟩,λe he b hb=>?_,λb o y q=>?_,λb o q=>?_,λb hb=>?_⟩
 ·rcases Ai.mp he with rfl | he
  ·exact ⟨by rw[A]; exact D,M⟩
  ·refine (i e he).kp (λb o q z=>j b o q λhb=>?_) (Au _)
   rcases z with z | z
   ·exact (l e he).1 (.inr rfl) b hb z
   ·exact d.ns p b hb o q z
 ·rcases r b hb with hb | hb
  ·exact (l e he).1 (.inr rfl) b hb z
  ·obtain ⟨o,q⟩:=(i e he).dom b z
   rw[hb] at q; cases q
 ·rcases J b z with z | ⟨g,s,z⟩ | z
  ·exact (l e he).2 (.inl rfl) b hb z
  ·exact (G g s e he).2 (.inl (np g s)) b hb z
  ·obtain ⟨o,q⟩:=(i e he).dom b (Dm e b hb)
   rw[z] at q; cases q
 ·rcases Ai.mp he with rfl | he
  ·rcases r b hb with hb | hb
   ·exact .inl (m b hb)
   ·exact .inl (h.new0 hb)
  ·exact h.new e (Ah _ (Ag _ he)) b hb
 ·exact j b o (h.same b o y q) λz=>by rw[m b z] at q; cases q
 ·obtain ⟨t,u⟩:=h.dom b o q
  by_cases z:b∈F.take d.c
  ·exact hd b z
  ·exact ⟨t,j b t u z⟩
 ·obtain ⟨z,c,k,f,L,I⟩:=h.xd b hb
  exact ⟨z,c,k,f,j b _ L λw=>z (m b w),I⟩
end
theorem Pv{K:PySem.W.Frag}{H0 H:Hp}{Y:Addr->Prop}{S T:List Ent}{f:DS}{i:Nat}{b:Kind}(k:Sl S f)(p:At K H0 Y f.n (S++T) H)(m:f.sl[i]? = some (.obj b)):∃F,S[i]? = some ⟨some (.ref b.a),.obj b,F⟩/\(vs S)[i]? = some (some (.ref b.a))/\b.P K H F:=by
 obtain ⟨c,d,j⟩:=Hn k m
 have l:c∈S:=Bf d
 obtain ⟨v,x,F⟩:=c
 have e:x=.obj b:=j
 subst e
 obtain ⟨o,h⟩:=p.ok _ (Ae _ l)
 have g:v=some (.ref b.a):=o
 subst g
 exact ⟨F,d,Lv d,h⟩
theorem At.wslot{K:PySem.W.Frag}{H0 H H':Hp}{Y:Addr->Prop}{n:Nat}{S T Vs:List Ent}{i:Nat}{v:Option V}{d κ':Kind}{F F':List Addr}(q:At K H0 Y n (S++(Vs++T)) H)(e:S[i]? = some ⟨v,.obj d,F⟩)(np:∀g∈Vs,Lr g.x=false)(j:κ'.a=d.a)(h:κ'.P K H' F')(l:∀b∈F'.take κ'.c,b∈F.take d.c\/H b=none)(k:∀b∈F',b∈F\/(∃g∈Vs,b∈g.F)\/H b=none)(p:∀b o,H b=some o->b∉F.take d.c->H' b=some o)(hd:∀b∈F.take d.c,∃o,H' b=some o):At K H0 Y n (S.set i ⟨v,.obj κ',F'⟩++T) H'/\vs (S.set i ⟨v,.obj κ',F'⟩)=vs S:=by
 have m:(S++(Vs++T)).Perm (⟨v,.obj d,F⟩::(Vs++(S.eraseIdx i++T))):=by
  refine ((Ht e).append_right _).trans ?_
  rw[Cd]
  refine Jq _ ?_
  rw[<- Az,<- Az]
  exact Ej.append_right T
 have f:=(q.perm m).wobj (κ':=κ') np j h l k p hd
 refine ⟨f.perm ?_,Mm e rfl⟩
 exact ((fZ (y:=(⟨v,.obj κ',F'⟩ : Ent)) e).append_right T).symm
def Xh(K:PySem.W.Frag)(e:Kind)(f:Str)(d:Ad):Prop:=∀H F,e.P K H F->∃C g fs v G,H e.a=some (.ins C g fs)/\Cls K C/\Qy K C f/\fs.lookup f=some v/\RdF K H v d G/\∀b∈G,b∈F/\b∉F.take e.c
def Q0(K:PySem.W.Frag)(i:Nat)(f:Str):DE:=λa P=>match a.sl[i]? with
 | some (.obj κ)=>match κ.fl f with
  | some d=>Xh K κ f d/\P (.dat .sh d) a
  | none=>False
 | _=>False
section
variable{X:Cx}{o:Expr}{i:Nat}{f:Str}{pos:Pos}
theorem DY(r:PE X o (Kc i))(hb:Ff o f X.env (eval o X.env)=eval o X.env:=by rfl):Fg X (.Attribute o f pos) (Q0 X.K i f):=by
 refine PE.imp (cP r hb) λL H Q h=>?_
 obtain ⟨M,Y,S,T,x,P,rfl,n,j,b,k⟩:=h
 unfold Q0 at b
 split at b
 case h_2=>exact b.elim
 rename_i l I
 split at b
 case h_2=>exact b.elim
 rename_i d N
 obtain ⟨B,b⟩:=b
 obtain ⟨F,u,q,E⟩:=Pv n j I
 obtain ⟨C,y,fs,v,G,D,A,s,J,p,m⟩:=B H F E
 have w:(⟨some (.ref l.a),.obj l,F⟩ : Ent)∈S++T:=Ae _ (Bf u)
 refine ⟨_,q,l.a,C,y,fs,v,rfl,D,A,s,J,k _ x v G S H rfl n ((j.push (e:=⟨some v,.dat .sh d,G⟩) ⟨v,rfl,p,λz=>(nomatch z),λz=>(nomatch z)⟩ (λg t=>⟨λ_ a c=>(nomatch c),λ_ a c z=>?_⟩) (λa c=>(nomatch c))).tomid) b⟩
 rcases bX j w t with rfl | hs
 ·exact (m a z).2 c
 ·exact hs.2 (.inl rfl) a c (m a z).1
end
def pC(h:Int)(a:V)(e:Addr):List (Str×V):=[("holes",.int h),("lying",a),("earlier",.ref e)]
def KO(C a:Addr)(h:Int)(k:Ad)(g:List Ad)(K:PySem.W.Frag)(H:Hp)(F:List Addr):Prop :=
 ∃(c e:Addr) (j:V) (i:List V) (f d:List Addr),F=a::c::e::(f++d)/\a≠c/\a≠e/\c≠e/\(∀b∈f++d,b≠a/\b≠c/\b≠e)/\H a=some (.ins C c (pC h j e))/\H c=some (.own a)/\H e=some (.lst i) /\
  RdF K H j k f/\RdFs K H i g d/\g.length<=Ba/\Hm k=true/\Hm (.list g)=true
def Fv(C a:Addr)(h:Int)(D:Ad)(F:List Ad):Kind where
 a:=a
 c:=3
 fl:=λf=>if f = "holes" then some (.int h) else if f = "lying" then some D else none
 P:=KO C a h D F
 kp:=λ⟨x,e,u,y,t,r,l,v,A,w,z,g,d,j,m,i,n⟩ k=>by
  subst l
  refine ⟨x,e,u,y,t,r,rfl,v,A,w,z,k _ _ g (.inl (by simp)),k _ _ d (.inl (by simp)),k _ _ j (.inl (by simp)),m.kp (k.sub λb hb=>by simp [hb]),i.kp (k.sub λb hb=>by simp [hb]),n⟩
 dom:=λ⟨x,e,u,y,t,r,l,v,A,w,z,g,d,j,m,i,n⟩ b hb=>by
  subst l
  simp only[Ai,Ar] at hb
  rcases hb with rfl | rfl | rfl | hb | hb
  ·exact ⟨_,g⟩
  ·exact ⟨_,d⟩
  ·exact ⟨_,j⟩
  ·exact m.dom b hb
  ·exact i.dom b hb
 ns:=λ⟨x,e,u,y,t,r,l,v,A,w,z,g,d,j,m,i,n⟩ b hb o q s=>by
  subst l
  simp only[Oh,List.take_zero,Ai,Bc,or_false] at hb
  rcases hb with rfl | rfl | rfl
  ·rw[g] at q; cases q; rcases s with ⟨_,s⟩ | ⟨_,_,s⟩ <;> cases s
  ·rw[d] at q; cases q; rcases s with ⟨_,s⟩ | ⟨_,_,s⟩ <;> cases s
  ·rw[j] at q; cases q; rcases s with ⟨_,s⟩ | ⟨_,_,s⟩ <;> cases s
 nd:=λ⟨x,e,u,y,t,r,l,v,A,w,z,g,d,j,m,i,n,E,B⟩ p hb=>by
  subst l
  simp only[Ai,Ar] at hb
  rcases hb with rfl | rfl | rfl | hb | hb
  ·rw[show _=some (HO.lst _) from p] at g; cases g
  ·rw[show _=some (HO.lst _) from p] at d; cases d
  ·exact RdF.nodr p (.lst j n i) B Ab
  ·exact RdF.nodr p m E hb
  ·rw[Hm,Cz] at B
   exact RdFs.nodr p i B.2 hb
theorem EV{h:Int}{d:V}{e:Addr}{m:Str}(a:¬ m = "holes")(b:¬ m = "lying")(c:¬ m = "earlier"):(pC h d e).lookup m=none:=by
 have k:∀{x:Str},¬ m=x->(m == x)=false:=λz=>beq_eq_false_iff_ne.mpr z
 simp only[pC,Ec,k a,k b,k c]
theorem IT{h:Int}{a:V}{e:Addr}:(pC h a e).lookup ("holes" : Str)=some (.int h):=by
 have k:(("holes" : Str) == "holes")=true:=beq_self_eq_true _
 simp only[pC,Ec,k]
theorem Y9{h:Int}{a:V}{e:Addr}:(pC h a e).lookup ("lying" : Str)=some a:=by
 have k:(("lying" : Str) == "holes")=false:=by decide +kernel
 have b:(("lying" : Str) == "lying")=true:=beq_self_eq_true _
 simp only[pC,Ec,k,b]
theorem i9{h:Int}{c:V}{e:Addr}:(pC h c e).lookup ("earlier" : Str)=some (.ref e):=by
 have k:(("earlier" : Str) == "holes")=false:=by decide +kernel
 have b:(("earlier" : Str) == "lying")=false:=by decide +kernel
 have a:(("earlier" : Str) == "earlier")=true:=beq_self_eq_true _
 simp only[pC,Ec,k,b,a]
theorem P0{h:Int}{a y:V}{e:Addr}:Ls "lying" y (pC h a e)=pC h y e:=by
 have k:¬ (("holes" : Str) = "lying"):=by decide +kernel
 show (if ("holes" : Str) = "lying" then _ else (("holes" : Str),V.int h)::(if ("lying" : Str) = "lying" then [(("lying" : Str),y),("earlier",V.ref e)] else _))=_
 rw[if_neg k,if_pos rfl]
 rfl
class BoxT (K:PySem.W.Frag) (C:Addr):Prop where
 cl:Cls K C
 nh:Qy K C "holes"
 nl:Qy K C "lying"
 ne:Qy K C "earlier"
section
variable{K:PySem.W.Frag}{C a:Addr}{h:Int}{c:Ad}{d:List Ad}
theorem EB:(Fv C a h c d).fl "holes" = some (.int h):=by
 show (if ("holes" : Str) = "holes" then some (Bz h) else if ("holes" : Str) = "lying" then some c else none)=some (.int h)
 rw[if_pos rfl]
theorem DQ:(Fv C a h c d).fl "lying" = some c:=by
 have k:¬ (("lying" : Str) = "holes"):=by decide +kernel
 show (if ("lying" : Str) = "holes" then some (Bz h) else if ("lying" : Str) = "lying" then some c else none)=some c
 rw[if_neg k,if_pos rfl]
theorem HR(T:BoxT K C):Xh K (Fv C a h c d) "holes" (.int h):=λH F ⟨b,e,n,g,m,j,p,l,k,o,i,f,_⟩=>⟨C,b,_,_,[],f,T.cl,T.nh,IT,.int h,λ_ z=>(nomatch z)⟩
theorem GW(T:BoxT K C):Xh K (Fv C a h c d) "lying" ly:=λH F ⟨j,e,o,r,n,s,q,u,t,x,l,m,v,w,p,_⟩=>⟨C,j,_,o,n,m,T.cl,T.nl,Y9,p,λb f=>by
 subst q
 obtain ⟨k,i,g⟩:=l b (Ae _ f)
 exact ⟨by simp [f],by simp [Fv,k,i,g]⟩⟩
theorem Ku{m:Str}(f:¬ m = "holes")(g:¬ m = "lying")(i:¬ m = "earlier"):Nv K C m (Fv C a h c d):=λH F ⟨b,e,r,k,q,n,t,p,o,s,l,j,_⟩=>⟨b,_,j,EV f g i⟩
end
def B9(C:Addr)(i:Nat):DB:=λD d=>∃a h b c,d.sl[i]? = some (.obj (Fv C a h b c))/\c.length+1<=1000000/\Hm (.list (c++[b]))=true/\D.nx ⟨d.sl.set i (.obj (Fv C a h b (c++[b]))),d.n⟩
def U6(C:Addr)(i:Nat)(x:DV)(b:DS)(D:DEnds):Prop:=match x with
 | .dat m d=>m≠.pk/\Hm d=true/\∃a h e c,b.sl[i]? = some (.obj (Fv C a h e c))/\D.nx ⟨b.sl.set i (.obj (Fv C a h d c)),b.n⟩
 | _=>False
def uM(C:Addr)(i:Nat)(c:DE):DB:=λD b=>c b λx a=>U6 C i x a D
def O4(C:Addr)(i:Nat):DE:=λb P=>∃a h d c l,b.sl[i]? = some (.obj (Fv C a h d (c++[l])))/\Hm (.list c)=true/\P (.dat .sh l) ⟨b.sl.set i (.obj (Fv C a h d c)),b.n⟩
def zG(C:Addr)(i:Nat):DT:=λb P=>∃a h d c,b.sl[i]? = some (.obj (Fv C a h d c))/\P (!c.isEmpty) b
def j7(C:Addr)(i j:Nat):DB:=λD a=>∃x b h m,a.sl[i]? = some (.obj (cM C x b))/\a.sl[j]? = some (.dat m (.int h))/\D.nx ⟨a.sl.set i (.obj (Fv C x h (.tuple [.list [],.list [],.list []]) [])),a.n⟩
section
variable{X:Cx}{o t e u:Expr}{es:List Expr}{w:DE}{s k f r pos pos':Pos}{i j:Nat}{C:Addr}
theorem fT{d:Type}{a b c:d}{l:List d}:(a::b::c::l).take 3=[a,b,c]:=rfl
theorem qH(T:BoxT X.K C)(ho:PE X o (Kc i))(O:PE X t (Kc i))(W:Ff o "earlier" X.env (eval o X.env)=eval o X.env:=by rfl)(L:Ff t "lying" X.env (eval t X.env)=eval t X.env:=by rfl)
  (j:Ff (.Attribute o "earlier" k) "append" X.env (eval (.Attribute o "earlier" k) X.env)=eval (.Attribute o "earlier" k) X.env:=by rfl)
  (y:((Cq r (An [.Attribute t "lying" f] X.env)).all (λx=>!x.1) && (Hu r (Fd [] X.env)).all (λx=>x.1.isSome)
   && decide (([.Attribute t "lying" f]:List Expr).length+([]:List aI).length+(if ([]:List aI).isEmpty then 0 else 1)<30))=true:=by rfl)
  (l:(s.endLine == r.line)=true:=by rfl) (hs:An [.Attribute t "lying" f] X.env=(false,eval (.Attribute t "lying" f) X.env)::An [] X.env:=by rfl) (d:(Cq r (An [] X.env)).any (·.1)=false:=by rfl)
  (V:El (.Call (.Attribute (.Attribute o "earlier" k) "append" s) [.Attribute t "lying" f] [] r) none pos.line X.env=pure false:=by rfl) :
  oV X (.Expr (.Call (.Attribute (.Attribute o "earlier" k) "append" s) [.Attribute t "lying" f] [] r) pos) (B9 C i):=by
 refine PS.impD (Wo (AJ PySem.F.plainAttrs_list PySem.F.slot_list_append PySem.F.type_list_append Tg (cP ho W) (Do (cP O L) Ir hs) j y l hs d) V) λD σ H h=>?_
 obtain ⟨H0,Y,S,U,δ,P,rfl,hS,hT,hA,M,k1,k2,k3,k4⟩:=h
 obtain ⟨a,E,p,B,hi,hz,hn,M⟩:=M
 obtain ⟨F,e2,Z,hP⟩:=Pv hS hA hi
 obtain ⟨A,e,m,w,u,J,rfl,z1,Q,N,z4,I,g2,R,g4,g5,g6,g7,g8⟩:=id hP
 have hl:=g5.len
 refine ⟨_,Z,a,C,A,_,_,rfl,I,T.cl,T.ne,i9,.inl ⟨rfl,w,Ua.of R⟩,_,Z,a,C,A,_,m,rfl,I,T.cl,T.nl,Y9,e,w,m,rfl,rfl,R,Ca (by omega) (pB (n:=1000000) (Au _)),?_⟩
 have g:∀{G:List Addr},(∀b∈G,b∈u++J)->Kp G H (upd H e (.lst (w++[m]))):=λ{G} hG b o q z=>by
  have : b≠e:=by
   rintro rfl
   rcases z with z | z
   ·exact (z4 _ (hG _ z)).2.2 rfl
   ·rw[R] at q; cases q; rcases z with ⟨_,z⟩ | ⟨_,_,z⟩ <;> cases z
  rw[Cn this]; exact q
 obtain ⟨hB,hv⟩:=At.wslot (H':=upd H e (.lst (w++[m]))) (Vs:=[]) (κ':=Fv C a E p (B++[p])) (F':=a::A::e::(u++(J++(u++[])))) hA e2 (λ_ z=>(nomatch z)) rfl
  ⟨A,e,m,w++[m],u,J++(u++[]),rfl,z1,Q,N,λb hb=>z4 b (by simp only[Bo,Ar] at hb ⊢; rcases hb with hb | hb | hb <;> simp [hb]),by rw[Cn Q]; exact I,by rw[Cn N]; exact g2,Cg,
   g4.kp (g λb hb=>Ae _ hb),(g5.kp (g λb hb=>Ag _ hb)).snoc (g4.kp (g λb hb=>Ae _ hb)) |> λz=>by simpa using z,by rw[Bn]; exact pB (by simpa using hz),g7,hn⟩
  (λb hb=>.inl hb)
  (λb hb=>.inl (by simp only[Bo,Ar,Ai] at hb ⊢; rcases hb with hb | hb | hb | hb | hb | hb <;> simp [hb]))
  (λb o q hb=>by
   rw[show (Fv C a E p B).c=3 from rfl,fT] at hb
   rw[Cn (λz=>hb (by simp [z]))]; exact q)
  (λb hb=>by
   rw[show (Fv C a E p B).c=3 from rfl,fT] at hb
   simp only[Ai,Bc,or_false] at hb
   rcases hb with rfl | rfl | rfl
   ·exact ⟨_,by rw[Cn Q]; exact I⟩
   ·exact ⟨_,by rw[Cn N]; exact g2⟩
   ·exact ⟨_,Cg⟩)
 have:=k1 ⟨δ.sl.set i (.obj (Fv C a E p (B++[p]))),δ.n⟩ _ _ (Qs (v:=.ref a) hS) hB M
 exact Eq.mp (congrArg (λz=>D.nx z _) hv) this
theorem fX(T:BoxT X.K C)(ho:PE X o (Kc i))(W:Fg X u w)(A:El u (some (.Attribute o "lying" pos')) pos.line X.env=pure false:=by rfl):oV X (.Assign [.Attribute o "lying" pos'] u pos) (uM C i w):=by
 refine PS.impD (jI ho W A) λD σ H h=>?_
 obtain ⟨H0,Y,S,U,δ,P,rfl,hS,hT,hA,hd,k1,k2,k3,k4⟩:=h
 refine ⟨H0,Y,S,U,δ,_,rfl,hS,hA,hd,λx r v G Z H' e1 M j p=>?_⟩
 unfold U6 at p
 split at p
 case h_2=>exact p.elim
 rename_i m d
 obtain ⟨hm,hn,a,k,B,s,hi,p⟩:=p
 obtain ⟨F,N,e3,hP⟩:=Pv (T:=⟨some v,.dat m d,G⟩::U) M j hi
 obtain ⟨f,e,vl,xs,G1,y,rfl,J,L,z3,O,V,g2,Q,g4,g5,g6,g7,g8⟩:=id hP
 have rv:=j.told mem_mid
 have t:(⟨some (.ref a),.obj (Fv C a k B s),a::f::e::(G1++y)⟩ : Ent)∈Z:=Bf N
 have R:∀b∈G,b≠a/\b≠f/\b≠e:=λb hb=>by
  have A:=(Bs.mp j.sep).2.2 _ t _ Ab
  have E:=A.1 (.inr rfl)
  exact ⟨λz=>E a (by show a∈[a,f,e]; simp) (z▸hb),λz=>E f (by show f∈[a,f,e]; simp) (z▸hb),λz=>E e (by show e∈[a,f,e]; simp) (z▸hb)⟩
 rw[<- e1]
 refine ⟨_,e3,a,C,f,_,rfl,V,T.cl,T.nl,(by show 3<1000; decide),?_⟩
 rw[P0]
 have l:∀{I:List Addr},(∀b∈I,b≠a)->Kp I H' (upd H' a (.ins C f (pC k v e))):=λ{I} hG b o q z=>by
  have : b≠a:=by
   rintro rfl
   rcases z with z | z
   ·exact hG _ z rfl
   ·rw[V] at q; cases q; rcases z with ⟨_,z⟩ | ⟨_,_,z⟩ <;> cases z
  rw[Cn this]; exact q
 obtain ⟨hB,hv⟩:=At.wslot (H':=upd H' a (.ins C f (pC k v e))) (Vs:=[⟨some v,.dat m d,G⟩]) (κ':=Fv C a k d s) (F':=a::f::e::(G++y)) j N (λg hg=>by
   rw[Aj.mp hg]
   cases m <;> first | rfl | exact (hm rfl).elim) rfl
  ⟨f,e,v,xs,G,y,rfl,J,L,z3,λb hb=>(Ar.mp hb).elim (R b) (λz=>O b (Ag _ z)),Cg,by rw[Cn J.symm]; exact g2,by rw[Cn L.symm]; exact Q,
   rv.kp (l λb hb=>(R b hb).1),g5.kp (l λb hb=>(O b (Ag _ hb)).1),g6,hn,g8⟩
  (λb hb=>.inl hb)
  (λb hb=>by
   simp only[Ar,Ai] at hb
   rcases hb with hb | hb | hb | hb | hb
   ·exact .inl (by simp [hb])
   ·exact .inl (by simp [hb])
   ·exact .inl (by simp [hb])
   ·exact .inr (.inl ⟨_,Ab,hb⟩)
   ·exact .inl (by simp [hb]))
  (λb o q hb=>by
   rw[show (Fv C a k B s).c=3 from rfl,fT] at hb
   rw[Cn (λz=>hb (by simp [z]))]; exact q)
  (λb hb=>by
   rw[show (Fv C a k B s).c=3 from rfl,fT] at hb
   simp only[Ai,Bc,or_false] at hb
   rcases hb with rfl | rfl | rfl
   ·exact ⟨_,Cg⟩
   ·exact ⟨_,by rw[Cn J.symm]; exact g2⟩
   ·exact ⟨_,by rw[Cn L.symm]; exact Q⟩)
 have:=k1 ⟨r.sl.set i (.obj (Fv C a k d s)),r.n⟩ _ _ (Qs (v:=.ref a) M) hB p
 exact Eq.mp (congrArg (λz=>D.nx z _) hv) this
end
section
variable{K:PySem.W.Frag}{H:Hp}
theorem RdFs.snoc_inv:∀{ds:List Ad} {xs:List V} {l:Ad} {F:List Addr},RdFs K H xs (ds++[l]) F->∃ys y b a,xs=ys++[y]/\F=b++a/\RdFs K H ys ds b/\RdF K H y l a
 | [],_,l,_,.cons (x:=x) (F:=F) (G:=G) h t=>by
  cases t
  exact ⟨[],x,[],F,rfl,by simp,.nil,h⟩
 | d::ds,_,l,_,.cons (x:=x) (F:=F) (G:=G) h t=>by
  obtain ⟨ys,y,b,a,rfl,rfl,c,e⟩:=RdFs.snoc_inv t
  exact ⟨x::ys,y,F++b,a,rfl,by rw[Az],.cons h c,e⟩
end
section
variable{X:Cx}{o:Expr}{O d N pos L M E I A lp J B f:Pos}{i j:Nat}{C:Addr}
theorem wD(T:BoxT X.K C)(ho:PE X o (Kc i))(W:Ff o "earlier" X.env (eval o X.env)=eval o X.env:=by rfl)(j:Ff (.Attribute o "earlier" d) "pop" X.env (eval (.Attribute o "earlier" d) X.env)=eval (.Attribute o "earlier" d) X.env:=by rfl)(m:(O.endLine == N.line)=true:=by rfl):Fg X (.Call (.Attribute (.Attribute o "earlier" d) "pop" O) [] [] N) (O4 C i):=by
 refine PE.imp (CJ PySem.F.plainAttrs_list PySem.F.slot_list_pop PySem.F.type_list_pop EW (cP ho W) j m) λσ H Q h=>?_
 obtain ⟨H0,Y,S,U,D,P,rfl,hS,M,B,k⟩:=h
 obtain ⟨a,w,r,u,l,hi,hn,B⟩:=B
 obtain ⟨F,Z,e3,hP⟩:=Pv hS M hi
 obtain ⟨s,e,vl,xs,x,G2,rfl,z1,J,E,I,R,g2,L,g4,g5,g6,g7,g8⟩:=id hP
 obtain ⟨V,y,A,f,rfl,rfl,r1,r2⟩:=g5.snoc_inv
 have hm:(⟨some (.ref a),.obj (Fv C a w r (u++[l])),a::s::e::(x++(A++f))⟩ : Ent)∈S++U:=Ae _ (Bf Z)
 have hB:At X.K H0 Y D.n (S++⟨some y,.dat .sh l,f⟩::U) H:=(M.push (e:=⟨some y,.dat .sh l,f⟩) ⟨y,rfl,r2,λz=>(nomatch z),λz=>(nomatch z)⟩ (λg hg=>⟨λ_ b hb=>(nomatch hb),λ_ b hb z=>by
   rcases bX M hm hg with rfl | hs
   ·obtain ⟨n1,n2,n3⟩:=I b (by simp [show b∈f from z])
    have t:b∈[a,s,e]:=hb
    simp only[Ai,Bc,or_false] at t
    rcases t with h | h | h
    ·exact n1 h
    ·exact n2 h
    ·exact n3 h
   ·exact hs.2 (.inl rfl) b hb (by simp [show b∈f from z])⟩) (λb hb=>(nomatch hb))).tomid
 have p:∀{G:List Addr},(∀b∈G,b∈x++(A++f))->Kp G H (upd H e (.lst V)):=λ{G} hG b o q z=>by
  have : b≠e:=by
   rintro rfl
   rcases z with z | z
   ·exact (I _ (hG _ z)).2.2 rfl
   ·rw[L] at q; cases q; rcases z with ⟨_,z⟩ | ⟨_,_,z⟩ <;> cases z
  rw[Cn this]; exact q
 refine ⟨_,e3,a,C,s,_,_,rfl,R,T.cl,T.ne,i9,.inl ⟨rfl,_,Ua.of L⟩,e,_,y,rfl,rfl,L,by simp,?_⟩
 rw[List.dropLast_concat]
 obtain ⟨hC,hv⟩:=At.wslot (T:=⟨some y,.dat .sh l,f⟩::U) (H':=upd H e (.lst V)) (Vs:=[]) (κ':=Fv C a w r u) (F':=a::s::e::(x++A)) hB Z (λ_ z=>(nomatch z)) rfl
  ⟨s,e,vl,V,x,A,rfl,z1,J,E,λb hb=>I b (by simp only[Ar] at hb ⊢; rcases hb with hb | hb <;> simp [hb]),by rw[Cn J]; exact R,by rw[Cn E]; exact g2,Cg,
   g4.kp (p λb hb=>Ae _ hb),r1.kp (p λb hb=>by simp [hb]),by rw[Bn] at g6; omega,g7,hn⟩
  (λb hb=>.inl hb)
  (λb hb=>.inl (by simp only[Ar,Ai] at hb ⊢; rcases hb with hb | hb | hb | hb | hb <;> simp [hb]))
  (λb o q hb=>by
   rw[show (Fv C a w r (u++[l])).c=3 from rfl,fT] at hb
   rw[Cn (λz=>hb (by simp [z]))]; exact q)
  (λb hb=>by
   rw[show (Fv C a w r (u++[l])).c=3 from rfl,fT] at hb
   simp only[Ai,Bc,or_false] at hb
   rcases hb with rfl | rfl | rfl
   ·exact ⟨_,by rw[Cn J]; exact R⟩
   ·exact ⟨_,by rw[Cn E]; exact g2⟩
   ·exact ⟨_,Cg⟩)
 exact k (.dat .sh l) ⟨D.sl.set i (.obj (Fv C a w r u)),D.n⟩ y f _ _ hv (Qs (v:=.ref a) hS) hC B
theorem wL(T:BoxT X.K C)(u:PE X o (Kc i))(d:Ff o "earlier" X.env (eval o X.env)=eval o X.env:=by rfl)
  (m:∀b,isTrue (.Attribute o "earlier" pos) X.env b=(do let v <- b; Gp (Expr.Attribute o "earlier" pos).pos; Gf [v] (truthy v)):=by intro _; rfl) :
  fH X (.Attribute o "earlier" pos) (zG C i):=by
 refine PT.imp (B3 (cP u d) m) λA H Q h=>?_
 obtain ⟨L,Y,S,U,p,P,rfl,g,j,c,k⟩:=h
 obtain ⟨a,R,D,l,w,c⟩:=c
 obtain ⟨F,E,n,t⟩:=Pv g j w
 obtain ⟨q,e,B,f,z,y,rfl,G,M,I,J,x,g2,s,W,r,N,O,V⟩:=id t
 refine ⟨_,n,a,C,q,_,_,rfl,x,T.cl,T.ne,i9,!l.isEmpty,.inl ⟨f,Ua.of s,?_⟩,k _ p S H rfl g j c⟩
 have:=r.len
 cases f <;> cases l <;> first | rfl | cases this
def vU(h:Int)(t:Addr):List (Str×V):=[("holes",.int h),("lying",.ref t)]
theorem qW{k:Nat}(T:BoxT X.K C){s1 s2 s3:Pos}{v:Expr}(ho:∀p,PE X (.Name "self" p) (Kc i))(hv:PE X v (Kc j))(h8:El v (some (.Attribute (.Name "self" L) "holes" I)) s1.line X.env=pure false:=by rfl)(q0:El (.Tuple [.List [] J,.List [] B,.List [] f] k lp) (some (.Attribute (.Name "self" M) "lying" d)) s2.line X.env=pure false:=by rfl)(h7:El (.List [] lp) (some (.Attribute (.Name "self" E) "earlier" A)) s3.line X.env=pure false:=by rfl)(k9:An [.List [] J,.List [] B,.List [] f] X.env=(false,eval (.List [] J) X.env)::An [.List [] B,.List [] f] X.env:=by rfl)(k0:An [.List [] B,.List [] f] X.env=(false,eval (.List [] B) X.env)::An [.List [] f] X.env:=by rfl)(k5:An [.List [] f] X.env=(false,eval (.List [] f) X.env)::An [] X.env:=by rfl){h6:Pos}(h7:El (.List [] h6) (some (.Attribute (.Name "self" E) "earlier" A)) s3.line X.env=pure false:=by rfl):Uq X [.Assign [.Attribute (.Name "self" L) "holes" I] v s1,.Assign [.Attribute (.Name "self" M) "lying" d] (.Tuple [.List [] J,.List [] B,.List [] f] k lp) s2,.Assign [.Attribute (.Name "self" E) "earlier" A] (.List [] h6) s3] (j7 C i j):=by
 refine Uo.impD (Ja (jI (ho _) hv h8) (Ja (jI (ho _) (K6 (Do (Yi Ir) (Do (Yi Ir) (Do (Yi Ir) Ir k5) k0) k9)) q0) (Ni (jI (ho _) (Yi Ir) h7)))) λD σ H h=>?_
 obtain ⟨H0,Y,S,U,δ,P,rfl,hS,hT,hA,hd,k1,k2,k3,k4⟩:=h
 obtain ⟨x,a,c,m,hi,hj,hd⟩:=hd
 obtain ⟨F,e2,e3,hF,g,g1,g2⟩:=Pv hS hA hi
 have h9:F=[x,a]:=hF
 subst h9
 obtain ⟨h4,q2,q3⟩:=Hn hS hj
 have qm:h4∈S:=Bf q2
 obtain ⟨u,xx,G⟩:=h4
 have k7:xx=.dat m (.int c):=q3
 subst k7
 obtain ⟨w,qv,k8,_⟩:=hA.ok _ (Ae _ qm)
 have k6:u=some w:=qv
 subst k6
 obtain ⟨rfl,_⟩:=k8.int_inv
 have qe:(vs S)[j]? = some (some (.int c)):=Lv q2
 refine ⟨_,qe,_,e3,x,C,a,[],rfl,g1,T.cl,T.nh,(by show 0<1000; decide),?_⟩
 refine ⟨(by show 0<=Ba; exact Cw _),λy n1=>⟨(by show 0<=Ba; exact Cw _),λO n2=>⟨(by show 0<=Ba; exact Cw _),λW n3=>⟨(by show 3<=Ba; decide),λt nt=>?_⟩⟩⟩⟩
 have w1:upd H x (.ins C a (Ls "holes" (.int c) [])) x=some (.ins C a (Ls "holes" (.int c) [])):=Cg
 have wd:upd H x (.ins C a (Ls "holes" (.int c) [])) a=some (.own x):=by rw[Cn g.symm]; exact g2
 have wk:∀b o,H b=some o->b≠x->upd H x (.ins C a (Ls "holes" (.int c) [])) b=some o:=λb o q z=>by rw[Cn z]; exact q
 generalize upd H x (.ins C a (Ls "holes" (.int c) []))=Ha at *
 have q1:x≠y:=Ea w1 n1
 have a1:upd Ha y (.lst []) y=some (.lst []):=Cg
 have s1:=Et n1 (.lst [])
 generalize upd Ha y (.lst [])=Hb at *
 have a2:upd Hb O (.lst []) O=some (.lst []):=Cg
 have s2:=Et n2 (.lst [])
 generalize upd Hb O (.lst [])=Hc at *
 have a3:upd Hc W (.lst []) W=some (.lst []):=Cg
 have s3:=Et n3 (.lst [])
 generalize upd Hc W (.lst [])=Hd at *
 have a4:upd Hd t (.tup [.ref y,.ref O,.ref W]) t=some (.tup [.ref y,.ref O,.ref W]):=Cg
 have s4:=Et nt (.tup [.ref y,.ref O,.ref W])
 generalize upd Hd t (.tup [.ref y,.ref O,.ref W])=He at *
 have sA:Lu Ha He:=((s1.trans s2).trans s3).trans s4
 have b1:=s4 _ _ (s3 _ _ (s2 _ _ a1))
 have b2:=s4 _ _ (s3 _ _ a2)
 have b3:=s4 _ _ a3
 refine ⟨_,e3,x,C,a,_,rfl,sA _ _ w1,T.cl,T.nl,(by show 1<1000; decide),?_⟩
 have f1:Ls "lying" (V.ref t) (Ls "holes" (.int c) [])=(vU c t):=by
  have k:¬ (("holes" : Str) = "lying"):=by decide +kernel
  show (if ("holes" : Str) = "lying" then _ else (("holes" : Str),V.int c)::Ls "lying" (.ref t) [])=_
  rw[if_neg k]
  rfl
 rw[f1]
 have c1:upd He x (.ins C a (vU c t)) x=some (.ins C a (vU c t)):=Cg
 have ck:∀b o,He b=some o->b≠x->upd He x (.ins C a (vU c t)) b=some o:=λb o q z=>by rw[Cn z]; exact q
 generalize upd He x (.ins C a (vU c t))=Hf at *
 refine ⟨(by show 0<=Ba; exact Cw _),λe ne=>?_⟩
 have d1:upd Hf e (.lst []) e=some (.lst []):=Cg
 have s5:=Et ne (.lst [])
 have f2:Ls "earlier" (V.ref e) (vU c t)=pC c (.ref t) e:=by
  have k:¬ (("holes" : Str) = "earlier"):=by decide +kernel
  have k2:¬ (("lying" : Str) = "earlier"):=by decide +kernel
  show (if ("holes" : Str) = "earlier" then _ else (("holes" : Str),V.int c)::(if ("lying" : Str) = "earlier" then _ else (("lying" : Str),V.ref t)::Ls "earlier" (.ref e) []))=_
  rw[if_neg k,if_neg k2]
  rfl
 generalize upd Hf e (.lst [])=Hg at *
 refine ⟨_,e3,x,C,a,_,rfl,s5 _ _ c1,T.cl,T.ne,(by show 2<1000; decide),?_⟩
 rw[f2]
 have nx:∀{l:Addr} {o:HO},He l=some o->o≠.ins C a (Ls "holes" (.int c) [])->l≠x:=λ{l o} q z r=>by
  rw[r,sA _ _ w1] at q
  cases q
  exact z rfl
 have y1:y≠x:=nx b1 (λz=>by cases z)
 have y2:O≠x:=nx b2 (λz=>by cases z)
 have y3:W≠x:=nx b3 (λz=>by cases z)
 have yt:t≠x:=nx a4 (λz=>by cases z)
 have ye:e≠x:=λz=>by rw[z] at ne; rw[ne] at c1; cases c1
 have h1:∀b o,H b=some o->b≠x->Hg b=some o:=λb o q z=>s5 _ _ (ck _ _ (sA _ _ (wk _ _ q z)) z)
 have Z:∀{l:Addr} {o:HO},He l=some o->l≠x->Hg l=some o/\e≠l:=λ{l o} q z=>⟨s5 _ _ (ck _ _ q z),λr=>by have:=ck _ _ q z; rw[<- r,ne] at this; cases this⟩
 have fr:∀{l:Addr},Ha l=none->l≠x->H l=none:=λ{l} q z=>by
  cases r:H l with
  | none=>rfl
  | some o=>rw[wk _ _ r z] at q; cases q
 have h2:H y=none:=fr n1 y1
 have N:∀{l:Addr} {Hx Hy:Hp},Lu Hx Hy->Hy l=none->Hx l=none:=λ{l Hx Hy} s q=>s.free q
 have h3:H O=none:=fr (N s1 n2) y2
 have h5:H W=none:=fr (N (s1.trans s2) n3) y3
 have q4:H t=none:=fr (N ((s1.trans s2).trans s3) nt) yt
 have h0:H e=none:=by
  cases r:H e with
  | none=>rfl
  | some o=>rw[ck _ _ (sA _ _ (wk _ _ r ye)) ye] at ne; cases ne
 have dl:∀{l:Addr},H l=none->l≠a:=λ{l} q z=>by rw[z,g2] at q; cases q
 have up:∀{l:Addr} {o:HO},Hg l=some o->l≠x->upd Hg x (.ins C a (pC c (.ref t) e)) l=some o:=λ{l o} q z=>by rw[Cn z]; exact q
 obtain ⟨i1,j1⟩:=Z b1 y1
 obtain ⟨i2,j2⟩:=Z b2 y2
 obtain ⟨i3,j3⟩:=Z b3 y3
 obtain ⟨it,jt⟩:=Z a4 yt
 obtain ⟨hB,hv⟩:=At.wslot (H':=upd Hg x (.ins C a (pC c (.ref t) e))) (Vs:=[]) (κ':=Fv C x c (.tuple [.list [],.list [],.list []]) []) (F':=x::a::e::((y::[])++((O::[])++((W::[])++[]))++[])) hA e2 (λ_ z=>(nomatch z)) rfl
  ⟨a,e,.ref t,[],(y::[])++((O::[])++((W::[])++[])),[],rfl,g,ye.symm,(dl h0).symm,λb Q=>by
    simp only[Bo,Ar,Ai,Bc,or_false] at Q
    rcases Q with rfl | rfl | rfl
    ·exact ⟨y1,dl h2,j1.symm⟩
    ·exact ⟨y2,dl h3,j2.symm⟩
    ·exact ⟨y3,dl h5,j3.symm⟩,Cg,up (h1 _ _ g2 g.symm) g.symm,up d1 ye,
   .tup (up it yt) (by show 3<=Ba; decide) (.cons (.lst (up i1 y1) (Cw _) .nil) (.cons (.lst (up i2 y2) (Cw _) .nil) (.cons (.lst (up i3 y3) (Cw _) .nil) .nil))),.nil,Cw _,rfl,rfl⟩
  (λb Q=>by
   have R:b∈[x,a,e]:=Q
   simp only[Ai,Bc,or_false] at R
   rcases R with rfl | rfl | rfl
   ·exact .inl (by show b∈[b,a]; simp)
   ·exact .inl (by show b∈[x,b]; simp)
   ·exact .inr h0)
  (λb Q=>by
   simp only[Bo,Cd,Gs,Ai,Bc,or_false] at Q
   rcases Q with rfl | rfl | rfl | rfl | rfl | rfl
   ·exact .inl (by simp)
   ·exact .inl (by simp)
   ·exact .inr (.inr h0)
   ·exact .inr (.inr h2)
   ·exact .inr (.inr h3)
   ·exact .inr (.inr h5))
  (λb o q Q=>by
   have nb:b≠x:=λz=>Q (by rw[z]; show x∈[x,a]; simp)
   exact up (h1 _ _ q nb) nb)
  (λb Q=>by
   have R:b∈[x,a]:=Q
   simp only[Ai,Bc,or_false] at R
   rcases R with rfl | rfl
   ·exact ⟨_,Cg⟩
   ·exact ⟨_,up (h1 _ _ g2 g.symm) g.symm⟩)
 have:=k1 ⟨δ.sl.set i (.obj (Fv C x c (.tuple [.list [],.list [],.list []]) [])),δ.n⟩ _ _ (Qs (v:=.ref x) hS) hB hd
 exact Eq.mp (congrArg (λz=>D.nx z _) hv) this
end
section
variable{K:PySem.W.Frag}{C a x y:Addr}{h i j k:Nat}{e:DS}{P:DV->DS->Prop}{D:DEnds}{is:List Nat}{u xs ys:List DV}{v:DV}{s κ':Kind}{pg:Pr}{E:PX}{t:Addr->DS->Prop}{A:Addr->List DV->Nat->Prop}{R:DV->List DV->Nat->Prop}{n:Nat}{w:DA}{F:DE}{f m:Str}{r:Int}{o:Ad}{g:List Ad}{B:(Addr->DS->Prop)->DB}{ne:Bool}{c:V}{d:Ad}{md:Md}
theorem e_fld:Q0 K i f e P=(match e.sl[i]? with | some (.obj s)=>(match s.fl f with | some d=>Xh K s f d/\P (.dat .sh d) e | none=>False) | _=>False):=rfl
theorem e_fldh:(Fv C a r o g).fl "holes" = some (.int r):=EB
theorem e_fldl:(Fv C a r o g).fl "lying" = some o:=DQ
theorem e_hash[T:BoxT K C]:Xh K (Fv C a r o g) "holes" (.int r)=True:=eq_true (HR T)
theorem e_hasl[T:BoxT K C]:Xh K (Fv C a r o g) "lying" o=True:=eq_true (GW T)
theorem e_i1:Nv K C "let_lie" (Fv C a r o g)=True:=eq_true (Ku (by decide +kernel) (by decide +kernel) (by decide +kernel))
theorem e_i2:Nv K C "place_of" (Fv C a r o g)=True:=eq_true (Ku (by decide +kernel) (by decide +kernel) (by decide +kernel))
theorem e_i3:Nv K C "has_card" (Fv C a r o g)=True:=eq_true (Ku (by decide +kernel) (by decide +kernel) (by decide +kernel))
theorem e_i4:Nv K C "add" (Fv C a r o g)=True:=eq_true (Ku (by decide +kernel) (by decide +kernel) (by decide +kernel))
theorem e_i5:Nv K C "needle" (Fv C a r o g)=True:=eq_true (Ku (by decide +kernel) (by decide +kernel) (by decide +kernel))
theorem e_i6:Nv K C "lay" (Fv C a r o g)=True:=eq_true (Ku (by decide +kernel) (by decide +kernel) (by decide +kernel))
theorem e_i7:Nv K C "set_by" (Fv C a r o g)=True:=eq_true (Ku (by decide +kernel) (by decide +kernel) (by decide +kernel))
theorem e_i9:Nv K C "go" (Fv C a r o g)=True:=eq_true (Ku (by decide +kernel) (by decide +kernel) (by decide +kernel))
theorem e_i10:Nv K C "cut" (Fv C a r o g)=True:=eq_true (Ku (by decide +kernel) (by decide +kernel) (by decide +kernel))
theorem e_i11:Nv K C "take" (Fv C a r o g)=True:=eq_true (Ku (by decide +kernel) (by decide +kernel) (by decide +kernel))
theorem e_i12:Nv K C "undo" (Fv C a r o g)=True:=eq_true (Ku (by decide +kernel) (by decide +kernel) (by decide +kernel))
theorem e_i13:Nv K C "heaps" (Fv C a r o g)=True:=eq_true (Ku (by decide +kernel) (by decide +kernel) (by decide +kernel))
theorem e_tk0:Ml u []=some ([],u):=rfl
theorem e_tk1:Ml u (i::is)=(match u[i]? with | some x=>(match Ml (u.set i .un) is with | some (ys,tl)=>some (x::ys,tl) | none=>none) | none=>none):=rfl
theorem e_pl0:Rv u [] ys=u:=by unfold Rv; rfl
theorem e_pl1:Rv u (i::is) (v::ys)=Rv (u.set i v) is ys:=rfl
theorem e_io0:Kz []=true:=rfl
theorem e_io1:Kz (.obj s::xs)=Kz xs:=by rw[Kz]; rfl
theorem e_io2:Kz (.drw::xs)=Kz xs:=by rw[Kz]; rfl
theorem e_cG:Ss is pg t w e P=(match Ml e.sl is with | some (ys,_)=>Kz ys=true/\w e (λxs a=>vJ is pg t xs a P) | none=>False):=rfl
theorem e_cGB:vJ is pg t xs e P=(match datas xs,Ml e.sl is with | some ds,some (ys,u)=>noPk xs=true/\Kz ys=true/\pg ys ds e.n (λx a n'=>P x ⟨Rv u is a,n'⟩) (λc a n'=>t c ⟨Rv u is a,n'⟩) | _,_=>False):=rfl
theorem e_cX:jJ E t w e P=(w e λxs a=>jP E t xs a P):=rfl
theorem e_cXB:jP E t xs e P=(match datas xs with | some ds=>E ds (λd=>P (.dat .ow d) e) (λc=>t c e) | none=>False):=rfl
theorem e_mG:Mb K C m i pg t w e P=(match e.sl[i]? with | some (.obj s)=>Nv K C m s/\Ss [i] pg t w e P | _=>False):=rfl
theorem e_mk:dO C pg t w e P=(w e λxs a=>uS C pg t xs a P):=rfl
theorem e_mkB:uS C pg t xs e P=(match datas xs with | some ds=>noPk xs=true/\∀x a,pg [.obj (cM C x a)] ds e.n (λy b n'=>y=.dat .ow .none/\∃s,b=[.obj s]/\P (.obj s) ⟨e.sl,n'⟩) (λc _ n'=>t c ⟨e.sl,n'⟩) | none=>False):=rfl
theorem e_ok0:Sy [] []=True:=rfl
theorem e_ok1:Sy (.obj s::xs) (.obj κ'::ys)=(κ'.a=s.a/\Sy xs ys):=rfl
theorem e_ok2:Sy (.drw::xs) (.drw::ys)=Sy xs ys:=rfl
theorem e_ka:(Fv C a r o g).a=a:=rfl
theorem e_kb:(cM C x y).a=x:=rfl
theorem e_rGn:(xV ys n R).nx e=(n<=e.n/\Sy ys (e.sl.take ys.length)/\R (.dat .ow .none) (e.sl.take ys.length) e.n):=rfl
theorem e_rGr:(xV ys n R).rt v e=(n<=e.n/\Sy ys (e.sl.take ys.length)/\uH ys v/\R v (e.sl.take ys.length) e.n):=rfl
theorem e_eG:IZ ys n A a e=(n<=e.n/\Sy ys (e.sl.take ys.length)/\A a (e.sl.take ys.length) e.n):=rfl
theorem e_an1:uH ys (.dat md d)=(Pg ys=true->Hm d=true):=rfl
theorem e_hd0:Pg []=false:=rfl
theorem e_hd1:Pg (.obj s::xs)=Pg xs:=rfl
theorem e_hd2:Pg (.drw::xs)=true:=rfl
theorem e_raG:tM t C D e=t C e:=rfl
theorem e_try:zA K j k C B D e=B (λc a=>PySem.W.subIn K (.ref c) (.ref C)=some true/\∀x,D.nx ⟨((a.sl.set k .un).set j (.obj (bY x c))).set k .un,a.n⟩) D e:=rfl
theorem e_isNV:mP ne i e P=(match e.sl[i]? with | some (.dat _ d)=>P (.dat .ow (.bool (match ne with | true=>!isNone d | false=>isNone d))) e | some (.obj _)=>P (.dat .ow (.bool ne)) e | _=>False):=rfl
theorem e_isx:E3 K i c e P=(match e.sl[i]? with | some (.obj s)=>∃x C b,s=bY x C/\ExcK K C/\PySem.W.kitOne K (.ref C) (oA c)=some b/\P (.dat .ow (.bool b)) e | _=>False):=rfl
theorem e_gO{Q:DS->Prop}:tR i v e Q=(match v with | .obj s=>Q ⟨e.sl.set i (.obj s),e.n⟩ | _=>False):=rfl
theorem e_lie:uM C i F D e=(F e λx a=>U6 C i x a D):=rfl
theorem e_tk{b:Type}{a:b}{l:List b}{n:Nat}:(a::l).take (n+1)=a::l.take n:=rfl
theorem e_tk'{a:Type}{l:List a}:l.take 0=[]:=rfl
theorem e_tt{p:Prop}:(True->p)=p:=propext ⟨λh=>h trivial,λh _=>h⟩
theorem e_Ft{p:Prop}:(False->p)=True:=propext ⟨λ_=>trivial,λ_ z=>z.elim⟩
theorem e_lieB:U6 C i (.dat .sh d) e D=(Hm d=true/\∃a h o g,e.sl[i]? = some (.obj (Fv C a h o g))/\D.nx ⟨e.sl.set i (.obj (Fv C a h d g)),e.n⟩) :=
 propext ⟨λz=>(show Md.sh≠.pk/\Hm d=true/\∃a h o g,e.sl[i]? = some (.obj (Fv C a h o g))/\D.nx ⟨e.sl.set i (.obj (Fv C a h d g)),e.n⟩ from z).2,
  λz=>show Md.sh≠.pk/\Hm d=true/\∃a h o g,e.sl[i]? = some (.obj (Fv C a h o g))/\D.nx ⟨e.sl.set i (.obj (Fv C a h d g)),e.n⟩ from ⟨λq=>(nomatch q),z⟩⟩
theorem e_le{n:Nat}:(n<=n)=True:=propext ⟨λ_=>trivial,λ_=>Au n⟩
end
end DL
namespace Nd
open PySem PySem.Spec PyProof.Rows L2
def F8(b:Bool)(K:PySem.W.Frag)(H:Hp)(a:Addr)(xs:List V):Prop:=match b with
 | true=>Tr K H a xs
 | false=>Ua K H a xs
def IB(b:Bool)(h:Heap)(it l:Addr)(k:Nat):Prop:=match b with
 | true=>h.IsTupleIter it l k
 | false=>h.IsListIter it l k
def QB(b:Bool)(h:Heap)(l:Addr)(a:Array Value):Prop:=match b with
 | true=>h.IsTuple l a
 | false=>h.IsList l a
def nB(b:Bool):String:=match b with
 | true => "tuple_iterator"
 | false => "list_iterator"
theorem IB.ex{b:Bool}{h:Heap}{it l:Addr}{k:Nat}(x:IB b h it l k):∃o,h.get? it=some o/\o.data=.fields #[.ref l,.int k 0]:=by
 cases b <;> (obtain ⟨o,e,_,d⟩:=x; exact ⟨o,e,d⟩)
theorem IB.at{b:Bool}{h h':Heap}{it l:Addr}{k:Nat}(x:IB b h it l k)(kp:∀o,h.get? it=some o->h'.get? it=some o):IB b h' it l k:=by
 cases b <;> (obtain ⟨o,e,c,d⟩:=x; exact ⟨o,kp o e,c,d⟩)
theorem yP{X:Cx}{d:List (Addr×Obj)}{e:L2.St}{H:Hp}{s:Ak}{a:Addr}{xs:List V}{b:Bool}(I:Inv X d e H s)(h:F8 b X.K H a xs):∃c:List Value,Fj xs c/\QB b s.heap a c.toArray/\xs.length<=Ba:=by
 cases b with
 | true=>exact I.tuple h
 | false =>
  obtain ⟨c,r,p,z⟩:=I.list h
  exact ⟨c,r,p.isList,z⟩
theorem mG{X:Cx}{c:List (Addr×Obj)}{d:L2.St}{H:Hp}{s:Ak}{a:Addr}{xs ys:List V}{b:Bool}(I:Inv X c d H s)(h:F8 b X.K H a xs)(h':F8 b X.K H a ys):xs=ys:=by
 cases b with
 | true=>exact I.tuple_inj h h'
 | false=>exact I.list_inj h h'
theorem Up{prog:Bk}{w:World}{A:Cf}(d:A.handled=none)(b:Bool)(it l:Addr)(c:l≠it)(a:Array Value):Draws prog w A it [it,l] a.size (λi v=>a[i]? = some v) (λi h=>IB b h it l i/\QB b h l a):=by
 cases b with
 | true=>exact pN d it l c a
 | false=>exact Draws.list d it l c a
abbrev FQ(c:Bool)(h:Heap)(d:Addr):Heap:=h.push { cls:=.type (nB c),data:=.fields #[.ref d,.int 0 0] }
abbrev JG(c e:Bool)(h:Heap)(d l:Addr):Heap:=(FQ c h d).push { cls:=.type (nB e),data:=.fields #[.ref l,.int 0 0] }
abbrev JC(c e:Bool)(h:Heap)(d l:Addr):Heap:=(JG c e h d l).push { cls:=.type "tuple",data:=.seq #[.ref h.objs.size,.ref (FQ c h d).objs.size] }
abbrev JE(c e:Bool)(h:Heap)(d l:Addr):Heap:=(JC c e h d l).push { cls:=.type "tuple",data:=.seq #[.none,.none] }
abbrev FS(c e:Bool)(h:Heap)(d l:Addr):Heap:=(JE c e h d l).push { cls:=.type "zip",data:=.fields #[.none,.bool false,.bool false,.ref (JG c e h d l).objs.size,.ref (JC c e h d l).objs.size] }
theorem QB.push{b:Bool}{h:Heap}{l:Addr}{a:Array Value}(x:QB b h l a)(o:Obj):QB b (h.push o) l a:=by
 cases b <;> (obtain ⟨u,e,r⟩:=x; exact ⟨u,Aq _ e,r⟩)
theorem Z7{prog:Bk}{w:World}{A:Cf}{E:Value->Ak->Prop}{s:Ak}{b:Bool}{l:Addr}{a:Array Value}{Q:Value->Ak->Prop}(h:QB b s.heap l a)(q:Q (.ref s.heap.objs.size) { s with heap:=FQ b s.heap l }):wpAny (model prog w) A (Zh (.ref l)) Q E s:=by
 cases b with
 | true=>exact eN h q
 | false=>exact Nb h q
theorem sG(c e:Bool)(d l:Addr)(xs ys:Array Value):Meets (Builtin.«zip.__new__» ⟨[.type "zip",.ref d,.ref l],[]⟩) (λ_ R s=>QB c s.heap d xs/\QB e s.heap l ys/\R (.ok (.ret (.ref (JE c e s.heap d l).objs.size))) { s with heap:=FS c e s.heap d l }) :=
 .of_wp λa w A R s h=>by
  obtain ⟨i,g,f,b,os⟩:=s
  obtain ⟨m,o,q⟩:=h
  have j:=sub_zip
  have k:QB c (Shared.heap ⟨i,g,f,b,os⟩) d xs:=m
  have n:QB e (Shared.heap ⟨FQ c i d,g,f,b,os⟩) l ys:=o.push _
  wp_walk using Z7 k,Z7 n
  exact ⟨_,rfl,q⟩
section
variable{prog:Bk}{w:World}{A:Cf}{E:Value->Ak->Prop}{s:Ak}
theorem vZ{c e:Bool}{d l:Addr}{xs ys:Array Value}{Q:Value->Ak->Prop}(r:QB c s.heap d xs)(t:QB e s.heap l ys)(k:∀h',IsZip h' (s.heap.objs.size+4) (s.heap.objs.size+2) (s.heap.objs.size+3) .none->Jn h' (s.heap.objs.size+2) (.ref s.heap.objs.size) (.ref (s.heap.objs.size+1))->Jn h' (s.heap.objs.size+3) .none .none->IB c h' s.heap.objs.size d 0->IB e h' (s.heap.objs.size+1) l 0->(∀c o,s.heap.get? c=some o->h'.get? c=some o)->Q (.ref (s.heap.objs.size+4)) { s with heap:=h' }):wpAny (model prog w) A (call (.type "zip") [.ref d,.ref l]) Q E s:=by
 refine callType_new PySem.F.called_zip (by decide) (PySem.F.typeCall_zip_2 _ _) (PySem.F.newCall_zip_2 _ _) (λm=>PySem.F.args_object_init_3 m _ _) PySem.F.entry_zip_new (sG c e d l xs ys) ⟨r,t,?_⟩
 have j:(FQ c s.heap d).objs.size=s.heap.objs.size+1:=Gz ..
 have g:(JG c e s.heap d l).objs.size=s.heap.objs.size+2:=by rw[Gz,j]
 have i:(JC c e s.heap d l).objs.size=s.heap.objs.size+3:=by rw[Gz,g]
 have n:(JE c e s.heap d l).objs.size=s.heap.objs.size+4:=by rw[Gz,i]
 have b:∀{h:Heap} {a:Addr} {u:Obj} (o:Obj),h.get? a=some u->(h.push o).get? a=some u:=λo e=>Aq _ e
 have f:(FS c e s.heap d l).get? (JE c e s.heap d l).objs.size=some _:=Be _ rfl
 have q:(FS c e s.heap d l).get? (JC c e s.heap d l).objs.size=some _:=b _ (Be _ rfl)
 have p:(FS c e s.heap d l).get? (JG c e s.heap d l).objs.size=some _:=b _ (b _ (Be _ rfl))
 have g2:(FS c e s.heap d l).get? (FQ c s.heap d).objs.size=some _:=b _ (b _ (b _ (Be _ rfl)))
 have v:(FS c e s.heap d l).get? s.heap.objs.size=some _:=b _ (b _ (b _ (b _ (Be _ rfl))))
 show _/\_
 rw[g,i,n] at f
 rw[j,g] at p
 rw[i] at q
 rw[j] at g2
 rw[n]
 exact ⟨⟨_,f,rfl⟩,k _ f p q (by cases c <;> exact ⟨_,v,rfl,rfl⟩) (by cases e <;> exact ⟨_,g2,rfl,rfl⟩) λc o x=>b _ (b _ (b _ (b _ (b _ x))))⟩
end
def DR(c e:Bool)(K:PySem.W.Frag)(a b:Addr):It :=
  ⟨λi H=>∃d f x y,F8 c K H a d/\F8 e K H b f/\d[i]? = some x/\f[i]? = some y,
   λi H x g=>∃p u v,x=.ref p/\H p=none/\g=upd H p (.tup [u,v])/\(∀d,F8 c K H a d->d[i]? = some u)/\∀f,F8 e K H b f->f[i]? = some v,
   λi H=>∃d f,F8 c K H a d/\F8 e K H b f/\(i=d.length\/(i<d.length/\i=f.length))⟩
theorem wX{P:Bk}{w:World}{K:PySem.W.Frag}{R:List Expr}{k:Nat}{pos:Pos}(c0 e0:Bool)(a b z TI TO n m:Addr)(p:ZApart z TI TO n m [n,a] [m,b])(na:a≠n)(nb:b≠m):Turn P w K (.Tuple R k pos) (DR c0 e0 K a b) [z,TI,TO,n,m] z (λi h=>IsZip h z TI TO .none/\Jn h TI (.ref n) (.ref m)/\(∃u v,Jn h TO u v)/\IB c0 h n a i/\IB e0 h m b i) where
 mem:=Ab
 obj:=λi h st c d=>by
  obtain ⟨L,e,⟨u,v,l⟩,G,Q⟩:=st
  obtain ⟨o1,e1,d1⟩:=G.ex
  obtain ⟨o2,e2,d2⟩:=Q.ex
  simp only[Ai,Bc,or_false] at d
  rcases d with rfl | rfl | rfl | rfl | rfl
  ·exact ⟨_,L,λv z=>by cases z⟩
  ·exact ⟨_,e,λv z=>by cases z⟩
  ·exact ⟨_,l,λv z=>by cases z⟩
  ·exact ⟨o1,e1,λv z=>by rw[d1] at z; cases z⟩
  ·exact ⟨o2,e2,λv z=>by rw[d2] at z; cases z⟩
 keep:=λi h h' st kp=>by
  obtain ⟨L,e,⟨u,v,l⟩,G,Q⟩:=st
  exact ⟨kp z (by simp) _ L,kp TI (by simp) _ e,⟨u,v,kp TO (by simp) _ l⟩,G.at λo q=>kp n (by simp) o q,Q.at λo q=>kp m (by simp) o q⟩
 item:=by
  intro X hP hw hK d i J s σ H E I Z st hg
  subst hP hw hK
  obtain ⟨xs,ys,x,y,r,D,hx,hy⟩:=hg
  obtain ⟨j,F,p1,h7⟩:=yP I r
  obtain ⟨f,B,p2,h3⟩:=yP I D
  obtain ⟨L,e,⟨o1,o2,l⟩,C,t⟩:=st
  have S:X.A.in1.handled=none:=I.ok.hd d
  have D1:=Up (prog:=X.prog) (w:=X.w) (A:=X.A.in1) S c0 n a na j.toArray
  have D2:=Up (prog:=X.prog) (w:=X.w) (A:=X.A.in1) S e0 m b nb f.toArray
  have h4:=F.length
  have h0:=B.length
  have lx:i<j.length:=by
   have:=(Aw.mp hx).1
   omega
  have ly:i<f.length:=by
   have:=(Aw.mp hy).1
   omega
  have zl:z<s.heap.objs.size:=Bb L
  have k2:TI<s.heap.objs.size:=Bb e
  have k7:TO<s.heap.objs.size:=Bb l
  have k6:n<s.heap.objs.size:=by obtain ⟨_,q,_⟩:=C.ex; exact Bb q
  have k5:m<s.heap.objs.size:=by obtain ⟨_,q,_⟩:=t.ex; exact Bb q
  refine yK D1 D2 p L e l ⟨C,p1⟩ ⟨t,p2⟩ (by simpa using lx) (by simpa using ly) λO M G Y q1 q2 a1 a2 a3 a4 a5 a6 hk=>⟨_,rfl,wpAny_letOwnedTupleGo_zip (s:={ s with heap:=G,toks:=Y }) a1 λQ k0 k1=>?_⟩
  have g:Dd z G Q:=k1
  have h6:j[i]? = some O:=by simpa using q1
  have h8:f[i]? = some M:=by simpa using q2
  obtain ⟨k3,U,h5⟩:=F.get hx
  rw[h6] at U
  cases U
  obtain ⟨k4,V,h9⟩:=B.get hy
  rw[h8] at V
  cases V
  have I1:Inv X J σ (upd H s.heap.objs.size (.tup [x,y])) { s with heap:=s.heap.push { cls:=.type "tuple",data:=.seq #[O,M] } } :=
   I.laid (t':=s.toks) (λb o q=>Aq _ q) (Au _) ⟨by show 2<=Ba; decide,[O,M],.cons h5 (.cons h9 .nil),_,Be _ rfl,rfl,0,rfl⟩
  have nT:∀c∈[z,TI,TO,n,m],c≠s.heap.objs.size:=λc d=>by
   simp only[Ai,Bc,or_false] at d
   rcases d with rfl | rfl | rfl | rfl | rfl <;> exact Cj (by assumption)
  have fr:∀c∈[z,TI,TO,n,m],(upd H s.heap.objs.size (.tup [x,y])) c=none:=λc d=>by rw[Cn (nT c d)]; exact (Z c d).1
  refine ⟨.ref s.heap.objs.size,_,Wi (fp:=[z,TI,TO,n,m]) (s:={ s with heap:=s.heap.push { cls:=.type "tuple",data:=.seq #[O,M] } }) (h':=Q) (t':=Y) I1 (λc o d q=>?_) (λc d=>⟨fr c d,(Z c d).2⟩),rfl,⟨_,x,y,rfl,I.hok.fresh (Au _),rfl,(λzs N=>by rw[mG I N r]; exact hx),λzs N=>by rw[mG I N D]; exact hy⟩,⟨k0,?_,⟨O,M,?_⟩,?_,?_⟩,fr⟩
  ·simp only[Ai,Bc,or_false,not_or] at d
   refine (g.2 c d.1).trans ?_
   by_cases T:c=s.heap.objs.size
   ·subst T
    have q':=(Be s.heap (o:={ cls:=.type "tuple",data:=.seq #[O,M] }) rfl).symm.trans q
    rw[show G.get? s.heap.objs.size=_ from a5]
    exact q'
   ·refine hk c o d.1 d.2.2.1 d.2.2.2.1 d.2.2.2.2 ?_
    have q0:(s.heap.push { cls:=.type "tuple",data:=.seq #[O,M] }).get? c=some o:=q
    rcases Heap.get?_push_cases q0 with zz | zz
    ·exact absurd zz.1 T
    ·exact zz
  ·exact (g.2 TI p.tiz).trans (hk TI _ p.tiz p.tito p.ti1 p.ti2 e)
  ·exact (g.2 TO p.toz).trans a2
  ·exact a3.1.at λo q=>(g.2 n p.z1).trans q
  ·exact a4.1.at λo q=>(g.2 m p.z2).trans q
 done:=by
  intro X hP hw hK d i J s σ H E I Z st hg
  subst hP hw hK
  obtain ⟨xs,ys,r,D,hx⟩:=hg
  obtain ⟨j,F,p1,h7⟩:=yP I r
  obtain ⟨f,B,p2,h3⟩:=yP I D
  obtain ⟨L,e,⟨o1,o2,l⟩,C,t⟩:=st
  have S:X.A.in1.handled=none:=I.ok.hd d
  have D1:=Up (prog:=X.prog) (w:=X.w) (A:=X.A.in1) S c0 n a na j.toArray
  have D2:=Up (prog:=X.prog) (w:=X.w) (A:=X.A.in1) S e0 m b nb f.toArray
  have h4:=F.length
  have h0:=B.length
  refine xS D1 D2 p L e l ⟨C,p1⟩ ⟨t,p2⟩ ?_ λG Y hk=>⟨rfl,Wi (fp:=[z,TI,TO,n,m]) (t':=Y) I (λc o d q=>?_) Z⟩
  ·rw[Av,Av]
   omega
  ·simp only[Ai,Bc,or_false,not_or] at d
   exact hk c o d.1 d.2.2.1 d.2.2.2.1 d.2.2.2.2 q
 self:=λ_ _ _ _ _ st h=>wpAny_pyIter_zip st.1 h
section
variable{X:Cx}
def IG(c e:Bool)(K:PySem.W.Frag)(h:TA):TI:=λg H R=>h g H λvs d=>∃a b,vs=[.ref a,.ref b]/\(∃f,F8 c K d a f)/\(∃i,F8 e K d b i)/\R (DR c e K a b) d
theorem T7{c e:Bool}{m:List Expr}{k:Nat}{tp:Pos}{a b:Expr}{Q:TA}{p pos:Pos}(W:Gl X "zip")(hm:X.mg "zip" = none)(Y:PA X [a,b] Q)(T:An [a,b] X.env=(false,eval a X.env)::An [b] X.env:=by rfl)(hp:(Cq pos (An [b] X.env)).any (·.1)=false:=by rfl):PI X (.Tuple m k tp) (.Call (.Name "zip" p) [a,b] [] pos) (IG c e X.K Q):=by
 intro d s S H R I h
 refine Call_ (Yc I W hm (u:=.type "zip") (by decide +kernel) (Iz (Gy (Y pos d s S H _ I h) λus i ⟨vs,B,r,r1,Z⟩=>?_) T hp))
 obtain ⟨l1,l2,e,⟨xs,G⟩,⟨ys,F⟩,q⟩:=Z
 subst e
 obtain ⟨u1,u2,rfl,C,E⟩:=vals2 r1
 cases C
 cases E
 obtain ⟨P,h1,y,h3⟩:=yP r G
 obtain ⟨O,V,w,h0⟩:=yP r F
 have v:∀{b:Bool} {l:Addr} {t:Array Value},QB b i.heap l t->l<i.heap.objs.size:=λ{b l t} x=>by cases b <;> exact let ⟨o,q,_⟩:=x; Bb q
 have j:=v y
 have f:=v w
 refine vZ y w λh2 N L A D J U=>wpAny_pyIter_zip N ?_
 have g:∀n,Nj X d B (i.heap.objs.size+n):=λn=>r.fpOk (Nat.le_add_right _ _) (r.hok.fresh (Nat.le_add_right _ _))
 have fr:∀c∈[i.heap.objs.size+4,i.heap.objs.size+2,i.heap.objs.size+3,i.heap.objs.size,i.heap.objs.size+1],Nj X d B c:=λc M=>by
  simp only[Ai,Bc,or_false] at M
  rcases M with rfl | rfl | rfl | rfl | rfl
  ·exact g 4
  ·exact g 2
  ·exact g 3
  ·exact g 0
  ·exact g 1
 exact ⟨i.heap.objs.size+4,_,_,_,B,rfl,r.kept (t':=i.toks) U,wX c _ l1 l2 _ _ _ _ _ (BI _ _ _ j f) (Cj j) (by intro z; rw[z] at f; exact absurd f (Nat.not_lt.mpr (Vt _))),⟨N,L,⟨_,_,A⟩,D,J⟩,fr,q⟩
end
end Nd
namespace DL
open PySem PySem.Spec PyProof.Rows L2 Nd
def JJ(b:List Str)(x:DV)(a:DS)(P:Md->List Ad->DS->Prop):Prop:=match x with
 | .dat m (.tuple es)=>P (Kd m) ((b.zip es).map λp=>.tuple [.str p.1,p.2]) a
 | _=>False
def X9(d:List Str)(c:DE):DI:=λb P=>c b λx a=>JJ d x a P
section
variable{K:PySem.W.Frag}
theorem wM{a b:Addr}{d:List Str}{m:Md}{es:List Ad}{G:List Addr}(r:∀H,Tr K H a (d.map V.str)):IterOk K (DR true true K a b) [⟨some (.ref b),.dat (Kd m) (.tuple es),G⟩] (Kd m) ((d.zip es).map λp=>.tuple [.str p.1,p.2]) where
 md:=aK m
 hd:=kN
 np:=uB
 go:=λH n i h z=>by
  obtain ⟨b2,j,k,f,g,_⟩:=(Kr h Ab).tup_inv
  cases k
  have I:=g.len
  rw[Af,Tv] at z
  exact ⟨_,j,.str d[i],j[i],r H,Tr.of f,by simp [show i<d.length by omega],by simp [show i<j.length by omega]⟩
 yld:=λH n i x L h z y=>by
  obtain ⟨b2,j,k,f,g,_⟩:=(Kr h Ab).tup_inv
  cases k
  rw[Af,Tv] at z
  obtain ⟨t,u,v,rfl,C,rfl,D,E⟩:=y
  have o:=D _ (r H)
  have q:=E j (Tr.of f)
  rw[Bu,show d[i]? = some d[i] from by simp [show i<d.length by omega]] at o
  cases o
  obtain ⟨M,J,l,s,w⟩:=g.get (i:=i) (e:=es[i]) (by simp [show i<es.length by omega])
  rw[q] at l
  cases l
  have A:=Et C (.tup [.str d[i],v])
  refine ⟨A,.tuple [.str d[i],es[i]],J,?_,.tup Cg (by simp [Fn]) ?_,λc B=>⟨_,Ab,w.subset B⟩⟩
  ·rw[Bu,show (d.zip es)[i]? = some (d[i],es[i]) from List.getElem?_zip_eq_some.mpr ⟨by simp [show i<d.length by omega],by simp [show i<es.length by omega]⟩]
   rfl
  ·have:=RdFs.cons (F:=[]) (RdF.str d[i]) (RdFs.cons (s.kp (Kp.of A)) RdFs.nil)
   rw[Bo,Gs] at this
   exact this
 stop:=λH n h=>by
  obtain ⟨b2,j,k,f,g,_⟩:=(Kr h Ab).tup_inv
  cases k
  have I:=g.len
  refine ⟨_,j,r H,Tr.of f,?_⟩
  rw[Af,Tv,Af]
  omega
end
section
variable{X:Cx}{f:List Expr}{j:Nat}{i p pos:Pos}{a b:Expr}{g:DE}{l:DA}{c:Addr}{d:List Str}
theorem W1(y:Gl X "zip")(C:X.mg "zip" = none)(A:PE X a (tC (.ref c)))(t:∀H,Tr X.K H c (d.map V.str))(O:d.length<=1000)(hb:Fg X b g)(s:An [a,b] X.env=(false,eval a X.env)::An [b] X.env:=by rfl)(r:An [b] X.env=(false,eval b X.env)::An [] X.env:=by rfl)(M:(Cq pos (An [b] X.env)).any (·.1)=false:=by rfl):sC X (.Tuple f j i) (.Call (.Name "zip" p) [a,b] [] pos) (X9 d g):=by
 refine PI.imp (T7 (c:=true) (e:=true) y C (Do A (Do hb Ir r) s) s M) λU H R h=>?_
 obtain ⟨J,Y,S,T,E,P,rfl,L,N,B,k⟩:=h
 refine ⟨J,Y,S,T,E,_,rfl,L,N,B,λx o v F u I w z n q=>?_⟩
 unfold JJ at q
 split at q
 ·rename_i m G
  obtain ⟨b,Q,rfl,hb,W,D⟩:=(n.told mem_mid).tup_inv
  have l:(d.zip G).length<=Ba:=by rw[Tv]; exact Bw (Nat.min_le_left _ _) (sz O)
  refine ⟨c,b,rfl,⟨_,t _⟩,⟨Q,Tr.of hb⟩,k _ _ o _ [_] u I w z ((n.mid.wk (aN _)).tomid) (wM t) (by rw[Af]; exact l) q⟩
 ·exact q.elim
theorem e_zk{d:List Str}{g:DE}{b:DS}{P:Md->List Ad->DS->Prop}:X9 d g b P=(g b λx a=>JJ d x a P):=rfl
theorem e_zkB{d:List Str}{m:Md}{es:List Ad}{a:DS}{P:Md->List Ad->DS->Prop}:JJ d (.dat m (.tuple es)) a P=P (Kd m) ((d.zip es).map λp=>.tuple [.str p.1,p.2]) a:=rfl
theorem e_mdIt:Kd .sh=.sh:=rfl
end
section
variable{P:Bk}{w:World}{K:PySem.W.Frag}{mg:Str->Option Value}{base:Heap}{N:List Str}{b:Str}{a:Scope}{f:Addr}{g:Value}{A:Cf}{outer:List Env}{d:Ak}{c:Hp}{E:XK}
theorem pL{l:Addr->Prop}{C:Addr}{x:Str}{np i pos m fp n:Pos}{k:Str}{z:Int}{e:Expr}{j:Nat}(t:∀C H',l C->Lu c H'->E (.ref C) none H')(u:Gl (Kb (Iu P w) P w K mg base N b a f g A outer d c E) x)(s:mg x=some (.ref C))(r:PySem.W.excIn K C Ze "ValueError.__new__" = true)(o:PE (Kb (Iu P w) P w K mg base N b a f g A outer d c E) e (tC (.int z)))(p:z.natAbs.log2<1920)(l1:k.length<=1000)(l3:Str.length (toString z:Str)<=1000)(hd:(x == ("__debug__" : Str))=false:=by decide):PS (Kb (Iu P w) P w K mg base N b a f g A outer d c E) (.Raise (some (.Call (.Name x np) [.JoinedStr [.Constant (.str k) j m,.FormattedValue e (-1) none fp] n] [] i)) none pos) (pE K c (kG l C)):=by
 refine PS.impD (Wr u s r (Do (C7 Xz (J3 o)) Ir) hd) λD B q h=>?_
 obtain ⟨S,T,G,Q,rfl,y,F,v,hd,_⟩:=h
 exact ⟨k,rfl,by omega,z,rfl,p,_,rfl,by omega,λ_=>⟨(by show 1<=Ba; decide),t C q hd (tE v)⟩⟩
end
section
variable{X:Cx}{K:PySem.W.Frag}{H0:Hp}{Y:Addr->Prop}{B:List Ent}{CX:eL}{d:Nat}{f:Addr}{b:Bj}{ps:List Str}{pg:Pr}{g:Addr->DS->Prop}{E:XK}{x m fl:Str}{p pos a:Pos}{e o:Expr}{es:List Expr}{h:DA}{is:List Nat}{i:Nat}{C:Addr}
theorem Iq(a:X.K=K)(b:PE X o (Kc i))(hb:Ff o fl X.env (eval o X.env)=eval o X.env:=by rfl):Fg X (.Attribute o fl pos) (Q0 K i fl):=by
 subst a
 exact DY b hb
theorem Lb{pl:Sem Bool}(n:X.K=K)(r:BD X H0 Y B g E)(s:PE X o (Kc i))(c:Cls X.K C)(p:Meth X.K C m f)(F:FnOk X.prog X.w X.K X.mg X.base CX d f b ps (Ig X.K pg))(q:Room d X.A)(hb:Binds X.K b ps [])(u:Fu CX X E)
  (l:Wb X (e::es) h)
  (k:An (e::es) X.env=(false,eval e X.env)::An es X.env:=by rfl) (j:(Cq pos (An es X.env)).any (·.1)=false:=by rfl)
  (t:eval (.Call (.Attribute o m a) (e::es) [] pos) X.env=(do
   let ov <- eval o X.env
   Gp a.atName
   let (f,first) <- Gf [ov] (Hr ov m pl)
   Lc pos f first (Cq pos (An (e::es) X.env)) (Hu pos (Fd [] X.env))):=by rfl) :
  PE X (.Call (.Attribute o m a) (e::es) [] pos) (pA X.K H0 Y B (Mb K C m i pg g h)):=by
 subst n
 exact gX r s c p F q hb u l k j t
theorem rY{pl:Sem Bool}(e:X.K=K)(k:BD X H0 Y B g E)(l:PE X o (Kc i))(c:Cls X.K C)(h:Meth X.K C m f)(F:FnOk X.prog X.w X.K X.mg X.base CX d f b ps (Ig X.K pg))(j:Room d X.A)(hb:Binds X.K b ps [])(p:Fu CX X E)
  (n:eval (.Call (.Attribute o m a) [] [] pos) X.env=(do
   let ov <- eval o X.env
   Gp a.atName
   let (f,first) <- Gf [ov] (Hr ov m pl)
   Lc pos f first (Cq pos (An [] X.env)) (Hu pos (Fd [] X.env))):=by rfl) :
  PE X (.Call (.Attribute o m a) [] [] pos) (pA X.K H0 Y B (Mb K C m i pg g pW)):=by
 subst e
 exact dP k l c h F j hb p n
theorem Hl{pl:Sem Bool}(l:X.K=K)(q:PE X o (Kc i))(c:Cls X.K C)(n:Meth X.K C m f)(F:FnOk X.prog X.w X.K X.mg X.base CX d f b ps (Ig X.K pg))(p:Room d X.A)(hb:Binds X.K b ps [])(s:Fu CX X E)
  (k:Wb X (e::es) h)
  (j:An (e::es) X.env=(false,eval e X.env)::An es X.env:=by rfl) (g:(Cq pos (An es X.env)).any (·.1)=false:=by rfl)
  (r:eval (.Call (.Attribute o m a) (e::es) [] pos) X.env=(do
   let ov <- eval o X.env
   Gp a.atName
   let (f,first) <- Gf [ov] (Hr ov m pl)
   Lc pos f first (Cq pos (An (e::es) X.env)) (Hu pos (Fd [] X.env))):=by rfl) :
  Fg X (.Call (.Attribute o m a) (e::es) [] pos) (Mb K C m i pg (λ_ _=>False) h):=by
 subst l
 exact w5 q c n F p hb s k j g r
theorem Nm{pl:Sem Bool}(e:X.K=K)(j:PE X o (Kc i))(c:Cls X.K C)(g:Meth X.K C m f)(F:FnOk X.prog X.w X.K X.mg X.base CX d f b ps (Ig X.K pg))(h:Room d X.A)(hb:Binds X.K b ps [])(l:Fu CX X E)
  (k:eval (.Call (.Attribute o m a) [] [] pos) X.env=(do
   let ov <- eval o X.env
   Gp a.atName
   let (f,first) <- Gf [ov] (Hr ov m pl)
   Lc pos f first (Cq pos (An [] X.env)) (Hu pos (Fd [] X.env))):=by rfl) :
  Fg X (.Call (.Attribute o m a) [] [] pos) (Mb K C m i pg (λ_ _=>False) pW):=by
 subst e
 exact wJ j c g F h hb l k
theorem F7{pl:Sem Bool}(n:X.K=K)(r:PE X.nox o (Kc i))(c:Cls X.K C)(p:Meth X.K C m f)(F:FnOk X.prog X.w X.K X.mg X.base (Iu X.prog X.w) d f b ps (Ig X.K pg))(q:Room d X.A)(hb:Binds X.K b ps [])(l:Wb X.nox (e::es) h)
  (k:An (e::es) X.env=(false,eval e X.env)::An es X.env:=by rfl) (j:(Cq pos (An es X.env)).any (·.1)=false:=by rfl)
  (s:eval (.Call (.Attribute o m a) (e::es) [] pos) X.env=(do
   let ov <- eval o X.env
   Gp a.atName
   let (f,first) <- Gf [ov] (Hr ov m pl)
   Lc pos f first (Cq pos (An (e::es) X.env)) (Hu pos (Fd [] X.env))):=by rfl) :
  FM X (.Call (.Attribute o m a) (e::es) [] pos) λg=>Mb K C m i pg g h:=by
 subst n
 exact U2 r c p F q hb l k j s
theorem Mf{b:Pos}{a:Expr}{c:V}(e:X.K=K)(j:RelV c (oA c))(h:PE X (.Name x b) (Kc i))(g:PE X a (tC c))(l:Gl X "isinstance")(f:X.mg "isinstance" = none)(k:An [.Name x b,a] X.env=(false,eval (.Name x b) X.env)::An [a] X.env:=by rfl)(d:An [a] X.env=(false,eval a X.env)::An [] X.env:=by rfl)(m:(Cq pos (An [a] X.env)).any (·.1)=false:=by rfl):Fg X (.Call (.Name "isinstance" p) [.Name x b,a] [] pos) (E3 K i c):=by
 subst e
 exact CP j h g l f k d m
theorem iM{a:List Stmt}{b:(Addr->DS->Prop)->DB}{D:Addr}{j k:Nat}{n y c:Str}{np z p q o pos:Pos}(v:X.K=K)(h:X.stack=X.env::X.outer)(m:X.env.frame=some X.env.locals)(r:X.N.Nodup)(s:X.N[k]? = some n)(e:X.env.scope.names.lookup n=some .local)(t:X.N[j]? = some y)(f:X.env.scope.names.lookup y=some .local)(u:Gl X c)(w:X.mg c=some (.ref D))(x:PySem.W.excIn X.K D Ze "ValueError.__new__" = true)(hb:AR X a b)(g:(c == ("__debug__" : Str))=false:=by decide)(l:(n == ("__debug__" : Str))=false:=by decide)(d:(n == ("__classdict__" : Str))=false:=by decide)(i:El (.Name n o) (some (.Name y q)) p.line X.env=pure false:=by rfl):oV X (.Try a [.ExceptHandler (some (.Name c np)) (some n) [.Assign [.Name y q] (.Name n o) p] z] [] [] pos) (zA K j k D b):=by
 subst v
 exact O7 h m r s e t f u w x hb g l d i
end
section
variable{X:Cx}{i:Nat}{pos:Pos}
theorem uF{j:Nat}{np:Pos}{x:Str}{a:Pos}(c:PE X (.Name x a) (Kc i)):fH X (.Compare (.Name x a) [.Is] [.Constant .none j np] pos) (dB (mP false i)):=by
 refine PT.imp (jD FC c pJ (Qr _)) λd H Q h=>?_
 obtain ⟨v,b,q⟩:=sR (T5 _ _ _ h)
 exact ⟨v,b,rfl,q⟩
theorem G8{j:Nat}{np:Pos}{x:Str}{a:Pos}(c:PE X (.Name x a) (Kc i)):fH X (.Compare (.Name x a) [.IsNot] [.Constant .none j np] pos) (dB (mP true i)):=by
 refine PT.imp (jD W8 c pJ (Qr _)) λd H Q h=>?_
 obtain ⟨v,b,q⟩:=sR (T5 _ _ _ h)
 exact ⟨v,b,rfl,q⟩
end
section
variable{X:Cx}
theorem i4(E:X.calm=true):Na X (.builtin "any") (λxs H Q=>∃(p:Addr) (bs:List Bool),xs=[.ref p]/\Ua X.K H p (bs.map V.bl)/\Q (.bl (bs.any id)) H):=by
 intro n s T H xs W Q I r h
 obtain ⟨p,bs,rfl,S,q⟩:=h
 obtain ⟨u,rfl,F⟩:=vals1 r
 cases F
 obtain ⟨a,B,l,_⟩:=I.list S
 have d:a.toArray.size=bs.length:=by
  have:=B.length
  rw[Af] at this
  rw[Av]; omega
 refine call_any_walk (Nb l.isList ?_)
 have M:X.A.in1.handled=none:=I.ok.hd E
 have O:p≠s.heap.objs.size:=Cj (let ⟨o,q,_⟩:=l.isList; Bb q)
 refine ⟨s.heap.objs.size,_,_,_,_,_,λi=>bs.getD i false,rfl,Walks.list M s.heap.objs.size p O a.toArray,⟨⟨_,Be _ rfl,rfl,rfl⟩,l.isList.push _⟩,?_,?_⟩
 ·intro i v J D U P N
  have c:a[i]? = some v:=by simpa using P
  have C:i<a.length:=(Aw.mp c).1
  obtain ⟨x,g,w⟩:=Fj.at' B C
  rw[Lg C] at c
  have f:a[i]=v:=Br c
  rw[f] at w
  rw[Bu] at g
  cases m:bs[i]? with
  | none=>rw[m] at g; cases g
  | some b =>
   rw[m] at g
   cases g
   cases w
   have : bs.getD i false=b:=by simp [kX,m]
   have k:D (bs.getD i false) J:=N
   rw[this] at k
   exact Ij k
 ·intro h' R G
  have e:((Ci a.toArray.size).any λi=>bs.getD i false)=bs.any id:=by
   rw[d]
   have : bs=(Ci bs.length).map (λj=>bs.getD j false):=(range_getD bs false).symm
   conv=>rhs; rw[this]
   rw[aG]
   rfl
  rw[e]
  refine ⟨.bl _,H,I.kept (h':=h') (t':=R) (λb o y=>G b o ?_ (Aq _ y)),rfl,q⟩
  intro z
  have L:b=s.heap.objs.size:=by simpa using z
  have t:=Bb y
  rw[L] at t
  exact absurd t (Fm _)
end
def C2:DC:=λa P=>match a with
 | [.dat _ (.list ds)]=>∃bs:List Bool,ds=bs.map Ub/\P (.dat .ow (.bool (bs.any id)))
 | _=>False
theorem DP{K:PySem.W.Frag}:Wj K (λxs H Q=>∃(p:Addr) (bs:List Bool),xs=[.ref p]/\Ua K H p (bs.map V.bl)/\Q (.bl (bs.any id)) H) C2:=by
 intro j X n S T i l H Q P f c b k
 unfold C2 at b
 split at b
 ·rename_i ex
  obtain ⟨v,F,rfl,c⟩:=Kt f c ex
  obtain ⟨bs,rfl,d⟩:=b
  obtain ⟨a,xs,G,rfl,e,g,rfl,h⟩:=(c.told mem_mid).list_inv
  obtain ⟨rfl,_⟩:=g.bools_inv
  exact ⟨a,bs,rfl,Ua.of e,k _ _ [] H (c.drop.pushI (.bl _)) d⟩
 ·exact b.elim
theorem e_any{m:Md}{ds:List Ad}{Q:DV->Prop}:C2 [.dat m (.list ds)] Q=(∃bs:List Bool,ds=bs.map Ub/\Q (.dat .ow (.bool (bs.any id)))):=rfl
def Rc(p:Nat)(dc:DT)(i:DE)(g:DS)(f:Ad->Kind->Nat->Prop)(h:Kind->Nat->Prop):Prop:=dc g λb a=>match b with
 | true=>i a λy d=>match y with
  | .dat m e=>m≠.pk/\∃c,d.sl[p]? = some (.obj c)/\f e c d.n
  | _=>False
 | false=>∃c,a.sl[p]? = some (.obj c)/\h c a.n
def kK(l:DI)(js1:List Nat)(j0:Nat)(js2:List Nat)(dc:DT)(o:DE):DE:=λk P=>l k λm j b=>∃g,b.sl[j0]? = some (.obj g)/\∃I:Nat->List Ad->Kind->Nat->Prop,I 0 [] g b.n /\
 (∀i d a f n,j[i]? = some d->I i a f n->Rc (js1.length+1) dc o ⟨.dat m d::(frD (b.sl.set j0 .un) js1++.obj f::frD (b.sl.set j0 .un) js2),n⟩ (λe c h=>I (i+1) (a++[e]) c h) (λc h=>I (i+1) a c h)) /\
 ∀a f n,I j.length a f n->P (.dat .tp (.list a)) ⟨b.sl.set j0 (.obj f),n⟩
section
variable{K:PySem.W.Frag}{H0 H H':Hp}{Y:Addr->Prop}{n n':Nat}{E S T:List Ent}
theorem I0{b:List Ent}{f:DS}{p:Nat}{v:Option V}{c:Kind}{R:List Ent}(l:At K H0 Y n (b++R) H)(h:Sl b f)(k:f.sl[p]? = some (.obj c))(hv:(vs b)[p]? = some v):∃F,At K H0 Y n (⟨v,.obj c,F⟩::R) H:=by
 obtain ⟨a,e,g⟩:=Hn h k
 have i:a∈b:=Bf e
 rw[Lv e] at hv
 obtain ⟨u,x,F⟩:=a
 have d:x=.obj c:=g
 subst d
 have j:u=v:=Br hv
 subst j
 exact ⟨F,l.sub ((List.singleton_sublist.mpr i).append (Bm R))⟩
theorem wB{p:Nat}{w:Option V}{dc:DT}{C:DE}{j:DS}{f:Ad->Kind->Nat->Prop}{x:Kind->Nat->Prop}{D:Addr}{G:List Addr}{a:List Ad}{N1:Hp->Prop}{N2:VK}(M:Sl S j)(O:At K H0 Y j.n (S++⟨some (.ref D),.acc a,D::G⟩::T) H)(B:(vs S)[p]? = some w)(h:Rc p dc C j f x)(k1:∀d i n' H',At K H0 Y n' (⟨w,.obj d,i⟩::⟨some (.ref D),.acc a,D::G⟩::T) H'->x d n'->N1 H')(k2:∀e m d i n' v F H',At K H0 Y n' (⟨w,.obj d,i⟩::⟨some v,.dat m e,F⟩::⟨some (.ref D),.acc a,D::G⟩::T) H'->m≠.pk->f e d n'->N2 v H'):LT K dc (vs S) H λc l=>if c=true then LE K C (vs S) l N2 else N1 l:=by
 refine ⟨H0,Y,S,⟨some (.ref D),.acc a,D::G⟩::T,j,_,rfl,M,O,h,λb s I l u z g A=>?_⟩
 cases b with
 | false =>
  obtain ⟨d,o,q⟩:=A
  obtain ⟨i,t⟩:=I0 g z o (by rw[u]; exact B)
  exact nU (k1 _ _ _ _ t q)
 | true =>
  refine oF ⟨H0,Y,I,⟨some (.ref D),.acc a,D::G⟩::T,s,_,u,z,g,A,λy N v F Q P E J k r=>?_⟩
  split at r
  ·obtain ⟨L,d,o,q⟩:=r
   obtain ⟨i,t⟩:=I0 k J o (by rw[E]; exact B)
   exact k2 _ _ _ _ _ _ _ _ t L q
  ·exact r.elim
theorem xA{di:DI}{js1 js2:List Nat}{j0:Nat}{dc:DT}{de:DE}:∀σ H Q,LE K (kK di js1 j0 js2 dc de) σ H Q->uD (LI K di) (js1++j0::js2) (LT K dc) (LE K de) σ H Q:=by
 intro σ H Q h
 obtain ⟨H0,Y,S,T,δ,P,rfl,hS,hA,hd,k⟩:=h
 refine ⟨H0,Y,S,T,δ,_,rfl,hS,hA,hd,λm B r J g o H1 e1 e2 h5 it hz p1=>?_⟩
 obtain ⟨E,hj,I,h0,hs,hf⟩:=p1
 rw[<- e1]
 obtain ⟨k0,W,s2⟩:=Hn e2 hj
 obtain ⟨u,x,F0⟩:=k0
 have h7:x=.obj E:=s2
 subst h7
 obtain ⟨w,rfl⟩ : ∃w,u=some w:=⟨_,(h5.ok _ (Ae _ (Bf W))).1⟩
 have vS:vs (o.set j0 ⟨some w,.un,[]⟩)=vs o:=Mm W rfl
 have h8:j0<o.length:=(Aw.mp W).1
 have k2:(o.set j0 ⟨some w,.un,[]⟩)[j0]? = some ⟨some w,.un,[]⟩:=Ji h8
 have h4:∀n,Sl (o.set j0 ⟨some w,.un,[]⟩) ⟨r.sl.set j0 .un,n⟩:=λn=>Qs (i:=j0) (n:=n) (v:=w) (x:=.un) (F:=[]) e2
 -- the thing is taken out of its slot
 have hB:At K H0 Y r.n (⟨some w,.obj E,F0⟩::(o.set j0 ⟨some w,.un,[]⟩++(g++T))) H1:=(h5.blank (v:=some w)).perm (by
  have pS:(⟨some w,.un,[]⟩::o:List Ent).Perm (⟨some w,.obj E,F0⟩::o.set j0 ⟨some w,.un,[]⟩):=Ta W
  exact pS.append_right (g++T))
 intro D hD
 refine ⟨λi q H=>q=B.length - i/\i<=B.length/\∃a j F n G,At K H0 Y n (⟨some (.ref D),.acc a,D::G⟩::⟨some w,.obj j,F⟩::(o.set j0 ⟨some w,.un,[]⟩++(g++T))) H/\a.length<=i/\I i a j n,⟨B.length,by simp,Cw _,[],E,F0,r.n,[],hB.accNew hD,Au _,h0⟩,?_⟩
 (intro i q H q_; obtain ⟨rfl,hi,a,j,c,n,G,V,hl,hI⟩ := q_)
 have l:∀e∈g,Fx K H n e:=λe X=>V.ok e (Ah _ (Ah _ (Ag _ (Ae _ X))))
 by_cases C:i<B.length
 ·refine .inr ⟨it.go H n i l C,λx H' y=>?_⟩
  obtain ⟨k1,d,F,h1,h2,h3⟩:=it.yld H n i x H' l C y
  have M:At K H0 Y n ((⟨some (.ref D),.acc a,D::G⟩::⟨some w,.obj j,c⟩::o.set j0 ⟨some w,.un,[]⟩)++⟨some x,.dat m d,F⟩::(g++T)) H':=At.item (S:=⟨some (.ref D),.acc a,D::G⟩::⟨some w,.obj j,c⟩::o.set j0 ⟨some w,.un,[]⟩) V k1 h2 h3 it.md it.hd it.np
  have O:At K H0 Y n (⟨some w,.obj j,c⟩::⟨some x,.dat m d,F⟩::⟨some (.ref D),.acc a,D::G⟩::(o.set j0 ⟨some w,.un,[]⟩++(g++T))) H':=by
   refine M.mid.perm ?_
   rw[Cd,Cd]
   exact ((Dq _ _ _).cons _).trans (Dq _ _ _)
  generalize eB:o.set j0 ⟨some w,.un,[]⟩=SB at *
  have L:∀e∈SB,e∈(⟨some w,.obj j,c⟩::⟨some x,.dat m d,F⟩::⟨some (.ref D),.acc a,D::G⟩::(SB++(g++T)):List Ent):=λe X=>Ah _ (Ah _ (Ah _ (Ae _ X)))
  have U:=At.view (S:=SB) O L js2
  have Z:=At.view (S:=SB) U (λe X=>Ag _ (L e X)) js1
  have A:At K H0 Y n ((⟨some x,.dat m d,F⟩::(aR SB js1++⟨some w,.obj j,c⟩::aR SB js2))++⟨some (.ref D),.acc a,D::G⟩::(SB++(g++T))) H':=by
   refine Z.perm ?_
   generalize aR SB js1=A1
   generalize aR SB js2=A2
   generalize (⟨some (.ref D),.acc a,D::G⟩::(SB++(g++T)):List Ent)=R
   have b1:(A2++((⟨some w,.obj j,c⟩ : Ent)::⟨some x,.dat m d,F⟩::R)).Perm ((⟨some x,.dat m d,F⟩ : Ent)::⟨some w,.obj j,c⟩::(A2++R)) :=
    (Cy.trans ((Cy).cons _)).trans (Dq _ _ _)
   have b2:=b1.append_left A1
   refine b2.trans (Cy.trans ?_)
   rw[Cd,Az,Cd]
  have h6:Sl (⟨some x,.dat m d,F⟩::(aR SB js1++⟨some w,.obj j,c⟩::aR SB js2)) ⟨.dat m d::(frD (r.sl.set j0 .un) js1++.obj j::frD (r.sl.set j0 .un) js2),n⟩:=by
   unfold Sl
   rw[Ap,Ay,Ap,uG (h4 n),uG (h4 n)]
  have hv:vs (⟨some x,.dat m d,F⟩::(aR SB js1++⟨some w,.obj j,c⟩::aR SB js2))=some x::Gk (vs o) (js1++j0::js2):=by
   have f1:=sV SB js1
   have f2:=sV SB js2
   rw[vS] at f1 f2
   unfold vs at f1 f2 ⊢
   rw[Ap,Ay,Ap,f1,f2]
   unfold Gk
   rw[Ay,Ap,Bu,W]
   rfl
  have h9:(vs (⟨some x,.dat m d,F⟩::(aR SB js1++⟨some w,.obj j,c⟩::aR SB js2)))[js1.length+1]? = some (some w):=by
   unfold vs
   rw[Ap,List.getElem?_cons_succ,Ay,Kk (by rw[Af]; unfold aR; rw[Af]; exact Au _)]
   rw[Af]
   unfold aR
   rw[Af,Nat.sub_self]
   rfl
  refine ⟨λH2=>∃m',m'<B.length - i/\_,λy H3=>∃a,H3 D=some (.lst a)/\a.length<Ba/\∃m',m'<B.length - i/\_,λH2 q=>q,λy H3 q=>q,?_⟩
  rw[<- hv]
  refine wB h6 A h9 (hs i d a j n h1 hI) (λs t n' H2 N p=>?_) (λe m' s t n' v F' H2 N hm p=>?_)
  ·exact ⟨B.length - (i+1),by omega,rfl,C,a,s,t,n',G,N.perm (Dq _ _ _),by omega,p⟩
  ·obtain ⟨xs,g1,g2,g3⟩:=(N.perm (E':=⟨some (.ref D),.acc a,D::G⟩::⟨some v,.dat m' e,F'⟩::⟨some w,.obj s,t⟩::(SB++(g++T))) (((Dq _ _ _).trans ((Dq _ _ _).cons _)).trans (Dq _ _ _))).accPutG hm (by omega)
   exact ⟨xs,g1,by omega,B.length - (i+1),by omega,rfl,C,a++[e],s,t,n',_,g3,by rw[Bn]; simp; omega,p⟩
 ·have e:i=B.length:=by omega
  subst e
  have M:=V.accGetG (b:=false) (λz=>nomatch z)
  have O:At K H0 Y n (⟨some (.ref D),.dat .tp (.list a),D::G⟩::⟨some w,.obj j,c⟩::(o.set j0 ⟨some w,.un,[]⟩++T)) H:=M.sub ((((Bm (o.set j0 ⟨some w,.un,[]⟩)).append (Bv g T)).cons₂ _).cons₂ _)
  have U:At K H0 Y n (o.set j0 ⟨some w,.un,[]⟩++⟨some w,.obj j,c⟩::⟨some (.ref D),.dat .tp (.list a),D::G⟩::T) H:=O.perm (by
   refine (Dq _ _ _).trans ?_
   exact ((Cy.symm).cons _).trans Cy.symm)
  have A:=U.store (i:=j0)
  rw[List.set_set] at A
  refine .inl ⟨it.stop H n l,k _ ⟨r.sl.set j0 (.obj j),n⟩ _ (D::G) (o.set j0 ⟨some w,.obj j,c⟩) H ?_ (Qs (i:=j0) (n:=n) (v:=w) (x:=.obj j) (F:=c) e2) A (hf a j n hI)⟩
  rw[Mm (f:=⟨some w,.obj j,c⟩) W rfl]
  exact e1
end
section
variable{X:Cx}{d iter c:Expr}{x k:Str}{h j pos f:Pos}{i0:Nat}{b:List Expr}{a:Scope}{e:List (Str×Addr)}{ys:List Str}{js1 js2:List Nat}{j0:Nat}{g:DI}{dc:DT}{i:DE}
theorem yM(C:CompScope X a e x ys (js1++j0::js2))(f:X.calm=true)(l:sC X (.Name x h) iter g)(j:∀fp s H,wK (Dw X a e (x::ys) fp s H) b (LT X.K dc))(c:∀fp s H,Fg (Dw X a e (x::ys) fp s H) d i)(k:∀x,Cr iter X.env x=pure x:=by intro _; rfl):Fg X (.ListComp d [⟨.Name x h,iter,b,0⟩] a pos) (kK g js1 j0 js2 dc i):=PE.imp (jX C f l j c k) xA
end
theorem eqDs_self{b:Type}{f:b->Ad}(h:∀a,Dt (f a) (f a)=true):∀l:List b,Jb (l.map f) (l.map f)=true
 | []=>by simp [Jb]
 | d::ds=>by rw[Ap,Jb,h d,eqDs_self h ds]; rfl
def kO(is:List Nat)(q:Nat)(pg:Pr)(xs:List DV)(a:DS)(P:DV->DS->Prop):Prop:=match datas (xs.drop q),Ml a.sl is with
 | some ds,some (ys,sl)=>noPk (xs.drop q)=true/\Kz (xs.take q)=true/\Kz ys=true/\pg (ys++xs.take q) ds a.n (λx c b=>P x ⟨Rv sl is (c.take is.length),b⟩) (λ_ _ _=>False)
 | _,_=>False
def aS(is:List Nat)(q:Nat)(pg:Pr)(d:DA):DE:=λb P=>match Ml b.sl is with
 | some (ys,_)=>Kz ys=true/\d b λc a=>kO is q pg c a P
 | none=>False
section
variable{K:PySem.W.Frag}{H0 H:Hp}{Y:Addr->Prop}{B:List Ent}{E:XK}{d:L2.St}{Q:VK}{is:List Nat}{q:Nat}{pg:Pr}{f:DA}
theorem yB(h:pA K H0 Y B (aS is q pg f) d H Q):∃ws:List V,is.map (λi=>d[i]?)=ws.map (λw=>some (some w))/\tQ K H0 Y B f d H λus H1=>Ig K pg (ws++us) H1 Q E:=by
 obtain ⟨S,T,δ,P,rfl,hS,hB,hA,s,kk⟩:=h
 unfold aS at s
 split at s
 case h_2=>exact s.elim
 rename_i h3 h0 q0
 obtain ⟨U,s⟩:=s
 have O:S.map Ent.x=δ.sl:=hS
 obtain ⟨y,R0,a1,a2,a3,a4,a5⟩:=Sf (K:=K) (S:=S) (O.symm▸q0)
 have G:=Nk (Is:=y) (by rw[a1]; exact U)
 obtain ⟨ws,hw⟩:=A0 (Is:=y) G λe he=>(a5 hA).ok e (Ae _ he)
 have t:is.map (λi=>(vs S)[i]?)=ws.map (λw=>some (some w)):=by
  rw[a4]
  have:=congrArg (List.map some) hw
  rw[Dk,Dk] at this
  exact this
 refine ⟨ws,t,S,T,δ,_,rfl,hS,hB,hA,s,λxs k j us S' N e1 e2 ex eu X p=>?_⟩
 subst ex
 unfold kO at p
 split at p
 case h_2=>exact p.elim
 rename_i ds ys tl q1 q2
 obtain ⟨np,C,io,p⟩:=p
 rw[<- List.map_drop] at q1 np
 rw[<- Lf] at C p
 have L:S'.map Ent.x=k.sl:=e2
 obtain ⟨Is,R,b1,b2,b3,Z,b5⟩:=Sf (K:=K) (S:=S') (L.symm▸q2)
 have iE:=Nk (Is:=Is) (by rw[b1]; exact io)
 have iA:=Nk (Is:=j.take q) C
 have l:∀e∈Is++j.take q,Zp e.x=true:=λe he=>(Ar.mp he).elim (iE e) (iA e)
 have hM:At K H0 Y k.n (Is++(R++(j++T))) N:=b5 X
 have D:At K H0 Y k.n (((Is++j.take q)++j.drop q)++(R++T)) N:=hM.perm (by
  rw[Az Is,Mq,Az]
  refine Jg Is ?_
  rw[<- Az,<- Az]
  exact Ej.append_right T)
 have hO:At K H0 Y k.n ((Is++j.take q)++(R++T)) N:=D.sub ((Ie _ _).append (Bm _))
 have sp:=Bs.mp D.sep
 have J:∀e∈(Is++j.take q)++j.drop q,Lr e.x=false:=λe he=>by
  rcases Ar.mp he with he | he
  ·rcases Rk (l e he) with z | ⟨κ,z⟩ <;> rw[z] <;> rfl
  ·exact Sh np e he
 have I:Is.map Ent.v=ws.map some:=by
  have z:Is.map (λe=>some e.v)=ws.map (λw=>some (some w)):=by rw[<- Z,e1]; exact t
  have z2:(Is.map Ent.v).map some=(ws.map some).map some:=by rw[Dk,Dk]; exact z
  exact (Yr λa b h=>Br h).mp z2
 have len:Is.length=is.length:=by
  have:=congrArg Ei Z
  rw[Af,Af] at this
  exact this.symm
 have A:∀{M:List Ent},M.map Ent.v=(Is++j.take q).map Ent.v->vs (Pp R is (M.take is.length))=vs S/\(M.take is.length).length=is.length:=λ{M} hv=>by
  have u:(M.take is.length).map Ent.v=Is.map Ent.v:=by
   rw[Lf,hv,Ay,List.take_left' (by rw[Af]; exact len)]
  have hl:(M.take is.length).length=Is.length:=by
   have:=congrArg Ei u
   rw[Af,Af] at this
   exact this
  refine ⟨?_,hl.trans len⟩
  rw[u5,b3,e1]
  rw[b3,Z]
  have:=congrArg (List.map some) u
  rw[Dk,Dk] at this
  exact this.symm
 refine ⟨Is++j.take q,j.drop q,(R++T).flatMap cells,k.n,ds,_,_,?_,λe he=>D.ok e (Ae _ he),sp.1,l,q1,λa ha=>?_,by rw[Ay,b1]; exact p,λx zs W v F M m r hn mv mx hG=>?_,λc zs W M m r hn mv mx hG=>(show False from r).elim⟩
 ·rw[Az,Mq,Ay,I,eu,Ay]
 ·obtain ⟨g,hg,hc⟩:=Gd.mp ha
  refine ⟨λz=>?_,λe he=>(sp.2.2 e he g hg).2 (.inl (J e he)) a hc⟩
  obtain ⟨o,q⟩:=(D.ok g (Ag _ hg)).dom a (Dm g a hc)
  rw[q] at z; cases z
 ·have h1:=At.inout hO l hG hn
  obtain ⟨pv,pl⟩:=A mv
  have h2:At K H0 Y W (M.take is.length++(R++⟨some v,x,F⟩::T)) m:=(h1.sub (((Dr _ M).append (Bm [⟨some v,x,F⟩])).append (Bm _))).perm (by
   rw[Az]
   exact Jg _ (show (⟨some v,x,F⟩::(R++T):List Ent).Perm (R++⟨some v,x,F⟩::T) from Cy.symm))
  refine kk x ⟨Rv tl is (zs.take is.length),W⟩ v F (Pp R is (M.take is.length)) m pv ?_ (jK pl h2) r
  show (Pp R is (M.take is.length)).map Ent.x=_
  rw[uE,b2,Lf,mx]
end
section
variable{X:Cx}{CX:eL}{k:Nat}{f:Addr}{a:Bj}{ps:List Str}{pg:Pr}{E:XK}{x m:Str}{p pos c:Pos}{e o:Expr}{es:List Expr}{b:DA}{is:List Nat}
theorem yG{q:Nat}(F:FnOk X.prog X.w X.K X.mg X.base CX k f a ps (Ig X.K pg))(l:Room k X.A)(s:Gl X x)(m:X.mg x=some (.ref f))(n:PySem.W.keepIn X.K (.ref f)=true)(hb:Binds X.K a ps [])(o:Fu CX X E)(i:∀H0 Y B,PA X (e::es) (Xn is (tQ X.K H0 Y B b)))(c:(x == ("__debug__" : Str))=false:=by decide)(g:An (e::es) X.env=(false,eval e X.env)::An es X.env:=by rfl)(d:(Cq pos (An es X.env)).any (·.1)=false:=by rfl):Fg X (.Call (.Name x p) (e::es) [] pos) (aS is q pg b):=bG λH0 Y=>by
 refine PE.imp (Os F l s m n hb .nil o (i H0 Y []) c g d) λu H Q h=>?_
 obtain ⟨t,j,r⟩:=yB (E:=E) h
 refine aV j ?_
 simpa only [Bo] using r
end
section
variable{b:DS}{P:DV->DS->Prop}{is:List Nat}{q:Nat}{xs:List DV}{pg:Pr}{c:DA}{h:DI}{js1 js2:List Nat}{j0 p:Nat}{dc:DT}{f:DE}{g:Ad->Kind->Nat->Prop}{j:Kind->Nat->Prop}
theorem e_cGT:aS is q pg c b P=(match Ml b.sl is with | some (ys,_)=>Kz ys=true/\c b (λxs a=>kO is q pg xs a P) | none=>False):=rfl
theorem e_cGTB:kO is q pg xs b P=(match datas (xs.drop q),Ml b.sl is with | some ds,some (ys,sl)=>noPk (xs.drop q)=true/\Kz (xs.take q)=true/\Kz ys=true/\pg (ys++xs.take q) ds b.n (λx a n'=>P x ⟨Rv sl is (a.take is.length),n'⟩) (λ_ _ _=>False) | _,_=>False):=rfl
theorem e_dr0{a:Type}{l:List a}:l.drop 0=l:=rfl
theorem e_dr1{b:Type}{a:b}{l:List b}{n:Nat}:(a::l).drop (n+1)=l.drop n:=rfl
theorem C3{g:DI}{m:Md}{ds:List Ad}{κ0:Kind}(l:b.sl[j0]? = some (.obj κ0))(hd:∀Q,Q m ds b->g b Q)(I:Nat->List Ad->Kind->Nat->Prop)(j:I 0 [] κ0 b.n)(k:∀i d a c n,ds[i]? = some d->I i a c n->Rc (js1.length+1) dc f ⟨.dat m d::(frD (b.sl.set j0 .un) js1++.obj c::frD (b.sl.set j0 .un) js2),n⟩ (λe κ' n'=>I (i+1) (a++[e]) κ' n') (λκ' n'=>I (i+1) a κ' n'))(h:∀a c n,I ds.length a c n->P (.dat .tp (.list a)) ⟨b.sl.set j0 (.obj c),n⟩):kK g js1 j0 js2 dc f b P:=hd _ ⟨κ0,l,I,j,k,h⟩
end
end DL
namespace K72
open PySem L2 Nd DL
local macro_rules | `(tactic| array_get_dec) => do
  let ids:=(("e_cGT e_cGTB e_dr0 e_dr1 e_any e_le e_Ft e_tt e_lieB e_fld e_fldh e_fldl e_hash e_hasl e_i1 e_i2 e_i3 e_i4 e_i5 e_i6 e_i7 e_i9 e_i10 e_i11 e_i12 e_i13 e_tk0 e_tk1 e_pl0 e_pl1 e_io0 e_io1 e_io2 e_cG e_cGB e_cX e_cXB e_mG e_mk e_mkB e_ok0 e_ok1 e_ok2 e_ka e_kb e_rGn e_rGr e_eG e_an1 e_hd0 e_hd1 e_hd2 e_raG e_try e_isNV e_isx e_gO e_lie e_tk e_tk' e_zk e_zkB e_mdIt true_and e_lenS e_tx e_txB e_inS e_callWV e_callWVB e_seq e_skip e_ret e_expr e_if e_asg e_name e_name2 e_name3 e_name4 e_own e_nT e_gtup e_gsn e_gsc e_op e_var e_c e_imm e_immB e_take e_I e_I0 e_eqF e_eqT e_inFt_w1 e_inTt e_ixl e_ixt e_cat e_rep e_nlT e_ntT e_pkOfpk e_pkOfsh e_pkOfow e_mdInpk e_mdInsh e_mdIntp e_mdInow e_mdItow e_nil e_cons e_tup e_lst e_noPart e_part e_partB e_sl e_slBl e_cb e_listl e_tuplel e_all e_isi e_v e_b e_bB e_notT e_orT e_orTt e_orTf e_not e_notB e_and e_ifE e_ifEt e_ifEf e_neg e_negB e_dL e_dTp e_lB e_tpB e_tpB_w1 e_range1 e_rng1B e_enum e_enumB e_for e_comp e_compL e_stepL e_stepLT e_glst e_noTest e_step e_stepT e_stepF e_yesB e_call e_callW e_draws e_drawsB e_append e_scrSl e_scrCat e_scrB e_compN e_callX e_raise callXB retWT retA_sh callB callBW tupB lstB datas pkMd allOw noPk appB own1 npk retE retW retL args0 frD frD1 alD List.map_cons List.map_nil List.replicate List.getElem?_cons_zero List.getElem?_cons_succ List.set_cons_zero List.set_cons_succ List.cons_append List.nil_append Option.map_some List.length_cons List.length_nil List.append_nil rdAdd rdDiv rdMod rdLt rdGt rdGe if_true if_false Bool.false_eq_true List.append_assoc Nat.reduceAdd Nat.reduceSub Nat.reduceLeDiff true_and im_e ima_e dp_e dpa_e any_int eqD_intd eqD_str ow_e tt_e cdiv_e cpow_e Int.reduceLT Int.reduceLE Nat.reduceLT Int.reduceNeg and_self and_true Int.reduceToNat Int.reducePow Nat.reduceMul fold_w isi_tt Bool.not_true Bool.not_false decide_true String.reduceEq or_true true_or List.isEmpty_nil ifB_lt ifB_lf isi_ss Int.cast_ofNat_Int decide_false Int.reduceEq atI_0 atI_1 atI_2 some_e dec_self eqD_i1 yesL_ow catL_show catL_shtp catL_tpsh" : String).splitOn " ").toArray.map λ(x:String)=>Lean.mkIdent x.toName
  `(tactic| try simp only [$[↓$ids:ident],*])
abbrev Nr:Stmt:=Jk (top 30) 0
abbrev Pd:Stmt:=Jk (top 30) 1
abbrev Oc:Stmt:=Jk (top 30) 2
abbrev Ny:Stmt:=Jk (top 30) 4
abbrev Yp:Stmt:=Jk (top 30) 5
abbrev Ra:Stmt:=Jk (top 30) 6
abbrev Xy:Stmt:=Jk (top 30) 7
abbrev Qw:Stmt:=Jk (top 30) 8
abbrev Pb:Stmt:=Jk (top 30) 9
abbrev bE:Stmt:=Jk (top 30) 10
abbrev Xl:Stmt:=Jk (top 30) 11
abbrev Vf:Stmt:=Jk (top 30) 12
abbrev Vh:Stmt:=Jk (top 30) 13
abbrev Sg:Stmt:=Jk (top 30) 14
section
variable{P:Bk}{w:World}{K:PySem.W.Frag}{mg:Str->Option Value}{base:Heap}
theorem LH:FnScope ["one", "other"] ["one", "other"] (Bi Qt):=⟨rfl,rfl,rfl,by decide +kernel,rfl,by decide +kernel,by decide +kernel⟩
theorem mQ{f:Addr}{k:Bj}(F:Fun K "together" "together" Qt f k)(M:mg "tuple" = none)(G:mg "sorted" = none)(l:mg "set" = none):FnOk P w K mg base Hq 1 f k ["one", "other"] (AC K):=by
 refine F.ok LH (λvs H Q E h=>?_) (λB A e s H vs Q E W h=>?_)
 ·obtain ⟨a,b,c,d,rfl,_⟩:=h
  rfl
 obtain ⟨a,b,c,d,rfl,O,S,o,m,q⟩:=h
 refine ⟨_,Ni (Xt (Tn Uh rfl M (by decide +kernel) (Do (bS (r:=tV w) (iV rfl) rfl G (by decide +kernel) (Do
  (Ke (r:=MM w) K8 (Tn (r:=CY w K) (lG rfl) rfl l (by decide +kernel) (Do (pv 0) Ir)) (Tn (r:=CY w K) (lG rfl) rfl l (by decide +kernel) (Do (pv 1) Ir))) Ir)) Ir))),?_⟩
 refine ⟨_,rfl,a,c,HG,rfl,O,(by show HG.length<=62; decide),tZ o,λt C=>?_⟩
 have v:=Et C (Zo w t c)
 refine ⟨_,rfl,b,d,HG,rfl,Lu.tup v S,(by show HG.length<=62; decide),tZ m,λp j=>?_⟩
 have n:=Et j (Zo w p d)
 refine ⟨t,p,c,d,HG,rfl,rfl,Ea Cg j,n _ _ Cg,Cg,(by show HG.length<=62; decide),tZ o,tZ m,λu z=>?_⟩
 have R:=Et z (Zo w u (c++d))
 refine ⟨u,_,rfl,Cg,λT i U N I g=>?_⟩
 have D:=Et U (.lst (i.map V.int))
 refine ⟨T,_,rfl,.inl ⟨Ua.of Cg,λL y=>?_⟩⟩
 have J:=Et y (.tup (i.map V.int))
 have x:=((v.trans n).trans (R.trans D))
 exact q L i _ (x.free y) Cg N I g (x.trans J)
theorem jE{f:Addr}{a:Bj}(F:Fun K "together" "together" Qt f a)(d:mg "tuple" = none)(b:mg "sorted" = none)(c:mg "set" = none):FnOk P w K mg base Hq 1 f a ["one", "other"] (eJ K zH):=DX (mQ F d b c)
end
theorem uQ{a b:List Int}(h:a.map Bz=b.map Bz):a=b:=(Yr (λx y e=>by injection e)).mp h
def EL:Ad->Bool
 | .int _=>true
 | _=>false
theorem GC(d:Ad):EL d=(Ux d "int" && !Ux d "bool"):=by cases d <;> simp [EL,Ux,M9]
theorem Y8{d:Ad}(h:EL d=true):∃i,d=.int i:=by
 cases d <;> simp [EL] at h
 exact ⟨_,rfl⟩
theorem AX{d:Ad}:(∃ds,d=.tuple ds)\/(Ux d "tuple" = false/\∀ds,d≠.tuple ds):=by
 cases d with
 | tuple ds=>exact .inl ⟨ds,rfl⟩
 | _=>exact .inr ⟨by simp [Ux,M9],by simp⟩
theorem K9{d:Ad}:(∃s,d=.str s)\/(Ux d "str" = false/\∀s,d≠.str s):=by
 cases d with
 | str a=>exact .inl ⟨a,rfl⟩
 | _=>exact .inr ⟨by simp [Ux,M9],by simp⟩
def K0(w u:List Int):Bool:=w.all λi=>decide (i∈u)
def X1:PF:=λc R=>∃a b:List Int,c=[Dc a,Dc b]/\R (.bool (K0 a b))
def jW:PF:=λa R=>∃d,a=[d]/\R (.bool (EL d))
def nE:PF:=λa R=>∃(h:Int) (d:Ad),a=[.int h,d]/\(∀w,d=Dc w->Eg h w->R (.bool true))/\((∀w,d=Dc w->¬ Eg h w)->R (.bool false))
def Xr(a:Addr):PX:=λb R c=>∃d,b=[d]/\(∀h,d=.int h->1<=h->h<=60->R .none)/\((∀h,d=.int h->¬ (1<=h/\h<=60))->c a)
def Se(c:Addr):PX:=λa R b=>∃(h:Int) (d:Ad),a=[.int h,d]/\1<=h/\h<=60/\(∀w,d=Dc w->Eg h w->R .none)/\((∀w,d=Dc w->¬ Eg h w)->b c)
section
variable{P:Bk}{w:World}{K:PySem.W.Frag}{mg:Str->Option Value}{base:Heap}
theorem lQ:FnScope ["thing"] ["thing"] (Bi Uu):=⟨rfl,rfl,rfl,by decide +kernel,rfl,by decide +kernel,by decide +kernel⟩
theorem lM{f   : Addr}{j  : Bj}(F:Fun K "is_whole" "is_whole" Uu f j)(b:mg "bool" = none)(a:mg "isinstance" = none)(c:mg "int" = none):FnOk P w K mg base Hq 1 f j ["thing"] (eJ K (jW)):=by
 refine' Rb (k:=0) F lQ (λo A i s H E p=>?hb) ?h
 case hb =>
  have l:=p.units
  exact Df (Ez (AZ (Km bP dA rfl a (by decide +kernel) (Ac (Ao (pv 0)) (Ac (mX (n := "int") rfl c (by decide +kernel)) Al))) (CZ (j8 (Km bP dA rfl a (by decide +kernel) (Ac (Ao (pv 0)) (Ac (mX (n := "bool") rfl b (by decide +kernel)) Al)))))))
 case h =>
  (intro q R m; obtain ⟨d,rfl,e⟩ := m)
  refine ⟨rfl,?_⟩
  rw[GC] at e
  array_get_dec
  refine EY (λg=>?_) (λg=>?_)
  ·array_get_dec
   rw[g] at e
   exact e
  ·rw[g] at e
   array_get_dec
   exact e
theorem pQ:FnScope ["holes", "thing", "least", "place"] ["holes", "thing"] (Bi Xj):=⟨rfl,rfl,rfl,by decide +kernel,rfl,by decide +kernel,by decide +kernel⟩
theorem pM{f j  : Addr}{X m:Bj}(F:Fun K "is_word" "is_word" Xj f X)(B:FnOk P w K mg base Hq 1 j m ["thing"] (eJ K (jW)))(v:Binds K m ["thing"] [])(C:PySem.W.keepIn K (.ref j)=true)(t:mg "is_whole" = some (.ref j))(D:mg "tuple" = none)(o:mg "isinstance" = none):FnOk P w K mg base Hq 2 f X ["holes", "thing"] (eJ K (nE)):=by
 refine' Rb (k:=1) F pQ (λh1 A O s H E Y=>?hb) ?h
 case hb =>
  have T:Room 1 _:=Y.mono (by decide)
  have h0:=Y.units
  exact Bt (Lj (Pe (Mv (Km bP dA rfl o (by decide +kernel) (Ac (Ao (pv 1)) (Ac (mX (n := "tuple") rfl D (by decide +kernel)) Al)))))
   (Df (Ez Zf)) Fh)
   (Bt (Ey (i:=2) pQ.nd rfl (By rfl) Bh)
   (Bt (iQ Rn rfl (IP (Ao (pv 1))) (Ct (i:=3) pQ.nd rfl (By rfl))
   (Bt (Lj (F9 (Yz (Pe (Mv (Ko B T rfl t C v Du (Ac (Ao (pv 3)) Al)))) (Yz (j6 (Ao (pv 3)) (Ao (pv 2))) (dG (HF (Ao (pv 3)) (Ao (pv 0)))))))
    (Df (Ez Zf)) Fh)
    (Df (Ey (i:=2) pQ.nd rfl (By rfl) (F6 (Ao (pv 3)) Bh)))))
   (Df (Ez Zf))))
 case h =>
  (intro ds R J; obtain ⟨h,d,rfl,hT,hF⟩ := J)
  refine ⟨rfl,?_⟩
  array_get_dec
  rcases AX (d:=d) with ⟨G,rfl⟩ | ⟨e,ne⟩
  rotate_left
  ·rw[e]
   array_get_dec
   exact hF λw z=>absurd z (ne _)
  array_get_dec
  refine jO (l:=G) (g:=λx=>x) (List.map_id' _).symm (λi δ=>∃(w:List Int) (c:Int) (L:DV),δ=⟨[.dat .sh (.int h),.dat .sh (.tuple G),.dat .sh (.int c),L],0⟩/\NP L/\G.take i=w.map Bz/\Eg h w/\(∀x∈w,x<c)/\0<=c/\(c=0\/c - 1∈w)) ?_ ?_ ?_
  ·exact ⟨[],_,_,rfl,Qg,rfl,Eg.nil _,(λx z=>nomatch z),Int.le_refl _,.inl rfl⟩
  ·(intro i x _ hx J; obtain ⟨w,c,L,rfl,S,M,r,lt,l0,lm⟩ := J)
   obtain ⟨i1,i2⟩:=Aw.mp hx
   have e1:G.take (i+1)=w.map Bz++[x]:=by rw[Hv i1,M,i2]
   have eD:G=w.map Bz++x::G.drop (i+1):=by
    have:=(Mq (i+1) G).symm
    rw[e1,Az] at this
    exact this
   have Q:(∀p,x=.int p->¬ (c<=p/\p<h))->R (.bool false):=λk=>hF λu e Z=>by
    unfold Dc at e
    injection e with e
    rw[eD] at e
    obtain ⟨u1,u2,rfl,V,ex⟩:=List.map_eq_append_iff.mp e.symm
    obtain ⟨p,u3,rfl,ep,_⟩:=List.map_eq_cons_iff.mp ex
    have V:u1=w:=uQ V
    subst V
    obtain ⟨r1,r2,r3⟩:=Bs.mp Z.1
    have b:=Z.2 p (Ag _ Ab)
    refine k p ep.symm ⟨?_,b.2⟩
    rcases lm with z | z
    ·rw[z]; exact b.1
    ·have:=r3 _ z p Ab
     omega
   array_get_dec
   refine ⟨x,rfl,?_⟩
   array_get_dec
   cases U:EL x with
   | false =>
    array_get_dec
    exact Q λp z=>by rw[z] at U; cases U
   | true =>
   obtain ⟨p,rfl⟩:=Y8 U
   array_get_dec
   refine r9 (λq=>?_) (λq=>?_)
   ·have q:p<c:=of_decide_eq_true q
    array_get_dec
    exact Q λp' z=>by cases z; omega
   have q:¬ p<c:=of_decide_eq_false q
   array_get_dec
   refine Rp (λI=>?_) (λI=>?_)
   ·have I:=of_decide_eq_true I
    array_get_dec
    exact Q λp' z=>by cases z; omega
   have I:=of_decide_eq_false I
   array_get_dec
   refine ⟨w++[p],_,_,rfl,Oq,by rw[e1,Ay]; rfl,⟨Bs.mpr ⟨r.1,En _ _,λa ha b hb=>?_⟩,λy N=>?_⟩,λy N=>?_,by omega,.inr (by rw[Int.add_sub_cancel]; exact Ag _ Ab)⟩
   ·rw[Aj.mp hb]
    have:=lt a ha
    omega
   ·rcases Ar.mp N with z | z
    ·exact r.2 y z
    ·rw[Aj.mp z]; omega
   ·rcases Ar.mp N with z | z
    ·have:=lt y z; omega
    ·rw[Aj.mp z]; omega
  ·(intro _ J; obtain ⟨w,c,L,rfl,S,M,r,lt,l0,lm⟩ := J)
   rw[Fo] at M
   array_get_dec
   exact hT w (by rw[M]; rfl) r
theorem vP:FnScope ["one", "other"] ["one", "other"] (Bi cO):=⟨rfl,rfl,rfl,by decide +kernel,rfl,by decide +kernel,by decide +kernel⟩
theorem wU{f   : Addr}{j  : Bj}(F:Fun K "within" "within" cO f j)(c:mg "all" = none):FnOk P w K mg base Hq 1 f j ["one", "other"] (eJ K (X1)):=by
 refine' Rb (k:=0) F vP (λn A e s H E p=>?hb) ?h
 case hb =>
  have d:=p.units
  exact Df (Ez (Km (mY rfl) u7 rfl c (by decide +kernel) (Ac (Vz (BB (x := "place") "other" 1 rfl (by decide +kernel) rfl rfl rfl) rfl (IP (Ao (pv 0))) (λ_ _ _=>Pt) (λ_ _ _=>FV d (Ao (pv 0)) (Ao (pv 1)))) Al)))
 case h =>
  (intro t R o; obtain ⟨a,b,rfl,q⟩ := o)
  refine ⟨rfl,?_⟩
  array_get_dec
  refine e8 (l:=a) (g:=Bz) rfl (λi=>.bool (decide (i∈b))) (λi _ r u m=>?_) ?_
  ·array_get_dec
   exact m
  ·array_get_dec
   refine ⟨a.map λi=>decide (i∈b),by rw[Dk]; rfl,?_⟩
   rw[aH]
   exact q
variable{c_Box c c_NeedleError c_NoHoles c_NoWord c_NoCount c_NoValue c_NoName c_NoSide c_NoBack c_NoText c_NoLine:Addr}
theorem cC:FnScope ["holes"] ["holes"] (Bi Pc):=⟨rfl,rfl,rfl,by decide +kernel,rfl,by decide +kernel,by decide +kernel⟩
theorem bZ{f a:Addr}{x c:Bj}(F:Fun K "check_holes" "check_holes" Pc f x)(l:FnOk P w K mg base Hq 1 a c ["thing"] (eJ K (jW)))(j:Binds K c ["thing"] [])(m:PySem.W.keepIn K (.ref a)=true)(i:mg "is_whole" = some (.ref a)){g:Tok}(b:mg "MOST_HOLES" = some (.int 60 g))(o:mg "NoHoles" = some (.ref c_NoHoles))(n:PySem.W.excIn K c_NoHoles Ze "ValueError.__new__" = true):FnOk P w K mg base (Iu P w) 2 f x ["holes"] (fE K (Xr c_NoHoles)):=by
 refine' Su (k:=1) F cC (λD A r s H E I y J=>?hb) ?h
 case hb =>
  have u:Room 1 _:=y.mono (by decide)
  have B:=y.units
  exact Li (bU (F9 (Yz (Pe (Mv (Ko l u rfl i m j Du (Ac (Ao (pv 0)) Al)))) (Yz (j6 (Ao (pv 0)) Bh) (dG (AL (Ao (pv 0)) (lP (z:=60) rfl b ⟨_,rfl⟩)))))) (Li (pL J rfl o n (Jl rfl b ⟨_,rfl⟩) (by decide) (by decide +kernel) (by decide +kernel))) (K3 Fh))
 case h =>
  (intro M R I G; obtain ⟨d,rfl,L,t⟩ := G)
  refine ⟨rfl,?_⟩
  array_get_dec
  refine ⟨d,rfl,?_⟩
  cases v:EL d with
  | false =>
   array_get_dec
   exact t λh e=>by rw[e] at v; cases v
  | true =>
  obtain ⟨h,rfl⟩:=Y8 v
  array_get_dec
  refine r9 (λq=>?_) (λq=>?_)
  ·have q:=of_decide_eq_true q
   array_get_dec
   exact t λC e=>by cases e; omega
  have q:=of_decide_eq_false q
  array_get_dec
  refine Rp (λp=>?_) (λp=>?_)
  ·have p:=of_decide_eq_true p
   array_get_dec
   exact t λC e=>by cases e; omega
  have p:=of_decide_eq_false p
  array_get_dec
  exact L h rfl (by omega) (by omega)
variable{c_Box c c_NeedleError c_NoHoles c_NoWord c_NoCount c_NoValue c_NoName c_NoSide c_NoBack c_NoText c_NoLine:Addr}
theorem fA:FnScope ["holes", "word"] ["holes", "word"] (Bi Qv):=⟨rfl,rfl,rfl,by decide +kernel,rfl,by decide +kernel,by decide +kernel⟩
theorem fI{f c a:Addr}{B g b:Bj}(F:Fun K "check_word" "check_word" Qv f B)(p:FnOk P w K mg base Hq 2 c g ["holes", "thing"] (eJ K (nE)))(q:Binds K g ["holes", "thing"] [])(n:PySem.W.keepIn K (.ref c)=true)(o:mg "is_word" = some (.ref c))(m:FnOk P w K mg base (Iu P w) 2 a b ["holes"] (fE K (Xr c_NoHoles)))(i:Binds K b ["holes"] [])(l:PySem.W.keepIn K (.ref a)=true)(j:mg "check_holes" = some (.ref a))(u:mg "NoWord" = some (.ref c_NoWord))(t:PySem.W.excIn K c_NoWord Ze "ValueError.__new__" = true):FnOk P w K mg base (Iu P w) 3 f B ["holes", "word"] (fE K (Se c_NoWord)):=by
 refine' Su (k:=2) F fA (λI A y s H E O x D=>?hb) ?h
 case hb =>
  have J:Room 1 _:=x.mono (by decide)
  have v:Room 2 _:=x.mono (by decide)
  have C:=x.units
  exact cR (bO (Xw D m v rfl j l i La (FA (Ac (Ao (pv 0)) Al))))
   (Li (bU (Pe (Mv (Ko p v rfl o n q Du (Ac (Ao (pv 0)) (Ac (Ao (pv 1)) Al))))) (Li (Xo D rfl u t)) (K3 Fh)))
 case h =>
  (intro T R O L; obtain ⟨h,d,rfl,N,M,Q,G⟩ := L)
  refine ⟨rfl,?_⟩
  array_get_dec
  refine ⟨_,rfl,λS e _ _=>?_,λz=>absurd ⟨N,M⟩ (z h rfl)⟩
  refine ⟨h,d,rfl,λw e r=>?_,λz=>?_⟩
  ·array_get_dec
   exact Q w e r
  ·array_get_dec
   exact G z
end
abbrev NG:Str := "abcdefghijklmnopqrstuvwxyz"
def oS(c:Nat):Bool:=!(Ge NG ⟨#[c]⟩ 0 NG.length 1).isEmpty
def Mw(z:Str):Bool:=decide (1<=z.length) && (decide (z.length<=8) && z.cps.toList.all oS)
def bT(a:Addr):PX:=λb R c=>∃d,b=[d]/\(∀z,d=.str z->bL z/\z.length<=1000)/\(∀z,d=.str z->Mw z=true->R .none)/\((∀z,d=.str z->Mw z=false)->c a)
def Mc(d:Ad):Prop:=d=.str "front" \/ d=.str "back"
def cZ(a:Addr):PX:=λb R c=>∃d,b=[d]/\(Mc d->R .none)/\(¬ Mc d->c a)
abbrev Ju:=Str×List Int
def Gn(c:Ju):Ad:=.tuple [.str c.1,Dc c.2]
def Dh(l:List Ju):Ad:=.list (l.map Gn)
abbrev Pass:=Ad×Ad
def Zv(ps:List Pass):Ad:=.list (ps.map λp=>.tuple [p.1,p.2])
def Ro(h:Int)(d:Ad):Prop:=∃w,d=Dc w/\Eg h w
def tW(e d:Addr):PX:=λc R b=>∃(h:Int) (a:List Pass),c=[.int h,Zv a]/\1<=h/\h<=60/\((∀p∈a,Ro h p.1/\Mc p.2)->R .none) /\
 ∀(i:Nat) (p:Pass),a[i]? = some p->(∀q∈a.take i,Ro h q.1/\Mc q.2)->(¬ Ro h p.1->b e)/\(Ro h p.1->¬ Mc p.2->b d)
def Yx(w:List Int)(l:List Ju):List Ju:=l.filter λc=>K0 w c.2
def bC(w:List Int)(l:List Ju):List Ju:=l.filter λc=>!K0 w c.2
def F3:PF:=λa R=>∃(l:List Ju) (w:List Int),a=[Dh l,Dc w]/\R (.tuple [Dh (Yx w l),Dh (bC w l)])
def gG(s:Str)(a b:List Ju):List Ju:=if s = "front" then a++b else b++a
def pZ:PF:=λc R=>∃(a b:List Ju) (s:Str),c=[Dh a,Dh b,.str s]/\a.length<=1000/\b.length<=1000/\R (Dh (gG s a b))
def pP(nm:Str)(w:List Int)(c:Ju):Ju:=if c.1=nm then (nm,dR (c.2++w)) else c
def Z8:PF:=λb R=>∃(c:Ju) (a:Str) (w:List Int),b=[Gn c,.str a,Dc w]/\Eg 60 c.2/\Eg 60 w/\R (Gn (pP a w c))
theorem nK(c:Ju):imm (Gn c)=true:=by
 unfold Gn
 rw[imm,Eb,Eb,Eb,mH]
 rfl
theorem Fq(l:List Ju):Eb (l.map Gn)=true:=Rl nK l
theorem Rf(a b:Str):(a == b)=decide (a=b):=by
 by_cases h:a=b
 ·rw[decide_eq_true h]; exact beq_iff_eq.mpr h
 ·rw[decide_eq_false h]; exact beq_eq_false_iff_ne.mpr h
theorem FD(z:Str):([Le "front",Le "back"].any λe=>Dt e (.str z))=(decide (("front" : Str)=z) || decide (("back" : Str)=z)):=by
 simp only[Ng,List.any_nil,eqD_str,Rf,Xf]
section
variable{P:Bk}{w:World}{K:PySem.W.Frag}{mg:Str->Option Value}{base:Heap}
variable{c_Box j c_NeedleError c_NoHoles c_NoWord c_NoCount c_NoValue c_NoName c_NoSide c_NoBack c_NoText c_NoLine:Addr}
theorem fN:FnScope ["name"] ["name"] (Bi Qx):=⟨rfl,rfl,rfl,by decide +kernel,rfl,by decide +kernel,by decide +kernel⟩
theorem fM{f  : Addr}{C  : Bj}(F:Fun K "check_name" "check_name" Qx f C)(r:mg "len" = none)(u:mg "str" = none)(i:mg "isinstance" = none)(t:mg "all" = none){b:Tok}(a:mg "LONGEST_NAME" = some (.int 8 b)){o:Tok}(p:mg "LETTERS" = some (.str "abcdefghijklmnopqrstuvwxyz" o))(m:mg "NoName" = some (.ref c_NoName))(j:PySem.W.excIn K c_NoName Ze "ValueError.__new__" = true):FnOk P w K mg base (Iu P w) 1 f C ["name"] (fE K (bT c_NoName)):=by
 refine' Su (k:=0) F fN (λQ A B s H E X O L=>?hb) ?h
 case hb =>
  have G:=O.units
  exact cR (bU (F9 (Yz (Pe (Mv (Km bP dA rfl i (by decide +kernel) (Ac (Ao (pv 0)) (Ac (mX (n := "str") rfl u (by decide +kernel)) Al))))) (Yz (j6 (Km mV J4 rfl r (by decide +kernel) (Ac (Ao (pv 0)) Al)) Bh) (dG (AL (Km mV J4 rfl r (by decide +kernel) (Ac (Ao (pv 0)) Al)) (lP (z:=8) rfl a ⟨_,rfl⟩)))))) (Li (qB L rfl m j (Jl rfl a ⟨_,rfl⟩) (by decide) (by decide +kernel) (by decide +kernel) (by decide +kernel))) (K3 Fh))
   (Li (bU (Pe (Mv (Km (mY rfl) u7 rfl t (by decide +kernel) (Ac (Vz (NS (x := "sign") rfl (by decide +kernel)) rfl (ED (Ao (pv 0))) (λ_ _ _=>Pt) (λ_ _ _=>DN (Ao (pv 0)) (zN (z := "abcdefghijklmnopqrstuvwxyz") rfl p ⟨_,rfl⟩))) Al)))) (Li (Xo L rfl m j)) (K3 Fh)))
 case h =>
  (intro ds R X T; obtain ⟨d,rfl,U,Y,y⟩ := T)
  refine ⟨rfl,?_⟩
  array_get_dec
  rcases K9 (d:=d) with ⟨z,rfl⟩ | ⟨e,S⟩
  rotate_left
  ·rw[e]
   array_get_dec
   exact y λz q=>absurd q (S z)
  obtain ⟨N,t2⟩:=U z rfl
  array_get_dec
  refine ⟨by omega,r9 (λq=>?_) (λq=>?_)⟩
  ·have q:=of_decide_eq_true q
   array_get_dec
   refine y λD e=>?_
   cases e
   unfold Mw
   rw[decide_eq_false (show ¬ 1<=z.length by omega)]
   rfl
  have q:=of_decide_eq_false q
  array_get_dec
  refine ⟨by omega,Rp (λv=>?_) (λv=>?_)⟩
  ·have v:=of_decide_eq_true v
   array_get_dec
   refine y λD e=>?_
   cases e
   unfold Mw
   rw[decide_eq_false (show ¬ z.length<=8 by omega),Bool.false_and,Vn]
  have v:=of_decide_eq_false v
  array_get_dec
  refine ⟨N,by omega,e8 (l:=z.cps.toList) (g:=λc=>.str ⟨#[c]⟩) rfl (λc=>.bool (oS c)) (λc _ V Z M=>?_) ?_⟩
  ·array_get_dec
   exact M
  array_get_dec
  refine ⟨z.cps.toList.map oS,by rw[Dk]; rfl,?_⟩
  rw[aH]
  have J:Mw z=z.cps.toList.all (id ∘ oS):=by
   unfold Mw
   rw[decide_eq_true (show 1<=z.length by omega),decide_eq_true (show z.length<=8 by omega)]
   rfl
  cases I:z.cps.toList.all (id ∘ oS) with
  | true =>
   array_get_dec
   exact Y z rfl (by rw[J,I])
  | false =>
   array_get_dec
   exact y λD e=>by cases e; rw[J,I]
variable{c_Box j c_NeedleError c_NoHoles c_NoWord c_NoCount c_NoValue c_NoName c_NoSide c_NoBack c_NoText c_NoLine:Addr}
theorem eQ:FnScope ["side"] ["side"] (Bi Ri):=⟨rfl,rfl,rfl,by decide +kernel,rfl,by decide +kernel,by decide +kernel⟩
theorem fO{f  : Addr}{o  : Bj}(F:Fun K "check_side" "check_side" Ri f o)(g:mg "str" = none)(a:mg "isinstance" = none)(b:mg "NoSide" = some (.ref c_NoSide))(c:PySem.W.excIn K c_NoSide Ze "ValueError.__new__" = true):FnOk P w K mg base (Iu P w) 1 f o ["side"] (fE K (cZ c_NoSide)):=by
 refine' Su (k:=0) F eQ (λv A l s H E y x B=>?hb) ?h
 case hb =>
  have i:=x.units
  exact Li (bU (F9 (Yz (Pe (Mv (Km bP dA rfl a (by decide +kernel) (Ac (Ao (pv 0)) (Ac (mX (n := "str") rfl g (by decide +kernel)) Al))))) (dG (t8 i (Ao (pv 0)) (Cm (Ac Er (Ac Er Al))))))) (Li (Xo B rfl b c)) (K3 Fh))
 case h =>
  (intro C R y u; obtain ⟨d,rfl,p,t⟩ := u)
  refine ⟨rfl,?_⟩
  array_get_dec
  rcases K9 (d:=d) with ⟨z,rfl⟩ | ⟨e,r⟩
  rotate_left
  ·rw[e]
   array_get_dec
   exact t λq=>q.elim (r _) (r _)
  array_get_dec
  rw[FD]
  by_cases j : "front" = z
  ·subst j
   rw[decide_eq_true rfl,Bool.true_or]
   array_get_dec
   exact p (.inl rfl)
  by_cases m : "back" = z
  ·subst m
   rw[decide_eq_true rfl,Bool.or_true]
   array_get_dec
   exact p (.inr rfl)
  rw[decide_eq_false j,decide_eq_false m,Xf]
  array_get_dec
  exact t λq=>by
   rcases q with q | q
   ·injection q with q; exact j q.symm
   ·injection q with q; exact m q.symm
variable{c_Box j c_NeedleError c_NoHoles c_NoWord c_NoCount c_NoValue c_NoName c_NoSide c_NoBack c_NoText c_NoLine:Addr}
theorem jC:FnScope ["holes", "row", "needles", "side"] ["holes", "row"] (Bi Sx):=⟨rfl,rfl,rfl,by decide +kernel,rfl,by decide +kernel,by decide +kernel⟩
theorem iN{f d c:Addr}{S j m:Bj}(F:Fun K "check_row" "check_row" Sx f S)(u:FnOk P w K mg base (Iu P w) 3 d j ["holes", "word"] (fE K (Se c_NoWord)))(o:Binds K j ["holes", "word"] [])(v:PySem.W.keepIn K (.ref d)=true)(C:mg "check_word" = some (.ref d))(t:FnOk P w K mg base (Iu P w) 1 c m ["side"] (fE K (cZ c_NoSide)))(B:Binds K m ["side"] [])(x:PySem.W.keepIn K (.ref c)=true)(y:mg "check_side" = some (.ref c)):FnOk P w K mg base (Iu P w) 4 f S ["holes", "row"] (fE K (tW c_NoWord c_NoSide)):=by
 refine' Su (k:=3) F jC (λZ A L s H E Ex I V=>?hb) ?h
 case hb =>
  have O:Room 1 _:=I.mono (by decide)
  have h0:Room 2 _:=I.mono (by decide)
  have N:Room 3 _:=I.mono (by decide)
  have T:=I.units
  exact Li (S8 Wh rfl (M8 (Ao (pv 1))) (Lm (n:=2) rfl (Ck (Ct (i:=2) jC.nd rfl (By rfl)) (Ck (Ct (i:=3) jC.nd rfl (By rfl)) Ia))) (cR (bO (Xw V u N rfl C v o La (FA (Ac (Ao (pv 0)) (Ac (Ao (pv 2)) Al)))))
   (Li (bO (Xw V t O rfl y x B La (FA (Ac (Ao (pv 3)) Al)))))))
 case h =>
  (intro ds R Ex D; obtain ⟨h,J,rfl,h1,h2,hR,X⟩ := D)
  refine ⟨rfl,?_⟩
  unfold Zv
  array_get_dec
  refine jO (l:=J) (g:=λp=>.tuple [p.1,p.2]) rfl (λi δ=>∃Q M:DV,δ=⟨[.dat .sh (.int h),.dat .sh (.list (J.map λp=>.tuple [p.1,p.2])),Q,M],0⟩/\∀q∈J.take i,Ro h q.1/\Mc q.2) ⟨_,_,rfl,λq z=>by simp at z⟩ ?_ ?_
  ·(intro i p _ U D; obtain ⟨Q,M,rfl,G⟩ := D)
   obtain ⟨x1,x2⟩:=X i p U G
   have nx:Ro h p.1->Mc p.2->∀q∈J.take (i+1),Ro h q.1/\Mc q.2:=λa b q hq=>by
    obtain ⟨l1,l2⟩:=Aw.mp U
    rw[Hv l1,Ar,l2] at hq
    rcases hq with hq | hq
    ·exact G q hq
    ·rw[Aj.mp hq]; exact ⟨a,b⟩
   array_get_dec
   refine ⟨h,p.1,rfl,h1,h2,λw e r=>?_,λY=>x1 λ⟨w,e,r⟩=>Y w e r⟩
   array_get_dec
   refine ⟨p.2,rfl,λs=>?_,λs=>x2 ⟨w,e,r⟩ s⟩
   array_get_dec
   exact ⟨_,_,rfl,nx ⟨w,e,r⟩ s⟩
  ·(intro _ D; obtain ⟨Q,M,rfl,G⟩ := D)
   rw[Fo] at G
   exact hR G
variable{c_Box j c_NeedleError c_NoHoles c_NoWord c_NoCount c_NoValue c_NoName c_NoSide c_NoBack c_NoText c_NoLine:Addr}
theorem Xv:FnScope ["cards", "needles", "drops", "kept"] ["cards", "needles"] (Bi Mu):=⟨rfl,rfl,rfl,by decide +kernel,rfl,by decide +kernel,by decide +kernel⟩
theorem Xp{f a:Addr}{u i:Bj}(F:Fun K "needled_cards" "needled_cards" Mu f u)(j:FnOk P w K mg base Hq 1 a i ["one", "other"] (eJ K (X1)))(b:Binds K i ["one", "other"] [])(e:PySem.W.keepIn K (.ref a)=true)(d:mg "within" = some (.ref a)):FnOk P w K mg base Hq 2 f u ["cards", "needles"] (eJ K (F3)):=by
 refine' Rb (k:=1) F Xv (λB A p s H E v=>?hb) ?h
 case hb =>
  have m:Room 1 _:=v.mono (by decide)
  have y:=v.units
  exact Bt (tN (o:=true) (i0:=2) Xv.nd rfl rfl (BB (x := "card") "needles" 1 rfl (by decide +kernel) rfl rfl rfl) rfl (M8 (Ao (pv 0))) (λ_ _ _=>aX (Mv (Ko j m rfl d e b Du (Ac (Ao (pv 1)) (Ac (Gv (Ao (pv 0)) Bh) Al))))) (λ_ _ _=>Ao (pv 0)))
   (Bt (tN (o:=true) (i0:=3) Xv.nd rfl rfl (BB (x := "card") "needles" 1 rfl (by decide +kernel) rfl rfl rfl) rfl (M8 (Ao (pv 0))) (λ_ _ _=>aX (Pe (Mv (Ko j m rfl d e b Du (Ac (Ao (pv 1)) (Ac (Gv (Ao (pv 0)) Bh) Al)))))) (λ_ _ _=>Ao (pv 0)))
   (Df (Ez (Cm (Ac (jU (pv 2)) (Ac (jU (pv 3)) Al))))))
 case h =>
  (intro G R C; obtain ⟨l,w,rfl,D⟩ := C)
  refine ⟨rfl,?_⟩
  unfold Dh
  array_get_dec
  refine lU (l:=l) (g:=Gn) rfl (λc=>K0 w c.2) Gn (λc _ r z n t=>?_) ?_
  ·unfold Gn at *
   array_get_dec
   refine ⟨w,c.2,rfl,?_⟩
   cases q:K0 w c.2 with
   | true =>
    array_get_dec
    exact n q
   | false =>
    array_get_dec
    exact t q
  array_get_dec
  refine lU (l:=l) (g:=Gn) rfl (λc=>!K0 w c.2) Gn (λc _ r z n t=>?_) ?_
  ·unfold Gn at *
   array_get_dec
   refine ⟨w,c.2,rfl,?_⟩
   cases q:K0 w c.2 with
   | true =>
    array_get_dec
    exact t (by rw[q]; rfl)
   | false =>
    array_get_dec
    exact n (by rw[q]; rfl)
  array_get_dec
  exact D
variable{c_Box j c_NeedleError c_NoHoles c_NoWord c_NoCount c_NoValue c_NoName c_NoSide c_NoBack c_NoText c_NoLine:Addr}
theorem U9:FnScope ["cards", "others", "side"] ["cards", "others", "side"] (Bi qT):=⟨rfl,rfl,rfl,by decide +kernel,rfl,by decide +kernel,by decide +kernel⟩
theorem P6{f  : Addr}{g  : Bj}(F:Fun K "laid" "laid" qT f g):FnOk P w K mg base Hq 1 f g ["cards", "others", "side"] (eJ K (pZ)):=by
 refine' Rb (k:=0) F U9 (λj A e s H E m=>?hb) ?h
 case hb =>
  have d:=m.units
  exact Df (Ez (zT (Lk d (Ao (pv 2)) Er) (Od (Ao (pv 0)) (Ao (pv 1))) (Od (Ao (pv 1)) (Ao (pv 0)))))
 case h =>
  (intro o R i; obtain ⟨a,b,s,rfl,n,l,c⟩ := i)
  refine ⟨rfl,?_⟩
  unfold Dh
  unfold gG Dh at c
  array_get_dec
  rw[Rf]
  by_cases h:s = "front"
  ·rw[if_pos h,Ay] at c
   rw[decide_eq_true h]
   array_get_dec
   exact ⟨Fq a,Fq b,by rw[Af,Af]; omega,c⟩
  ·rw[if_neg h,Ay] at c
   rw[decide_eq_false h]
   array_get_dec
   exact ⟨Fq b,Fq a,by rw[Af,Af]; omega,c⟩
variable{c_Box j c_NeedleError c_NoHoles c_NoWord c_NoCount c_NoValue c_NoName c_NoSide c_NoBack c_NoText c_NoLine:Addr}
theorem nO:FnScope ["card", "name", "places"] ["card", "name", "places"] (Bi Uz):=⟨rfl,rfl,rfl,by decide +kernel,rfl,by decide +kernel,by decide +kernel⟩
theorem oR{f a:Addr}{p b:Bj}(F:Fun K "cut_card" "cut_card" Uz f p)(d:FnOk P w K mg base Hq 1 a b ["one", "other"] (eJ K zH))(g:Binds K b ["one", "other"] [])(i:PySem.W.keepIn K (.ref a)=true)(e:mg "together" = some (.ref a)):FnOk P w K mg base Hq 2 f p ["card", "name", "places"] (eJ K (Z8)):=by
 refine' Rb (k:=1) F nO (λt A m s H E q=>?hb) ?h
 case hb =>
  have n:Room 1 _:=q.mono (by decide)
  have l:=q.units
  exact Df (Ez (Ln (zT (Lk l (Gv (Ao (pv 0)) Bh) (Ao (pv 1))) (Cm (Ac (Ln (Ao (pv 1))) (Ac (Ko d n rfl e i g Du (Ac (Gv (Ao (pv 0)) Bh) (Ac (Ao (pv 2)) Al))) Al))) (Ao (pv 0)))))
 case h =>
  (intro x R r; obtain ⟨c,u,w,rfl,v,o,j⟩ := r)
  refine ⟨rfl,?_⟩
  unfold Gn
  unfold pP Gn at j
  array_get_dec
  rw[Rf]
  by_cases h:c.1=u
  ·rw[if_pos h] at j
   rw[decide_eq_true h]
   array_get_dec
   refine ⟨c.2,w,rfl,v,o,?_⟩
   array_get_dec
   exact j
  ·rw[if_neg h] at j
   rw[decide_eq_false h]
   array_get_dec
   exact j
end
abbrev Hz:=List Ju×List Ju×List Ju
def Ql(s:Hz):Ad:=.tuple [Dh s.1,Dh s.2.1,Dh s.2.2]
def bx(C a:Addr)(h:Int)(s:Hz)(p:List Hz):DL.Kind:=Fv C a h (Ql s) (p.map Ql)
def pD(s:Hz):Nat:=s.1.length+s.2.1.length+s.2.2.length
def rS(h:Int)(s:Hz):Prop:=(∀c∈s.1,Eg h c.2)/\(∀c∈s.2.1,Eg h c.2)/\∀c∈s.2.2,Eg h c.2
def fL(h:Int)(s:Hz)(p:List Hz):Prop:=1<=h/\h<=60/\pD s<=500/\p.length<=5000/\rS h s
theorem pR(w:List Int):Qd (w.map Bz)=true:=Tp λ_ _=>rfl
theorem wW(c:Ju):Hm (Gn c)=true:=by
 show (true && (Qd (c.2.map Bz) && true))=true
 rw[pR]
 rfl
theorem Yj(l:List Ju):Hm (Dh l)=true:=by
 have a:IX (l.map Gn)=false:=by
  match l with
  | []=>rfl
  | c::_=>rfl
 unfold Dh
 rw[Hm,a,Tp λc _=>wW c]
 rfl
theorem aP(s:Hz):Hm (Ql s)=true:=by
 unfold Ql
 rw[Hm,Qd,Qd,Qd,Qd,Yj,Yj,Yj]
 rfl
theorem gY(p:List Hz):Hm (.list (p.map Ql))=true:=by
 have a:IX (p.map Ql)=false:=by
  match p with
  | []=>rfl
  | c::_=>rfl
 rw[Hm,a,Tp λc _=>aP c]
 rfl
def rO(C b:Addr):Pr:=λf c n R e=>∃(x a:Addr) (d:Ad),f=[.obj (cM C x a)]/\c=[d]/\(∀h,d=.int h->1<=h->h<=60->R (.dat .ow .none) [.obj (bx C x h ([],[],[]) [])] n) /\
 ((∀h,d=.int h->¬ (1<=h/\h<=60))->e b [.obj (cM C x a)] n)
def Wk(C:Addr):Pr:=λb c n R _=>∃(a:Addr) (h:Int) (s t:Hz) (p:List Hz),b=[.obj (bx C a h s p)]/\c=[Dh t.1,Dh t.2.1,Dh t.2.2]/\p.length<=5000/\R (.dat .ow .none) [.obj (bx C a h t (p++[s]))] n
section
variable{P:Bk}{w:World}{K:PySem.W.Frag}{mg:Str->Option Value}{base:Heap}
variable{c_Box b c_NeedleError c_NoHoles c_NoWord c_NoCount c_NoValue c_NoName c_NoSide c_NoBack c_NoText c_NoLine:Addr}
theorem Zz:FnScope ["self", "holes"] ["self", "holes"] (Bi Nr):=⟨rfl,rfl,rfl,by decide +kernel,rfl,by decide +kernel,by decide +kernel⟩
theorem Zx{f a:Addr}{p b:Bj}(F:Fun K "__init__" "Box.__init__" Nr f p)(j:FnOk P w K mg base (Iu P w) 2 a b ["holes"] (fE K (Xr c_NoHoles)))(c:Binds K b ["holes"] [])(i:PySem.W.keepIn K (.ref a)=true)(g:mg "check_holes" = some (.ref a))[TB:BoxT K c_Box]:FnOk P w K mg base (Iu P w) 3 f p ["self", "holes"] (Ig K (rO c_Box c_NoHoles)):=by
 refine' Ue (k:=2) F Zz (λu A m s H E M Y B G l I=>?hb) ?h
 case hb =>
  have v:Room 1 _:=l.mono (by decide)
  have o:Room 2 _:=l.mono (by decide)
  have q:=l.units
  exact Em (Kn (Ky I j o rfl g i c La (Ac (Ao (pv 1)) Al)))
   (Qu (qW TB (λ_=>pv 0) (pv 1)))
 case h =>
  (intro N L n R G y; obtain ⟨x,z,d,rfl,rfl,J,r⟩ := y)
  refine ⟨rfl,?_⟩
  array_get_dec
  refine ⟨d,rfl,λh e D C=>?_,λt=>?_⟩
  ·subst e
   array_get_dec
   refine ⟨x,z,h,_,rfl,rfl,?_⟩
   array_get_dec
   exact J h rfl D C
  ·array_get_dec
   exact r t
variable{c_Box b c_NeedleError c_NoHoles c_NoWord c_NoCount c_NoValue c_NoName c_NoSide c_NoBack c_NoText c_NoLine:Addr}
theorem dD:FnScope ["self", "box", "hand", "table"] ["self", "box", "hand", "table"] (Bi Pd):=⟨rfl,rfl,rfl,by decide +kernel,rfl,by decide +kernel,by decide +kernel⟩
theorem bV{f  : Addr}{c  : Bj}(F:Fun K "let_lie" "Box.let_lie" Pd f c)[TB:BoxT K c_Box]:FnOk P w K mg base Hq 1 f c ["self", "box", "hand", "table"] (Ig K (Wk c_Box)):=by
 refine' We (k:=0) F dD (λi A b s H E j=>?hb) ?h
 case hb =>
  have e:=j.units
  exact Bt (qH TB (pv 0) (pv 0))
   (Df (fX TB (pv 0) (Cm (Ac (Ao (pv 1)) (Ac (Ao (pv 2)) (Ac (Ao (pv 3)) Al))))))
 case h =>
  (intro o l n R m g; obtain ⟨a,h,s,t,p,rfl,rfl,q,d⟩ := g)
  refine ⟨rfl,?_⟩
  unfold bx at *
  array_get_dec
  refine ⟨a,h,Ql s,p.map Ql,rfl,by rw[Af]; omega,?_,?_⟩
  ·have:=gY (p++[s])
   rw[Ay] at this
   exact this
  array_get_dec
  rw[Ay] at d
  refine ⟨aP t,a,h,Ql s,p.map Ql++[Ql s],rfl,?_⟩
  array_get_dec
  exact d
end
def kS(z:Str)(l:List Ju):Bool:=l.any λc=>decide (c.1=z)
def Ld(z:Str)(s:Hz):Bool:=kS z s.1 || (kS z s.2.1 || kS z s.2.2)
def Yl(z:Str):List (Str×List Ju)->Option (Str×Nat)
 | []=>none
 | q::r=>match q.2.findIdx? (λc=>decide (c.1=z)) with
  | some i=>some (q.1,i)
  | none=>Yl z r
def Us(z:Str)(s:Hz):Option (Str×Nat):=Yl z [("box",s.1),("hand",s.2.1),("table",s.2.2)]
def sQ(d:Ad):Prop:=∀z,d=.str z->bL z/\z.length<=1000
def aU(C b:Addr):Pr:=λf c n R e=>∃(a:Addr) (h:Int) (s:Hz) (p:List Hz) (d:Ad),f=[.obj (bx C a h s p)]/\c=[d]/\pD s<=500/\sQ d /\
 (∀z q,d=.str z->Mw z=true->Us z s=some q->R (.dat .ow (.tuple [.str q.1,.int q.2])) [.obj (bx C a h s p)] n) /\
 ((∀z,d=.str z->Mw z=true->Us z s=none)->e b [.obj (bx C a h s p)] n)
def Y4(C:Addr):Pr:=λb c n R _=>∃(a:Addr) (h:Int) (s:Hz) (p:List Hz) (z:Str),b=[.obj (bx C a h s p)]/\c=[.str z]/\pD s<=500/\R (.dat .ow (.bool (Ld z s))) [.obj (bx C a h s p)] n
def uN(C:Addr):Pr:=λb c n R _=>∃(a:Addr) (h:Int) (s:Hz) (p:List Hz),b=[.obj (bx C a h s p)]/\c=[]/\pD s<=500/\R (.dat .ow (Ql s)) [.obj (bx C a h s p)] n
theorem dE:∀{z:Str} {l:List (Str×List Ju)},(Yl z l).isSome=l.any λq=>kS z q.2
 | z,[]=>rfl
 | z,q::r=>by
  rw[Yl,Ng]
  cases e:q.2.findIdx? (λc=>decide (c.1=z)) with
  | some i =>
   have : kS z q.2=true:=by
    obtain ⟨d,b,_⟩:=List.findIdx?_eq_some_iff_getElem.mp e
    exact List.any_eq_true.mpr ⟨_,eG d,b⟩
   rw[this]
   rfl
  | none =>
   have : kS z q.2=false:=by
    rw[kS,List.any_eq_false]
    exact λc a=>by simpa using List.findIdx?_eq_none_iff.mp e c a
   rw[this,Bool.false_or]
   exact dE
theorem Ya{z:Str}{s:Hz}:(Us z s).isSome=Ld z s:=by
 rw[Us,dE]
 simp only[Ng,List.any_nil,Xf]
 rfl
theorem FG{z:Str}{s:Hz}:Us z s=none↔Ld z s=false:=by
 rw[<- Ya]
 cases Us z s <;> simp
section
variable{P:Bk}{w:World}{K:PySem.W.Frag}{mg:Str->Option Value}{base:Heap}
variable{c_Box o c_NeedleError c_NoHoles c_NoWord c_NoCount c_NoValue c_NoName c_NoSide c_NoBack c_NoText c_NoLine:Addr}
theorem iG:FnScope ["self", "box", "hand", "table"] ["self"] (Bi Sg):=⟨rfl,rfl,rfl,by decide +kernel,rfl,by decide +kernel,by decide +kernel⟩
theorem jR{f  : Addr}{d  : Bj}(F:Fun K "heaps" "Box.heaps" Sg f d)(b:mg "list" = none)[TB:BoxT K c_Box]:FnOk P w K mg base Hq 1 f d ["self"] (Ig K (uN c_Box)):=by
 refine' We (k:=0) F iG (λj A c s H E m=>?hb) ?h
 case hb =>
  have e:=m.units
  exact Bt (Mx (Iq rfl (pv 0)) (Lm (n:=3) rfl (Ck (Ct (i:=1) iG.nd rfl (By rfl)) (Ck (Ct (i:=2) iG.nd rfl (By rfl)) (Ck (Ct (i:=3) iG.nd rfl (By rfl)) Ia)))))
   (Df (Ez (Cm (Ac (To kU (iK (i:=true)) rfl b (by decide +kernel) (Ac (Ao (pv 1)) Al)) (Ac (To kU (iK (i:=true)) rfl b (by decide +kernel) (Ac (Ao (pv 2)) Al)) (Ac (To kU (iK (i:=true)) rfl b (by decide +kernel) (Ac (Ao (pv 3)) Al)) Al))))))
 case h =>
  (intro u r n R t g; obtain ⟨a,h,s,p,rfl,rfl,l,o⟩ := g)
  refine ⟨rfl,?_⟩
  have q:Hm (.tuple [Dh s.1,Dh s.2.1,Dh s.2.2])=true:=aP s
  unfold bx Ql Dh at *
  unfold pD at l
  array_get_dec
  refine ⟨Fq _,Fq _,Fq _,?_⟩
  exact o
variable{c_Box o c_NeedleError c_NoHoles c_NoWord c_NoCount c_NoValue c_NoName c_NoSide c_NoBack c_NoText c_NoLine:Addr}
theorem Zr:FnScope ["self", "name"] ["self", "name"] (Bi Ny):=⟨rfl,rfl,rfl,by decide +kernel,rfl,by decide +kernel,by decide +kernel⟩
theorem aA{f  : Addr}{m  : Bj}(F:Fun K "has_card" "Box.has_card" Ny f m)(d:mg "any" = none)[TB:BoxT K c_Box]:FnOk P w K mg base Hq 1 f m ["self", "name"] (Ig K (Y4 c_Box)):=by
 refine' We (k:=0) F Zr (λt A j s H E r=>?hb) ?h
 case hb =>
  have i:=r.units
  exact Df (Ez (Km (i4 rfl) DP rfl d (by decide +kernel) (Ac (j5 (b:=true) (BB (x := "cards") "name" 1 rfl (by decide +kernel) rfl rfl rfl) (.inl rfl) (by decide +kernel) rfl (IP (Iq rfl (pv 0))) (λ_ _ _=>M8 (Ao (pv 0))) (λ_ _ _=>Yy i (Gv (Ao (pv 1)) Bh) (Ao (pv 2)))) Al)))
 case h =>
  (intro M I n R L u; obtain ⟨a,h,s,p,z,rfl,rfl,v,G⟩ := u)
  refine ⟨rfl,?_⟩
  unfold bx Ql at *
  unfold pD at v
  array_get_dec
  refine MD (l:=[s.1,s.2.1,s.2.2]) (g:=Dh) rfl (λl=>l.map λc=>.bool (decide (c.1=z))) ?_ (λl J B D o C=>?_) ?_
  ·show (_:Nat)<=_
   simp only[Qo,List.flatMap_nil,Bn,Af,List.length_nil]
   exact sz (by omega)
  ·unfold Dh
   array_get_dec
   refine LQ (l:=l) (g:=Gn) rfl (λc=>.bool (decide (c.1=z))) ?_ (λc _ y q=>?_) C
   ·rw[Af] at o; exact o
   ·unfold Gn
    show Sn _ _ _ _ _
    array_get_dec
    rw[Rf]
    exact q
  ·array_get_dec
   refine ⟨(s.1++(s.2.1++s.2.2)).map λc=>decide (c.1=z),?_,?_⟩
   ·simp only[Qo,List.flatMap_nil,Bo,Ay,Dk]
    rfl
   ·have e:(((s.1++(s.2.1++s.2.2)).map λc=>decide (c.1=z)).any id)=Ld z s:=by
     rw[aG,Tx,Tx]
     rfl
    rw[e]
    array_get_dec
    exact G
variable{c_Box o c_NeedleError c_NoHoles c_NoWord c_NoCount c_NoValue c_NoName c_NoSide c_NoBack c_NoText c_NoLine:Addr}
theorem aB:FnScope ["self", "name", "heap", "cards", "number", "card"] ["self", "name"] (Bi Oc):=⟨rfl,rfl,rfl,by decide +kernel,rfl,by decide +kernel,by decide +kernel⟩
theorem Zy{f b:Addr}{fd r:Bj}(F:Fun K "place_of" "Box.place_of" Oc f fd)(C:FnOk P w K mg base (Iu P w) 1 b r ["name"] (fE K (bT c_NoName)))(t:Binds K r ["name"] [])(u:PySem.W.keepIn K (.ref b)=true)(v:mg "check_name" = some (.ref b))(J:mg "zip" = none)(y:mg "enumerate" = none)(I:mg "HEAPS" = some (.ref o))(q_HEAPS:∀H,Tr K H o ((["box", "hand", "table"]:List Str).map V.str))[TB:BoxT K c_Box](G:mg "NoName" = some (.ref c_NoName))(D:PySem.W.excIn K c_NoName Ze "ValueError.__new__" = true):FnOk P w K mg base (Iu P w) 2 f fd ["self", "name"] (Ig K (aU c_Box c_NoName)):=by
 refine' Ue (k:=1) F aB (λh2 A h0 s H E H0 Y B Ex hr hE=>?hb) ?h
 case hb =>
  have h1:Room 1 _:=hr.mono (by decide)
  have S:=hr.units
  exact Em (Kn (Ky hE C h1 rfl v u t La (Ac (Ao (pv 1)) Al)))
   (Em (kA Wh rfl (W1 rfl J (Jl rfl I rfl) q_HEAPS (by decide) (Iq rfl (pv 0))) (Lm (n:=2) rfl (Ck (Ct (i:=2) aB.nd rfl (By rfl)) (Ck (Ct (i:=3) aB.nd rfl (By rfl)) Ia))) (Lo (kA Wh rfl (U8 rfl y (Ac (Ao (pv 3)) Al)) (Lm (n:=2) rfl (Ck (Ct (i:=4) aB.nd rfl (By rfl)) (Ck (Ct (i:=5) aB.nd rfl (By rfl)) Ia))) (Qu (Df (Lj (Lk S (Gv (Ao (pv 5)) Bh) (Ao (pv 1)))
     (Df (Ez (Cm (Ac (Ln (Ao (pv 2))) (Ac (Ln (Ao (pv 4))) Al))))) Fh))))))
   (Lo (Yq hE rfl G D)))
 case h =>
  (intro ys ds n R Ex L; obtain ⟨a,h,s,p,d,rfl,rfl,hz,hT,hR,hX⟩ := L)
  refine ⟨rfl,?_⟩
  unfold bx Ql at *
  unfold pD at hz
  array_get_dec
  refine ⟨d,rfl,hT,λz e hn=>?_,λno=>hX λz e hn=>by rw[no z e] at hn; cases hn⟩
  subst e
  array_get_dec
  refine jO (l:=[(("box" : Str),s.1),("hand",s.2.1),("table",s.2.2)]) (g:=λq=>.tuple [.str q.1,Dh q.2]) rfl (λi δ=>∃v2 v3 N M:DV,δ=⟨[.obj (Fv c_Box a h (.tuple [Dh s.1,Dh s.2.1,Dh s.2.2]) (p.map λs=>.tuple [Dh s.1,Dh s.2.1,Dh s.2.2])),.dat .sh (.str z),v2,v3,N,M],n⟩/\NP v2/\NP v3/\NP N/\NP M /\
   Yl z ([(("box" : Str),s.1),("hand",s.2.1),("table",s.2.2)].drop i)=Us z s) ⟨_,_,_,_,rfl,Qg,Qg,Qg,Qg,rfl⟩ ?_ ?_
  ·(intro i q _ hq L; obtain ⟨v2,v3,N,M,rfl,p2,p3,Z,T,O⟩ := L)
   obtain ⟨hi,e1⟩:=Aw.mp hq
   rw[Qk hi,e1,Yl] at O
   unfold Dh
   array_get_dec
   refine jO (l:=q.2.zipIdx) (g:=λx=>.tuple [.int x.2,Gn x.1]) (by rw[List.zipIdx_map,Dk]; rfl) (λj δ=>∃N M:DV,δ=⟨[.obj (Fv c_Box a h (.tuple [Dh s.1,Dh s.2.1,Dh s.2.2]) (p.map λs=>.tuple [Dh s.1,Dh s.2.1,Dh s.2.2])),.dat .sh (.str z),.dat .sh (.str q.1),.dat .sh (.list (q.2.map Gn)),N,M],n⟩/\NP N/\NP M /\
    ∀c∈q.2.take j,c.1≠z) ⟨_,_,rfl,Z,T,λc hc=>by simp at hc⟩ ?_ ?_
   ·(intro j x _ hx L; obtain ⟨N,M,rfl,Z,T,Q⟩ := L)
    obtain ⟨k1,k2⟩:=Aw.mp hx
    rw[Jh] at k1
    have ex:x=(q.2[j],j):=by rw[<- k2]; simp
    subst ex
    unfold Gn
    array_get_dec
    rw[Rf]
    refine Rp (λX=>?_) (λX=>?_)
    ·have U:=of_decide_eq_true X
     have ef:q.2.findIdx? (λc=>decide (c.1=z))=some j:=by
      rw[List.findIdx?_eq_some_iff_getElem]
      refine ⟨k1,X,λm hm=>?_⟩
      have:=Q q.2[m] (Qi.mpr ⟨m,by omega,rfl⟩)
      simpa using this
     rw[ef] at O
     array_get_dec
     exact hR z (q.1,j) rfl hn O.symm
    ·have U:=of_decide_eq_false X
     array_get_dec
     refine ⟨_,_,rfl,Oq,Oq,λc hc=>?_⟩
     rw[Hv k1,Ar] at hc
     rcases hc with hc | hc
     ·exact Q c hc
     ·rw[Aj.mp hc]; exact U
   ·(intro _ L; obtain ⟨N,M,rfl,Z,T,Q⟩ := L)
    rw[Jh,Fo] at Q
    have ef:q.2.findIdx? (λc=>decide (c.1=z))=none:=by
     rw[lD]
     intro c hc
     simpa using Q c hc
    rw[ef] at O
    array_get_dec
    exact ⟨_,_,_,_,rfl,Oq,Oq,Z,T,O⟩
  ·(intro _ L; obtain ⟨v2,v3,N,M,rfl,p2,p3,Z,T,O⟩ := L)
   array_get_dec
   refine hX λz' e _=>?_
   cases e
   rw[<- O]
   rfl
end
def BL(z:Str)(w:List Int)(s:Hz):Hz:=(s.1++[(z,w)],s.2.1,s.2.2)
def A5(w:List Int)(s:Hz):Hz:=(bC w s.1,s.2.1++Yx w s.1,s.2.2)
def IS(z:Str)(s:Hz):Hz:=(gG z s.2.1 s.1,[],s.2.2)
def u9(s:Hz):Hz:=(s.1,[],s.2.2++s.2.1)
def JM(s:Hz):Hz:=(s.1++s.2.2,s.2.1,[])
def M7(b:List Ju)(q:List Int×Str):List Ju:=gG q.2 (Yx q.1 b) (bC q.1 b)
def MT(a:List (List Int×Str))(s:Hz):Hz:=(a.foldl M7 s.1,s.2.1,s.2.2)
def FY(z:Str)(w:List Int)(s:Hz):Hz:=(s.1.map (pP z w),s.2.1.map (pP z w),s.2.2.map (pP z w))
def JO(z:Str)(l:List Ju):List Ju:=l.filter λc=>!decide (c.1=z)
def X4(z:Str)(s:Hz):Hz:=(JO z s.1,JO z s.2.1,JO z s.2.2)
def AK(q:List Int×Str):Pass:=(Dc q.1,.str q.2)
def zW(C g i:Addr):Pr:=λc f n R b=>∃(a:Addr) (h:Int) (s:Hz) (p:List Hz) (d e:Ad),c=[.obj (bx C a h s p)]/\f=[d,e]/\fL h s p/\sQ d /\
 ((∀z,d=.str z->Mw z=true->Ld z s=true)->b g [.obj (bx C a h s p)] n) /\
 ∀z,d=.str z->Mw z=true->Ld z s=false->(¬ Ro h e->b i [.obj (bx C a h s p)] n)/\∀w,e=Dc w->Eg h w->R (.dat .ow .none) [.obj (bx C a h (BL z w s) (p++[s]))] n
def cB(C f:Addr):Pr:=λb c n R d=>∃(a:Addr) (h:Int) (s:Hz) (p:List Hz) (e:Ad),b=[.obj (bx C a h s p)]/\c=[e]/\fL h s p /\
 (¬ Ro h e->d f [.obj (bx C a h s p)] n)/\∀w,e=Dc w->Eg h w->R (.dat .ow .none) [.obj (bx C a h (A5 w s) (p++[s]))] n
def Y7(C b:Addr):Pr:=λf c n R d=>∃(a:Addr) (h:Int) (s:Hz) (p:List Hz) (e:Ad),f=[.obj (bx C a h s p)]/\c=[e]/\fL h s p /\
 (¬ Mc e->d b [.obj (bx C a h s p)] n)/\∀z,e=.str z->Mc e->R (.dat .ow .none) [.obj (bx C a h (IS z s) (p++[s]))] n
def G7(C:Addr)(f:Hz->Hz):Pr:=λb c n R _=>∃(a:Addr) (h:Int) (s:Hz) (p:List Hz),b=[.obj (bx C a h s p)]/\c=[]/\fL h s p/\R (.dat .ow .none) [.obj (bx C a h (f s) (p++[s]))] n
def HN(C j g:Addr):Pr:=λe f n R d=>∃(a:Addr) (h:Int) (s:Hz) (p:List Hz) (b:List Pass),e=[.obj (bx C a h s p)]/\f=[Zv b]/\fL h s p /\
 (∀(i:Nat) (q:Pass),b[i]? = some q->(∀r∈b.take i,Ro h r.1/\Mc r.2)->(¬ Ro h q.1->d j [.obj (bx C a h s p)] n)/\(Ro h q.1->¬ Mc q.2->d g [.obj (bx C a h s p)] n)) /\
 ((∀q∈b,Ro h q.1/\Mc q.2)->∃c,b=c.map AK/\R (.dat .ow .none) [.obj (bx C a h (MT c s) (p++[s]))] n)
def G5(C g i:Addr):Pr:=λc f n R b=>∃(a:Addr) (h:Int) (s:Hz) (p:List Hz) (d e:Ad),c=[.obj (bx C a h s p)]/\f=[d,e]/\fL h s p/\sQ d /\
 ((∀z,d=.str z->Mw z=true->Ld z s=false)->b g [.obj (bx C a h s p)] n) /\
 ∀z,d=.str z->Mw z=true->Ld z s=true->(¬ Ro h e->b i [.obj (bx C a h s p)] n)/\∀w,e=Dc w->Eg h w->R (.dat .ow .none) [.obj (bx C a h (FY z w s) (p++[s]))] n
def vE(C b:Addr):Pr:=λf c n R e=>∃(a:Addr) (h:Int) (s:Hz) (p:List Hz) (d:Ad),f=[.obj (bx C a h s p)]/\c=[d]/\fL h s p/\sQ d /\
 ((∀z,d=.str z->Mw z=true->Ld z s=false)->e b [.obj (bx C a h s p)] n) /\
 ∀z,d=.str z->Mw z=true->Ld z s=true->R (.dat .ow .none) [.obj (bx C a h (X4 z s) (p++[s]))] n
def qS(C c:Addr):Pr:=λb d n R e=>∃(a:Addr) (h:Int) (s:Hz) (p:List Hz),b=[.obj (bx C a h s p)]/\d=[]/\fL h s p /\
 (p=[]->e c [.obj (bx C a h s p)] n)/\∀q t,p=q++[t]->R (.dat .ow .none) [.obj (bx C a h t q)] n
theorem yU{h:Int}{d:Ad}(a:∀w,d=Dc w->¬ Eg h w):¬ Ro h d:=λ⟨w,e,r⟩=>a w e r
theorem M4{h:Int}{w:List Int}(r:Eg h w)(k:h<=60):Eg 60 w:=⟨r.1,λx a=>⟨(r.2 x a).1,by have:=(r.2 x a).2; omega⟩⟩
theorem T6(l:List Ju):Dh l=.list (l.map Gn):=rfl
section
variable{P:Bk}{w:World}{K:PySem.W.Frag}{mg:Str->Option Value}{base:Heap}
variable{c_Box j c_NeedleError c_NoHoles c_NoWord c_NoCount c_NoValue c_NoName c_NoSide c_NoBack c_NoText c_NoLine:Addr}
theorem rR:FnScope ["self", "name", "word", "box", "hand", "table"] ["self", "name", "word"] (Bi Yp):=⟨rfl,rfl,rfl,by decide +kernel,rfl,by decide +kernel,by decide +kernel⟩
theorem qJ{f b c l j:Addr}{fd o q m g:Bj}(F:Fun K "add" "Box.add" Yp f fd)(L:FnOk P w K mg base (Iu P w) 3 b o ["holes", "word"] (fE K (Se c_NoWord)))(J:Binds K o ["holes", "word"] [])(M:PySem.W.keepIn K (.ref b)=true)(O:mg "check_word" = some (.ref b))(N:FnOk P w K mg base (Iu P w) 1 c q ["name"] (fE K (bT c_NoName)))(D:Binds K q ["name"] [])(G:PySem.W.keepIn K (.ref c)=true)(I:mg "check_name" = some (.ref c))(C:FnOk P w K mg base Hq 1 l m ["self", "box", "hand", "table"] (Ig K (Wk c_Box)))(y:Binds K m ["self", "box", "hand", "table"] [])(u:Meth K c_Box "let_lie" l)(v:FnOk P w K mg base Hq 1 j g ["self", "name"] (Ig K (Y4 c_Box)))(x:Binds K g ["self", "name"] [])(t:Meth K c_Box "has_card" j)[TB:BoxT K c_Box](S:mg "NoName" = some (.ref c_NoName))(Q:PySem.W.excIn K c_NoName Ze "ValueError.__new__" = true):FnOk P w K mg base (Iu P w) 4 f fd ["self", "name", "word"] (Ig K (zW c_Box c_NoName c_NoWord)):=by
 refine' Ue (k:=3) F rR (λh4 A X s H E H0 Y B Ex U hE=>?hb) ?h
 case hb =>
  have T:Room 1 _:=U.mono (by decide)
  have h5:Room 2 _:=U.mono (by decide)
  have h0:Room 3 _:=U.mono (by decide)
  have h3:=U.units
  exact Em (Kn (Ky hE N T rfl I G D La (Ac (Ao (pv 1)) Al)))
   (Em (Rx (Mv (Hl rfl (pv 0) TB.cl t v T x Du (Ac (Ao (pv 1)) Al))) (Lo (Yq hE rfl S Q)) (Qu (Fh)))
   (Em (Kn (Ky hE L h0 rfl O M J La (Ac (Iq rfl (pv 0)) (Ac (Ao (pv 2)) Al))))
   (Qu (Bt (Mx (Iq rfl (pv 0)) (Lm (n:=3) rfl (Ck (Ct (i:=3) rR.nd rfl (By rfl)) (Ck (Ct (i:=4) rR.nd rfl (By rfl)) (Ck (Ct (i:=5) rR.nd rfl (By rfl)) Ia))))) (Df (Ip (Hl rfl (pv 0) TB.cl u C T y Du (Ac (Od (Ao (pv 3)) (Cp (Ac (Cm (Ac (Ln (Ao (pv 1))) (Ac (Ln (Ao (pv 2))) Al))) Al))) (Ac (Ao (pv 4)) (Ac (Ao (pv 5)) Al))))))))))
 case h =>
  (intro ys ds n R Ex q_; obtain ⟨a,h,s,p,d,e,rfl,rfl,hB,hT,hX,hR⟩ := q_)
  refine ⟨rfl,?_⟩
  obtain ⟨h1,h2,hz,hp,U⟩:=id hB
  array_get_dec
  refine ⟨d,rfl,hT,λz ez V=>?_,λZ=>hX λz ez V=>by rw[Z z ez] at V; cases V⟩
  subst ez
  unfold bx
  array_get_dec
  refine ⟨a,h,s,p,z,rfl,rfl,hz,?_⟩
  cases hh:Ld z s with
  | true =>
   array_get_dec
   exact ⟨rfl,hX λz' e' _=>by cases e'; exact hh⟩
  | false =>
  obtain ⟨hW,hR⟩:=hR z rfl V hh
  unfold bx
  array_get_dec
  refine ⟨h,e,rfl,h1,h2,λw ew r=>?_,λZ=>hW (yU Z)⟩
  subst ew
  unfold Ql Dh
  array_get_dec
  refine ⟨Fq _,by rw[Af]; unfold pD at hz; omega,?_⟩
  refine ⟨a,h,s,BL z w s,p,rfl,?_,hp,?_⟩
  ·unfold BL Dh
   simp only[Ay,Ap,Ol]
   rfl
  array_get_dec
  exact ⟨rfl,hR w rfl r⟩
variable{c_Box j c_NeedleError c_NoHoles c_NoWord c_NoCount c_NoValue c_NoName c_NoSide c_NoBack c_NoText c_NoLine:Addr}
theorem eV:FnScope ["self", "needles", "box", "hand", "table", "drops", "kept"] ["self", "needles"] (Bi Ra):=⟨rfl,rfl,rfl,by decide +kernel,rfl,by decide +kernel,by decide +kernel⟩
theorem eX{f d b j:Addr}{O m g l:Bj}(F:Fun K "needle" "Box.needle" Ra f O)(C:FnOk P w K mg base (Iu P w) 3 d m ["holes", "word"] (fE K (Se c_NoWord)))(z:Binds K m ["holes", "word"] [])(D:PySem.W.keepIn K (.ref d)=true)(G:mg "check_word" = some (.ref d))(t:FnOk P w K mg base Hq 2 b g ["cards", "needles"] (eJ K (F3)))(o:Binds K g ["cards", "needles"] [])(q:PySem.W.keepIn K (.ref b)=true)(u:mg "needled_cards" = some (.ref b))(y:FnOk P w K mg base Hq 1 j l ["self", "box", "hand", "table"] (Ig K (Wk c_Box)))(x:Binds K l ["self", "box", "hand", "table"] [])(v:Meth K c_Box "let_lie" j)[TB:BoxT K c_Box]:FnOk P w K mg base (Iu P w) 4 f O ["self", "needles"] (Ig K (cB c_Box c_NoWord)):=by
 refine' Ue (k:=3) F eV (λU A J s H E H0 Y B Ex I hE=>?hb) ?h
 case hb =>
  have M:Room 1 _:=I.mono (by decide)
  have N:Room 2 _:=I.mono (by decide)
  have L:Room 3 _:=I.mono (by decide)
  have Q:=I.units
  exact Em (Kn (Ky hE C L rfl G D z La (Ac (Iq rfl (pv 0)) (Ac (Ao (pv 1)) Al))))
   (Qu (Bt (Mx (Iq rfl (pv 0)) (Lm (n:=3) rfl (Ck (Ct (i:=2) eV.nd rfl (By rfl)) (Ck (Ct (i:=3) eV.nd rfl (By rfl)) (Ck (Ct (i:=4) eV.nd rfl (By rfl)) Ia))))) (Bt (Mx (Ko t N rfl u q o Du (Ac (Ao (pv 2)) (Ac (Ao (pv 1)) Al))) (Lm (n:=2) rfl (Ck (Ct (i:=5) eV.nd rfl (By rfl)) (Ck (Ct (i:=6) eV.nd rfl (By rfl)) Ia))))
   (Df (Ip (Hl rfl (pv 0) TB.cl v y M x Du (Ac (Ao (pv 6)) (Ac (Od (Ao (pv 3)) (Ao (pv 5))) (Ac (Ao (pv 4)) Al)))))))))
 case h =>
  (intro ys ds n R Ex V; obtain ⟨a,h,s,p,e,rfl,rfl,hB,S,hR⟩ := V)
  refine ⟨rfl,?_⟩
  obtain ⟨h1,Z,X,hp,I⟩:=id hB
  unfold bx
  array_get_dec
  refine ⟨h,e,rfl,h1,Z,λw ew r=>?_,λT=>S (yU T)⟩
  subst ew
  unfold Ql
  array_get_dec
  refine ⟨s.1,w,rfl,?_⟩
  unfold Dh
  array_get_dec
  refine ⟨Fq _,Fq _,?_,?_⟩
  ·have:=List.length_filter_le (λc:Ju=>K0 w c.2) s.1
   unfold pD at X
   unfold Yx
   rw[Af,Af]
   omega
  refine ⟨a,h,s,A5 w s,p,rfl,?_,hp,?_⟩
  ·unfold A5 Dh
   simp only[Ay]
  array_get_dec
  exact ⟨rfl,hR w rfl r⟩
variable{c_Box j c_NeedleError c_NoHoles c_NoWord c_NoCount c_NoValue c_NoName c_NoSide c_NoBack c_NoText c_NoLine:Addr}
theorem rF:FnScope ["self", "side", "box", "hand", "table"] ["self", "side"] (Bi Xy):=⟨rfl,rfl,rfl,by decide +kernel,rfl,by decide +kernel,by decide +kernel⟩
theorem rD{f b u c:Addr}{L g v d:Bj}(F:Fun K "lay" "Box.lay" Xy f L)(o:FnOk P w K mg base (Iu P w) 1 b g ["side"] (fE K (cZ c_NoSide)))(t:Binds K g ["side"] [])(q:PySem.W.keepIn K (.ref b)=true)(r:mg "check_side" = some (.ref b))(x:FnOk P w K mg base Hq 1 u v ["cards", "others", "side"] (eJ K (pZ)))(D:Binds K v ["cards", "others", "side"] [])(y:PySem.W.keepIn K (.ref u)=true)(C:mg "laid" = some (.ref u))(m:FnOk P w K mg base Hq 1 c d ["self", "box", "hand", "table"] (Ig K (Wk c_Box)))(l:Binds K d ["self", "box", "hand", "table"] [])(j:Meth K c_Box "let_lie" c)[TB:BoxT K c_Box]:FnOk P w K mg base (Iu P w) 2 f L ["self", "side"] (Ig K (Y7 c_Box c_NoSide)):=by
 refine' Ue (k:=1) F rF (λQ A I s H E H0 Y B X J Z=>?hb) ?h
 case hb =>
  have G:Room 1 _:=J.mono (by decide)
  have M:=J.units
  exact Em (Kn (Ky Z o G rfl r q t La (Ac (Ao (pv 1)) Al)))
   (Qu (Bt (Mx (Iq rfl (pv 0)) (Lm (n:=3) rfl (Ck (Ct (i:=2) rF.nd rfl (By rfl)) (Ck (Ct (i:=3) rF.nd rfl (By rfl)) (Ck (Ct (i:=4) rF.nd rfl (By rfl)) Ia))))) (Df (Ip (Hl rfl (pv 0) TB.cl j m G l Du (Ac (Ko x G rfl C y D Du (Ac (Ao (pv 3)) (Ac (Ao (pv 2)) (Ac (Ao (pv 1)) Al)))) (Ac (Cp Al) (Ac (Ao (pv 4)) Al))))))))
 case h =>
  (intro ys ds n R X S; obtain ⟨a,h,s,p,e,rfl,rfl,V,N,hR⟩ := S)
  refine ⟨rfl,?_⟩
  obtain ⟨h1,h2,T,U,J⟩:=id V
  unfold pD at T
  unfold bx
  array_get_dec
  refine ⟨e,rfl,λhs=>?_,λO=>N O⟩
  obtain ⟨z,rfl⟩ : ∃z,e=.str z:=by rcases hs with hs | hs <;> exact ⟨_,hs⟩
  unfold Ql
  array_get_dec
  refine ⟨s.2.1,s.1,z,rfl,by omega,by omega,?_⟩
  array_get_dec
  refine ⟨a,h,s,IS z s,p,rfl,rfl,U,?_⟩
  array_get_dec
  exact ⟨rfl,hR z rfl hs⟩
variable{c_Box j c_NeedleError c_NoHoles c_NoWord c_NoCount c_NoValue c_NoName c_NoSide c_NoBack c_NoText c_NoLine:Addr}
theorem fG:FnScope ["self", "box", "hand", "table"] ["self"] (Bi Qw):=⟨rfl,rfl,rfl,by decide +kernel,rfl,by decide +kernel,by decide +kernel⟩
theorem fK{f b:Addr}{o c:Bj}(F:Fun K "set_by" "Box.set_by" Qw f o)(g:FnOk P w K mg base Hq 1 b c ["self", "box", "hand", "table"] (Ig K (Wk c_Box)))(e:Binds K c ["self", "box", "hand", "table"] [])(d:Meth K c_Box "let_lie" b)[TB:BoxT K c_Box]:FnOk P w K mg base Hq 2 f o ["self"] (Ig K (G7 c_Box u9)):=by
 refine' We (k:=1) F fG (λr A j s H E l=>?hb) ?h
 case hb =>
  have m:Room 1 _:=l.mono (by decide)
  have q:=l.units
  exact Bt (Mx (Iq rfl (pv 0)) (Lm (n:=3) rfl (Ck (Ct (i:=1) fG.nd rfl (By rfl)) (Ck (Ct (i:=2) fG.nd rfl (By rfl)) (Ck (Ct (i:=3) fG.nd rfl (By rfl)) Ia)))))
   (Df (Ip (Hl rfl (pv 0) TB.cl d g m e Du (Ac (Ao (pv 1)) (Ac (Cp Al) (Ac (Od (Ao (pv 3)) (Ao (pv 2))) Al))))))
 case h =>
  (intro G z n R D t; obtain ⟨a,h,s,p,rfl,rfl,x,y⟩ := t)
  refine ⟨rfl,?_⟩
  obtain ⟨C,B,u,v,l⟩:=id x
  unfold pD at u
  unfold bx Ql Dh
  array_get_dec
  refine ⟨Fq _,Fq _,by rw[Af,Af]; omega,?_⟩
  refine ⟨a,h,s,u9 s,p,rfl,?_,v,?_⟩
  ·unfold u9 Dh
   simp only[Ay]
   rfl
  array_get_dec
  exact ⟨rfl,y⟩
variable{c_Box j c_NeedleError c_NoHoles c_NoWord c_NoCount c_NoValue c_NoName c_NoSide c_NoBack c_NoText c_NoLine:Addr}
theorem bD:FnScope ["self", "box", "hand", "table"] ["self"] (Bi Pb):=⟨rfl,rfl,rfl,by decide +kernel,rfl,by decide +kernel,by decide +kernel⟩
theorem dQ{f b:Addr}{o c:Bj}(F:Fun K "take_up" "Box.take_up" Pb f o)(g:FnOk P w K mg base Hq 1 b c ["self", "box", "hand", "table"] (Ig K (Wk c_Box)))(e:Binds K c ["self", "box", "hand", "table"] [])(d:Meth K c_Box "let_lie" b)[TB:BoxT K c_Box]:FnOk P w K mg base Hq 2 f o ["self"] (Ig K (G7 c_Box JM)):=by
 refine' We (k:=1) F bD (λr A j s H E l=>?hb) ?h
 case hb =>
  have m:Room 1 _:=l.mono (by decide)
  have q:=l.units
  exact Bt (Mx (Iq rfl (pv 0)) (Lm (n:=3) rfl (Ck (Ct (i:=1) bD.nd rfl (By rfl)) (Ck (Ct (i:=2) bD.nd rfl (By rfl)) (Ck (Ct (i:=3) bD.nd rfl (By rfl)) Ia)))))
   (Df (Ip (Hl rfl (pv 0) TB.cl d g m e Du (Ac (Od (Ao (pv 1)) (Ao (pv 3))) (Ac (Ao (pv 2)) (Ac (Cp Al) Al))))))
 case h =>
  (intro G z n R D t; obtain ⟨a,h,s,p,rfl,rfl,x,y⟩ := t)
  refine ⟨rfl,?_⟩
  obtain ⟨C,B,u,v,l⟩:=id x
  unfold pD at u
  unfold bx Ql Dh
  array_get_dec
  refine ⟨Fq _,Fq _,by rw[Af,Af]; omega,?_⟩
  refine ⟨a,h,s,JM s,p,rfl,?_,v,?_⟩
  ·unfold JM Dh
   simp only[Ay]
   rfl
  array_get_dec
  exact ⟨rfl,y⟩
variable{c_Box j c_NeedleError c_NoHoles c_NoWord c_NoCount c_NoValue c_NoName c_NoSide c_NoBack c_NoText c_NoLine:Addr}
theorem lH:FnScope ["self"] ["self"] (Bi Vh):=⟨rfl,rfl,rfl,by decide +kernel,rfl,by decide +kernel,by decide +kernel⟩
theorem lO{f  : Addr}{g  : Bj}(F:Fun K "undo" "Box.undo" Vh f g)[TB:BoxT K c_Box](c:mg "NoBack" = some (.ref c_NoBack))(b:PySem.W.excIn K c_NoBack Ze "ValueError.__new__" = true):FnOk P w K mg base (Iu P w) 1 f g ["self"] (Ig K (qS c_Box c_NoBack)):=by
 refine' Ue (k:=0) F lH (λm A d s H E C Y B u i v=>?hb) ?h
 case hb =>
  have j:=i.units
  exact Em (Rx (Pe (wL TB (pv 0))) (Lo (Yq v rfl c b)) (Qu (Fh)))
   (Qu (Df (fX TB (pv 0) (wD TB (pv 0)))))
 case h =>
  (intro J y n R u o; obtain ⟨a,h,s,p,rfl,rfl,r,l,x⟩ := o)
  refine ⟨rfl,?_⟩
  obtain ⟨I,D,z,G,i⟩:=id r
  unfold bx
  array_get_dec
  refine ⟨a,h,Ql s,p.map Ql,rfl,?_⟩
  rcases List.eq_nil_or_concat p with rfl | ⟨q,t,rfl⟩
  ·array_get_dec
   exact l rfl
  ·have e:((q.concat t).map Ql).isEmpty=false:=by
    rw[Uc,Ay]
    cases q <;> rfl
   rw[e]
   array_get_dec
   rw[Uc,Ay]
   refine ⟨a,h,Ql s,q.map Ql,Ql t,rfl,gY q,?_⟩
   array_get_dec
   refine ⟨aP t,a,h,Ql s,q.map Ql,rfl,?_⟩
   array_get_dec
   exact x q t (Uc)
variable{c_Box j c_NeedleError c_NoHoles c_NoWord c_NoCount c_NoValue c_NoName c_NoSide c_NoBack c_NoText c_NoLine:Addr}
theorem wN:FnScope ["self", "row", "box", "hand", "table", "needles", "side", "drops", "kept"] ["self", "row"] (Bi bE):=⟨rfl,rfl,rfl,by decide +kernel,rfl,by decide +kernel,by decide +kernel⟩
theorem wY{f j d J m:Addr}{fd r e M o:Bj}(F:Fun K "go" "Box.go" bE f fd)(G:FnOk P w K mg base (Iu P w) 4 j r ["holes", "row"] (fE K (tW c_NoWord c_NoSide)))(D:Binds K r ["holes", "row"] [])(L:PySem.W.keepIn K (.ref j)=true)(I:mg "check_row" = some (.ref j))(v:FnOk P w K mg base Hq 2 d e ["cards", "needles"] (eJ K (F3)))(t:Binds K e ["cards", "needles"] [])(u:PySem.W.keepIn K (.ref d)=true)(x:mg "needled_cards" = some (.ref d))(O:FnOk P w K mg base Hq 1 J M ["cards", "others", "side"] (eJ K (pZ)))(T:Binds K M ["cards", "others", "side"] [])(Q:PySem.W.keepIn K (.ref J)=true)(S:mg "laid" = some (.ref J))(C:FnOk P w K mg base Hq 1 m o ["self", "box", "hand", "table"] (Ig K (Wk c_Box)))(z:Binds K o ["self", "box", "hand", "table"] [])(y:Meth K c_Box "let_lie" m)[TB:BoxT K c_Box]:FnOk P w K mg base (Iu P w) 5 f fd ["self", "row"] (Ig K (HN c_Box c_NoWord c_NoSide)):=by
 refine' Ue (k:=4) F wN (λh9 A h4 s H E H0 Y B Ex U hE=>?hb) ?h
 case hb =>
  have V:Room 1 _:=U.mono (by decide)
  have h6:Room 2 _:=U.mono (by decide)
  have h8:Room 3 _:=U.mono (by decide)
  have h0:Room 4 _:=U.mono (by decide)
  have h7:=U.units
  exact Em (Kn (Ky hE G h0 rfl I L D La (Ac (Iq rfl (pv 0)) (Ac (Ao (pv 1)) Al))))
   (Em (KP (Mx (Iq rfl (pv 0)) (Lm (n:=3) rfl (Ck (Ct (i:=2) wN.nd rfl (By rfl)) (Ck (Ct (i:=3) wN.nd rfl (By rfl)) (Ck (Ct (i:=4) wN.nd rfl (By rfl)) Ia))))))
   (Em (kA Wh rfl (M8 (Ao (pv 1))) (Lm (n:=2) rfl (Ck (Ct (i:=5) wN.nd rfl (By rfl)) (Ck (Ct (i:=6) wN.nd rfl (By rfl)) Ia))) (Qu (Bt (Mx (Ko v h6 rfl x u t Du (Ac (Ao (pv 2)) (Ac (Ao (pv 5)) Al))) (Lm (n:=2) rfl (Ck (Ct (i:=7) wN.nd rfl (By rfl)) (Ck (Ct (i:=8) wN.nd rfl (By rfl)) Ia)))) (Df (Ey (i:=2) wN.nd rfl (By rfl) (Ko O V rfl S Q T Du (Ac (Ao (pv 7)) (Ac (Ao (pv 8)) (Ac (Ao (pv 6)) Al)))))))))
   (Qu (Df (Ip (Hl rfl (pv 0) TB.cl y C V z Du (Ac (Ao (pv 2)) (Ac (Ao (pv 3)) (Ac (Ao (pv 4)) Al)))))))))
 case h =>
  (intro ys ds n R Ex X; obtain ⟨a,h,s,p,ps,rfl,rfl,hB,hX,hR⟩ := X)
  refine ⟨rfl,?_⟩
  obtain ⟨h1,h2,hz,hp,U⟩:=id hB
  unfold bx
  array_get_dec
  refine ⟨h,ps,rfl,h1,h2,λok=>?_,λi q hq hi=>hX i q hq hi⟩
  obtain ⟨N,rfl,hQ⟩:=hR ok
  unfold Ql Zv
  array_get_dec
  refine jO (l:=N) (g:=λq=>.tuple [Dc q.1,.str q.2]) (by rw[Dk]; rfl) (λi δ=>∃v5 Z v7 v8:DV,δ=⟨[.obj (Fv c_Box a h (.tuple [Dh s.1,Dh s.2.1,Dh s.2.2]) (p.map λs=>.tuple [Dh s.1,Dh s.2.1,Dh s.2.2])),.dat .sh (.list ((N.map AK).map λp=>.tuple [p.1,p.2])),.dat .sh (Dh ((N.take i).foldl M7 s.1)),.dat .sh (Dh s.2.1),.dat .sh (Dh s.2.2),v5,Z,v7,v8],n⟩/\NP v5/\NP Z/\NP v7/\NP v8/\((N.take i).foldl M7 s.1).length=s.1.length) ⟨_,_,_,_,rfl,Qg,Qg,Qg,Qg,rfl⟩ ?_ ?_
  ·(intro i q _ hq X; obtain ⟨v5,Z,v7,v8,rfl,p5,p6,p7,p8,hl⟩ := X)
   obtain ⟨hi,e1⟩:=Aw.mp hq
   unfold pD at hz
   have hd:∀(b:List Ju) (w:List Int),(Yx w b).length+(bC w b).length=b.length:=λb w=>by
    unfold Yx bC
    induction b with
    | nil=>rfl
    | cons c b ih =>
     rw[eH,eH,Bp]
     cases K0 w c.2 <;> simp <;> omega
   have h5:(M7 ((N.take i).foldl M7 s.1) q).length=s.1.length:=by
    have:=hd ((N.take i).foldl M7 s.1) q.1
    show (gG q.2 (Yx q.1 _) (bC q.1 _)).length=_
    unfold gG
    split <;> rw[Bn] <;> omega
   have h3:=hd ((N.take i).foldl M7 s.1) q.1
   array_get_dec
   refine ⟨_,q.1,rfl,?_⟩
   array_get_dec
   refine ⟨_,_,q.2,rfl,by omega,by omega,?_⟩
   array_get_dec
   have e2:(N.take (i+1)).foldl M7 s.1=M7 ((N.take i).foldl M7 s.1) q:=by
    rw[Hv hi,e1,List.foldl_append]
    rfl
   rw[e2]
   exact ⟨_,_,_,_,rfl,Oq,Oq,Oq,Oq,h5⟩
  ·(intro _ X; obtain ⟨v5,Z,v7,v8,rfl,p5,p6,p7,p8,hl⟩ := X)
   rw[Fo]
   array_get_dec
   refine ⟨a,h,s,MT N s,p,rfl,rfl,hp,?_⟩
   array_get_dec
   exact ⟨rfl,hQ⟩
variable{c_Box j c_NeedleError c_NoHoles c_NoWord c_NoCount c_NoValue c_NoName c_NoSide c_NoBack c_NoText c_NoLine:Addr}
theorem rX:FnScope ["self", "name", "places", "box", "hand", "table"] ["self", "name", "places"] (Bi Xl):=⟨rfl,rfl,rfl,by decide +kernel,rfl,by decide +kernel,by decide +kernel⟩
theorem rG{f b t o m:Addr}{fd v C u j:Bj}(F:Fun K "cut" "Box.cut" Xl f fd)(N:FnOk P w K mg base (Iu P w) 3 b v ["holes", "word"] (fE K (Se c_NoWord)))(M:Binds K v ["holes", "word"] [])(O:PySem.W.keepIn K (.ref b)=true)(Q:mg "check_word" = some (.ref b))(S:FnOk P w K mg base Hq 2 t C ["card", "name", "places"] (eJ K (Z8)))(T:Binds K C ["card", "name", "places"] [])(U:PySem.W.keepIn K (.ref t)=true)(V:mg "cut_card" = some (.ref t))(L:FnOk P w K mg base Hq 1 o u ["self", "box", "hand", "table"] (Ig K (Wk c_Box)))(J:Binds K u ["self", "box", "hand", "table"] [])(D:Meth K c_Box "let_lie" o)(G:FnOk P w K mg base (Iu P w) 2 m j ["self", "name"] (Ig K (aU c_Box c_NoName)))(I:Binds K j ["self", "name"] [])(y:Meth K c_Box "place_of" m)[TB:BoxT K c_Box]:FnOk P w K mg base (Iu P w) 4 f fd ["self", "name", "places"] (Ig K (G5 c_Box c_NoName c_NoWord)):=by
 refine' Ue (k:=3) F rX (λh9 A h3 s H E H0 Y B Ex X hE=>?hb) ?h
 case hb =>
  have h5:Room 1 _:=X.mono (by decide)
  have h0:Room 2 _:=X.mono (by decide)
  have h4:Room 3 _:=X.mono (by decide)
  have h8:=X.units
  exact Em (Kn (Lb rfl hE (pv 0) TB.cl y G h0 I La (Ac (Ao (pv 1)) Al)))
   (Em (Kn (Ky hE N h4 rfl Q O M La (Ac (Iq rfl (pv 0)) (Ac (Ao (pv 2)) Al))))
   (Qu (Bt (Mx (oH (MS (x := "cards") "name" "places" 1 2 rfl (by decide +kernel) rfl rfl rfl) rfl (IP (Iq rfl (pv 0))) (λ_ _ _=>Pt) (λ_ _ _=>Vz (MS (x := "card") "name" "places" 1 2 rfl (by decide +kernel) rfl rfl rfl) rfl (M8 (Ao (pv 0))) (λ_ _ _=>Pt) (λ_ _ _=>Ko S h0 rfl V U T Du (Ac (Ao (pv 0)) (Ac (Ao (pv 1)) (Ac (Ao (pv 2)) Al)))))) (L9 (n:=3) rfl (Ck (Ct (i:=3) rX.nd rfl (By rfl)) (Ck (Ct (i:=4) rX.nd rfl (By rfl)) (Ck (Ct (i:=5) rX.nd rfl (By rfl)) Ia))))) (Df (Ip (Hl rfl (pv 0) TB.cl D L h5 J Du (Ac (Ao (pv 3)) (Ac (Ao (pv 4)) (Ac (Ao (pv 5)) Al)))))))))
 case h =>
  (intro ys ds n R Ex q_; obtain ⟨a,h,s,p,d,e,rfl,rfl,hB,hT,hX,hR⟩ := q_)
  refine ⟨rfl,?_⟩
  obtain ⟨h1,h2,hz,hp,X⟩:=id hB
  array_get_dec
  unfold bx
  array_get_dec
  refine ⟨a,h,s,p,d,rfl,rfl,hz,hT,λz q ez hn hq=>?_,λZ=>⟨Au _,⟨rfl,trivial⟩,hX λz ez hn=>FG.mp (Z z ez hn)⟩⟩
  subst ez
  have hh:Ld z s=true:=by
   have:=Ya (z:=z) (s:=s)
   rw[hq] at this
   exact this.symm
  obtain ⟨hW,hR⟩:=hR z rfl hn hh
  unfold bx
  array_get_dec
  refine ⟨h,e,rfl,h1,h2,λw ew r=>?_,λZ=>hW (yU Z)⟩
  subst ew
  unfold Ql
  array_get_dec
  refine E5 (l:=[s.1,s.2.1,s.2.2]) (g:=Dh) rfl (λl=>Dh (l.map (pP z w))) (λl hl h6 Z hy=>?_) ?_
  ·have h7:∀c∈l,Eg h c.2:=by
    obtain ⟨r1,r2,r3⟩:=X
    simp only[Ai,Bc,or_false] at hl
    rcases hl with rfl | rfl | rfl
    ·exact r1
    ·exact r2
    ·exact r3
   unfold Dh
   array_get_dec
   refine e8 (l:=l) (g:=Gn) rfl (λc=>Gn (pP z w c)) (λc hc h6 Z hy=>?_) ?_
   ·array_get_dec
    refine ⟨c,z,w,rfl,M4 (h7 c hc) h2,M4 r h2,?_⟩
    array_get_dec
    exact ⟨nK _,hy⟩
   ·array_get_dec
    rw[T6,Dk] at hy
    exact hy
  array_get_dec
  refine ⟨a,h,s,FY z w s,p,rfl,rfl,hp,?_⟩
  array_get_dec
  exact ⟨rfl,hR w rfl r⟩
variable{c_Box j c_NeedleError c_NoHoles c_NoWord c_NoCount c_NoValue c_NoName c_NoSide c_NoBack c_NoText c_NoLine:Addr}
theorem mD:FnScope ["self", "name", "box", "hand", "table"] ["self", "name"] (Bi Vf):=⟨rfl,rfl,rfl,by decide +kernel,rfl,by decide +kernel,by decide +kernel⟩
theorem mI{f j e:Addr}{T m b:Bj}(F:Fun K "take" "Box.take" Vf f T)(y:FnOk P w K mg base Hq 1 j m ["self", "box", "hand", "table"] (Ig K (Wk c_Box)))(v:Binds K m ["self", "box", "hand", "table"] [])(r:Meth K c_Box "let_lie" j)(t:FnOk P w K mg base (Iu P w) 2 e b ["self", "name"] (Ig K (aU c_Box c_NoName)))(u:Binds K b ["self", "name"] [])(o:Meth K c_Box "place_of" e)[TB:BoxT K c_Box]:FnOk P w K mg base (Iu P w) 3 f T ["self", "name"] (Ig K (vE c_Box c_NoName)):=by
 refine' Ue (k:=2) F mD (λV A J s H E H0 Y B Ex G hE=>?hb) ?h
 case hb =>
  have N:Room 1 _:=G.mono (by decide)
  have O:Room 2 _:=G.mono (by decide)
  have C:=G.units
  exact Em (Kn (Lb rfl hE (pv 0) TB.cl o t O u La (Ac (Ao (pv 1)) Al)))
   (Qu (Bt (Mx (oH (BB (x := "cards") "name" 1 rfl (by decide +kernel) rfl rfl rfl) rfl (IP (Iq rfl (pv 0))) (λ_ _ _=>Pt) (λ_ _ _=>Vz (BB (x := "card") "name" 1 rfl (by decide +kernel) rfl rfl rfl) rfl (M8 (Ao (pv 0))) (λ_ _ _=>aX (tS C (Gv (Ao (pv 0)) Bh) (Ao (pv 1)))) (λ_ _ _=>Ao (pv 0)))) (L9 (n:=3) rfl (Ck (Ct (i:=2) mD.nd rfl (By rfl)) (Ck (Ct (i:=3) mD.nd rfl (By rfl)) (Ck (Ct (i:=4) mD.nd rfl (By rfl)) Ia))))) (Df (Ip (Hl rfl (pv 0) TB.cl r y N v Du (Ac (Ao (pv 2)) (Ac (Ao (pv 3)) (Ac (Ao (pv 4)) Al))))))))
 case h =>
  (intro ys ds n R Ex X; obtain ⟨a,h,s,p,d,rfl,rfl,hB,hT,U,S⟩ := X)
  refine ⟨rfl,?_⟩
  obtain ⟨h1,h2,Z,hp,G⟩:=id hB
  array_get_dec
  unfold bx
  array_get_dec
  refine ⟨a,h,s,p,d,rfl,rfl,Z,hT,λz q M D W=>?_,λL=>⟨Au _,⟨rfl,trivial⟩,U λz M D=>FG.mp (L z M D)⟩⟩
  subst M
  have hh:Ld z s=true:=by
   have:=Ya (z:=z) (s:=s)
   rw[W] at this
   exact this.symm
  have S:=S z rfl D hh
  unfold bx Ql
  array_get_dec
  refine E5 (l:=[s.1,s.2.1,s.2.2]) (g:=Dh) rfl (λl=>Dh (JO z l)) (λl hl Q L I=>?_) ?_
  ·unfold Dh
   array_get_dec
   refine lU (l:=l) (g:=Gn) rfl (λc=>!decide (c.1=z)) Gn (λc _ Q L I D=>?_) ?_
   ·unfold Gn at *
    array_get_dec
    rw[Rf]
    cases q:decide (c.1=z) with
    | true =>
     array_get_dec
     exact D (by rw[q]; rfl)
    | false =>
     array_get_dec
     exact I (by rw[q]; rfl)
   ·array_get_dec
    exact I
  array_get_dec
  refine ⟨a,h,s,X4 z s,p,rfl,rfl,hp,?_⟩
  array_get_dec
  exact ⟨rfl,S⟩
end
structure XCls(K:PySem.W.Frag)(NE:Addr)(cs:List Addr)(C:Addr)(k:Nat):Prop where
 ek:ExcK K C
 q:∀(j:Nat) (c:Addr),cs[j]? = some c->PySem.W.kitOne K (.ref C) (.ref c)=some (decide (j=k))
 v:PySem.W.kitOne K (.ref C) (.type "ValueError")=some true
 n:PySem.W.subIn K (.ref C) (.ref NE)=some true
structure XAll(K:PySem.W.Frag)(NE c0 c1 c2 c3 c4 c5 c6 c7 c8:Addr):Prop where
 x0:XCls K NE [c0,c1,c2,c3,c4,c5,c6,c7,c8] c0 0
 x1:XCls K NE [c0,c1,c2,c3,c4,c5,c6,c7,c8] c1 1
 x2:XCls K NE [c0,c1,c2,c3,c4,c5,c6,c7,c8] c2 2
 x3:XCls K NE [c0,c1,c2,c3,c4,c5,c6,c7,c8] c3 3
def Q8(h:Int)(s:Hz)(Zq:Int)(nm w b c:Ad)(k:Nat):Prop :=
 (Zq=0/\sQ nm/\(((∀z,nm=.str z->Mw z=true->Ld z s=true)/\k=0)\/((∃z,nm=.str z/\Mw z=true/\Ld z s=false)/\¬ Ro h w/\k=1))) \/
 (Zq=1/\¬ Ro h w/\k=1)\/(Zq=2/\¬ Mc c/\k=2) \/
 (Zq=5/\∃(a:List Pass) (i:Nat) (q:Pass),b=Zv a/\a[i]? = some q/\(∀r∈a.take i,Ro h r.1/\Mc r.2)/\((¬ Ro h q.1/\k=1)\/(Ro h q.1/\¬ Mc q.2/\k=2))) \/
 (Zq=6/\sQ nm/\(((∀z,nm=.str z->Mw z=true->Ld z s=false)/\k=0)\/((∃z,nm=.str z/\Mw z=true/\Ld z s=true)/\¬ Ro h w/\k=1))) \/
 (Zq=7/\sQ nm/\(∀z,nm=.str z->Mw z=true->Ld z s=false)/\k=0)
def zS(C:Addr)(cs:List Addr):Pr:=λi f n _ g=>∃(a:Addr) (h:Int) (s:Hz) (p:List Hz) (Zq:Int) (e w b d:Ad) (k:Nat) (c:Addr),i=[.obj (bx C a h s p)]/\f=[.int Zq,e,w,b,d]/\fL h s p /\
 Q8 h s Zq e w b d k/\cs[k]? = some c/\g c [.obj (bx C a h s p)] n
def tK(K:PySem.W.Frag)(a:Addr)(cs:List Addr):Pr:=λb c n R _=>∃(x C:Addr) (k:Nat),b=[.obj (bY x C)]/\c=[]/\XCls K a cs C k/\k<9/\R (.dat .ow (.list [.int k])) [.obj (bY x C)] n
def K7(C:Addr):Pr:=λf e n R _=>∃(a:Addr) (h:Int) (s:Hz) (p:List Hz) (Zq:Int) (d w b c:Ad) (k:Nat),f=[.obj (bx C a h s p)]/\e=[.int Zq,d,w,b,c]/\fL h s p /\
 Q8 h s Zq d w b c k/\R (.dat .ow (.list [.int k])) [.obj (bx C a h s p)] n
def nS(C:Addr):Pr:=λd c n R _=>∃(a:Addr) (h:Int) (s:Hz) (p:List Hz) (b:Ad),d=[.obj (bx C a h s p)]/\c=[b]/\fL h s p/\sQ b/\(∀z,b=.str z->Mw z=true->Ld z s=false)/\R (.dat .ow (.list [.int 0])) [.obj (bx C a h s p)] n
def G9:PF:=λa R=>∃d,a=[d]/\(∀h,d=.int h->¬ (1<=h/\h<=60))/\R (.list [.int 3])
theorem vV{h:Int}{s:Hz}{Zq:Int}{nm w a b:Ad}{k:Nat}(x:Q8 h s Zq nm w a b k):Zq=0\/Zq=1\/Zq=2\/Zq=5\/Zq=6\/Zq=7:=by
 rcases x with x | x | x | x | x | x
 ·exact .inl x.1
 ·exact .inr (.inl x.1)
 ·exact .inr (.inr (.inl x.1))
 ·exact .inr (.inr (.inr (.inl x.1)))
 ·exact .inr (.inr (.inr (.inr (.inl x.1))))
 ·exact .inr (.inr (.inr (.inr (.inr x.1))))
section
variable{P:Bk}{w:World}{K:PySem.W.Frag}{mg:Str->Option Value}{base:Heap}
variable{c_Box m c_NeedleError c_NoHoles c_NoWord c_NoCount c_NoValue c_NoName c_NoSide c_NoBack c_NoText c_NoLine:Addr}
theorem kR:FnScope ["_law_things", "_law_way", "_law_name", "_law_word_here", "_law_row", "_law_side"] ["_law_things", "_law_way", "_law_name", "_law_word_here", "_law_row", "_law_side"] (Bi Tb):=⟨rfl,rfl,rfl,by decide +kernel,rfl,by decide +kernel,by decide +kernel⟩
theorem iI{f J l N j d o Z G u:Addr}{fd M g O m b v h0 Q t:Bj}(F:Fun K "_law_told" "_law_told" Tb f fd)(k6:FnOk P w K mg base (Iu P w) 4 J M ["self", "name", "word"] (Ig K (zW c_Box c_NoName c_NoWord)))(k1:Binds K M ["self", "name", "word"] [])(h9:Meth K c_Box "add" J)(X:FnOk P w K mg base (Iu P w) 4 l g ["self", "needles"] (Ig K (cB c_Box c_NoWord)))(V:Binds K g ["self", "needles"] [])(L:Meth K c_Box "needle" l)(k2:FnOk P w K mg base (Iu P w) 2 N O ["self", "side"] (Ig K (Y7 c_Box c_NoSide)))(k3:Binds K O ["self", "side"] [])(k0:Meth K c_Box "lay" N)(W:FnOk P w K mg base Hq 2 j m ["self"] (Ig K (G7 c_Box u9)))(U:Binds K m ["self"] [])(I:Meth K c_Box "set_by" j)(T:FnOk P w K mg base Hq 2 d b ["self"] (Ig K (G7 c_Box JM)))(S:Binds K b ["self"] [])(D:Meth K c_Box "take_up" d)(h6:FnOk P w K mg base (Iu P w) 1 o v ["self"] (Ig K (qS c_Box c_NoBack)))(h8:Binds K v ["self"] [])(h1:Meth K c_Box "undo" o)(k9:FnOk P w K mg base (Iu P w) 5 Z h0 ["self", "row"] (Ig K (HN c_Box c_NoWord c_NoSide)))(k8:Binds K h0 ["self", "row"] [])(k7:Meth K c_Box "go" Z)(k4:FnOk P w K mg base (Iu P w) 4 G Q ["self", "name", "places"] (Ig K (G5 c_Box c_NoName c_NoWord)))(k5:Binds K Q ["self", "name", "places"] [])(h7:Meth K c_Box "cut" G)(h5:FnOk P w K mg base (Iu P w) 3 u t ["self", "name"] (Ig K (vE c_Box c_NoName)))(h4:Binds K t ["self", "name"] [])(h3:Meth K c_Box "take" u)[TB:BoxT K c_Box]:FnOk P w K mg base (Iu P w) 6 f fd ["_law_things", "_law_way", "_law_name", "_law_word_here", "_law_row", "_law_side"] (Ig K (zS c_Box [c_NoName,c_NoWord,c_NoSide,c_NoHoles,c_NoBack,c_NoCount,c_NoLine,c_NoText,c_NoValue])):=by
 refine' Ue (k:=5) F kR (λq9 A q5 s H E H0 Y B Ex hr hE=>?hb) ?h
 case hb =>
  have q8:Room 1 _:=hr.mono (by decide)
  have q0:Room 2 _:=hr.mono (by decide)
  have q7:Room 3 _:=hr.mono (by decide)
  have q1:Room 4 _:=hr.mono (by decide)
  have q6:Room 5 _:=hr.mono (by decide)
  have C:=hr.units
  exact Em (Rx (Lk C (Ao (pv 1)) Bh) (Lo (Qq (Lb rfl hE (pv 0) TB.cl h9 k6 q1 k1 La (Ac (Ao (pv 2)) (Ac (Ao (pv 3)) Al))))) (Qu (Fh)))
   (Em (Rx (Lk C (Ao (pv 1)) Bh) (Lo (Qq (Lb rfl hE (pv 0) TB.cl L X q1 V La (Ac (Ao (pv 3)) Al)))) (Qu (Fh)))
   (Em (Rx (Lk C (Ao (pv 1)) Bh) (Lo (Qq (Lb rfl hE (pv 0) TB.cl k0 k2 q0 k3 La (Ac (Ao (pv 5)) Al)))) (Qu (Fh)))
   (Em (KP (Lj (Lk C (Ao (pv 1)) Bh) (Df (Ez (Nm rfl (pv 0) TB.cl I W q0 U Du))) Fh))
   (Em (KP (Lj (Lk C (Ao (pv 1)) Bh) (Df (Ez (Nm rfl (pv 0) TB.cl D T q0 S Du))) Fh))
   (Em (Rx (Lk C (Ao (pv 1)) Bh) (Lo (Qq (Lb rfl hE (pv 0) TB.cl k7 k9 q6 k8 La (Ac (Ao (pv 4)) Al)))) (Qu (Fh)))
   (Em (Rx (Lk C (Ao (pv 1)) Bh) (Lo (Qq (Lb rfl hE (pv 0) TB.cl h7 k4 q1 k5 La (Ac (Ao (pv 2)) (Ac (Ao (pv 3)) Al))))) (Qu (Fh)))
   (Em (Rx (Lk C (Ao (pv 1)) Bh) (Lo (Qq (Lb rfl hE (pv 0) TB.cl h3 h5 q7 h4 La (Ac (Ao (pv 2)) Al)))) (Qu (Fh)))
   (Lo (Qq (rY rfl hE (pv 0) TB.cl h1 h6 q8 h8 La))))))))))
 case h =>
  (intro ys ds n R Ex q_; obtain ⟨a,h,s,p,Zq,nm,w,j0,sd,k,c,rfl,rfl,hB,hX,hc,hE⟩ := q_)
  refine ⟨rfl,?_⟩
  have h2:∀x,x=c->n<=n/\Sy [.obj (bx c_Box a h s p)] [.obj (bx c_Box a h s p)]/\Ex x [.obj (bx c_Box a h s p)] n:=λx e=>by subst e; exact ⟨Au _,⟨rfl,trivial⟩,hE⟩
  have q3:∀{ps:List Pass} {i i':Nat} {q q':Pass},ps[i]? = some q->(∀r∈ps.take i,Ro h r.1/\Mc r.2)->ps[i']? = some q'->(∀r∈ps.take i',Ro h r.1/\Mc r.2)->¬ (Ro h q.1/\Mc q.2)->¬ (Ro h q'.1/\Mc q'.2)->q=q':=λ{ps i i' q q'} e1 a1 e2 a2 n1 n2=>by
   rcases Nat.lt_trichotomy i i' with z | z | z
   ·exact absurd (a2 q (Qi.mpr ⟨i,by have:=(Aw.mp e1).1; omega,(Aw.mp e1).2⟩)) n1
   ·subst z; rw[e1] at e2; exact Br e2
   ·exact absurd (a1 q' (Qi.mpr ⟨i',by have:=(Aw.mp e2).1; omega,(Aw.mp e2).2⟩)) n2
  rcases vV hX with rfl | rfl | rfl | rfl | rfl | rfl <;> rcases hX with x | x | x | x | x | x <;> (first | (exact absurd x.1 (by decide)) | skip)
  ·obtain ⟨_,hT,x⟩:=x
   unfold bx
   array_get_dec
   refine ⟨a,h,s,p,nm,w,rfl,rfl,hB,hT,λall=>?_,λz ez hn hh=>⟨λno=>?_,λw' ew r=>?_⟩⟩
   ·rcases x with ⟨_,rfl⟩ | ⟨⟨z,ez,hn,hh⟩,_,_⟩
    ·cases hc; exact h2 _ rfl
    ·rw[all z ez hn] at hh; cases hh
   ·rcases x with ⟨all,_⟩ | ⟨_,_,rfl⟩
    ·rw[all z ez hn] at hh; cases hh
    ·cases hc; exact h2 _ rfl
   ·rcases x with ⟨all,_⟩ | ⟨_,no,_⟩
    ·rw[all z ez hn] at hh; cases hh
    ·exact absurd ⟨w',ew,r⟩ no
  ·obtain ⟨_,no,rfl⟩:=x
   cases hc
   unfold bx
   array_get_dec
   exact ⟨a,h,s,p,w,rfl,rfl,hB,λ_=>h2 _ rfl,λw' ew r=>absurd ⟨w',ew,r⟩ no⟩
  ·obtain ⟨_,no,rfl⟩:=x
   cases hc
   unfold bx
   array_get_dec
   exact ⟨a,h,s,p,sd,rfl,rfl,hB,λ_=>h2 _ rfl,λ_ _ y=>absurd y no⟩
  ·obtain ⟨_,ps,i,q,rfl,hq,hi,x⟩:=x
   have nq:¬ (Ro h q.1/\Mc q.2):=λy=>x.elim (λz=>z.1 y.1) λz=>z.2.1 y.2
   unfold bx
   array_get_dec
   refine ⟨a,h,s,p,ps,rfl,rfl,hB,λi' q' q2 q4=>⟨λno=>?_,λy no=>?_⟩,λall=>absurd (all q (Bf hq)) nq⟩
   ·have e:=q3 hq hi q2 q4 nq λy=>no y.1
    subst e
    rcases x with ⟨_,rfl⟩ | ⟨y,_,_⟩
    ·cases hc; exact h2 _ rfl
    ·exact absurd y no
   ·have e:=q3 hq hi q2 q4 nq λy=>no y.2
    subst e
    rcases x with ⟨y',_⟩ | ⟨_,_,rfl⟩
    ·exact absurd y y'
    ·cases hc; exact h2 _ rfl
  ·obtain ⟨_,hT,x⟩:=x
   unfold bx
   array_get_dec
   refine ⟨a,h,s,p,nm,w,rfl,rfl,hB,hT,λall=>?_,λz ez hn hh=>⟨λno=>?_,λw' ew r=>?_⟩⟩
   ·rcases x with ⟨_,rfl⟩ | ⟨⟨z,ez,hn,hh⟩,_,_⟩
    ·cases hc; exact h2 _ rfl
    ·rw[all z ez hn] at hh; cases hh
   ·rcases x with ⟨all,_⟩ | ⟨_,_,rfl⟩
    ·rw[all z ez hn] at hh; cases hh
    ·cases hc; exact h2 _ rfl
   ·rcases x with ⟨all,_⟩ | ⟨_,no,_⟩
    ·rw[all z ez hn] at hh; cases hh
    ·exact absurd ⟨w',ew,r⟩ no
  ·obtain ⟨_,hT,all,rfl⟩:=x
   cases hc
   unfold bx
   array_get_dec
   exact ⟨a,h,s,p,nm,rfl,rfl,hB,hT,λ_=>h2 _ rfl,λz ez hn hh=>by rw[all z ez hn] at hh; cases hh⟩
variable{c_Box m c_NeedleError c_NoHoles c_NoWord c_NoCount c_NoValue c_NoName c_NoSide c_NoBack c_NoText c_NoLine:Addr}
theorem Zu:FnScope ["_law_error", "_law_told_here"] ["_law_error"] (Bi Nx):=⟨rfl,rfl,rfl,by decide +kernel,rfl,by decide +kernel,by decide +kernel⟩
theorem Zt{f  : Addr}{D  : Bj}(F:Fun K "_law_classes" "_law_classes" Nx f D)(a:mg "isinstance" = none)(b:mg "ValueError" = none)(r:mg "range" = none)(z:mg "NoName" = some (.ref c_NoName))(p:mg "NoWord" = some (.ref c_NoWord))(t:mg "NoSide" = some (.ref c_NoSide))(m:mg "NoHoles" = some (.ref c_NoHoles))(y:mg "NoBack" = some (.ref c_NoBack))(j:mg "NoCount" = some (.ref c_NoCount))(u:mg "NoLine" = some (.ref c_NoLine))(o:mg "NoText" = some (.ref c_NoText))(d:mg "NoValue" = some (.ref c_NoValue)):FnOk P w K mg base Hq 1 f D ["_law_error"] (Ig K (tK K c_NeedleError [c_NoName,c_NoWord,c_NoSide,c_NoHoles,c_NoBack,c_NoCount,c_NoLine,c_NoText,c_NoValue])):=by
 refine' We (k:=0) F Zu (λN A B s H E L=>?hb) ?h
 case hb =>
  have G:=L.units
  exact Bt (aT (i:=1) Zu.nd rfl (Or.inr rfl) (Cp (Ac (Mf (c:=.ref c_NoName) rfl rfl (pv 0) (Jl (v:=.ref c_NoName) rfl z rfl) rfl a) (Ac (Mf (c:=.ref c_NoWord) rfl rfl (pv 0) (Jl (v:=.ref c_NoWord) rfl p rfl) rfl a) (Ac (Mf (c:=.ref c_NoSide) rfl rfl (pv 0) (Jl (v:=.ref c_NoSide) rfl t rfl) rfl a) Al)))))
   (Bt (aT (i:=1) Zu.nd rfl (Or.inr rfl) (Od (Ao (pv 1)) (Cp (Ac (Mf (c:=.ref c_NoHoles) rfl rfl (pv 0) (Jl (v:=.ref c_NoHoles) rfl m rfl) rfl a) (Ac (Mf (c:=.ref c_NoBack) rfl rfl (pv 0) (Jl (v:=.ref c_NoBack) rfl y rfl) rfl a) (Ac (Mf (c:=.ref c_NoCount) rfl rfl (pv 0) (Jl (v:=.ref c_NoCount) rfl j rfl) rfl a) Al))))))
   (Bt (fQ (pv 1) (Mf (c:=.ref c_NoLine) rfl rfl (pv 0) (Jl (v:=.ref c_NoLine) rfl u rfl) rfl a))
   (Bt (aT (i:=1) Zu.nd rfl (Or.inr rfl) (Od (Ao (pv 1)) (Cp (Ac (Mf (c:=.ref c_NoText) rfl rfl (pv 0) (Jl (v:=.ref c_NoText) rfl o rfl) rfl a) (Ac (Mf (c:=.ref c_NoValue) rfl rfl (pv 0) (Jl (v:=.ref c_NoValue) rfl d rfl) rfl a) (Ac (j8 (Mf (c:=.ty "ValueError") rfl rfl (pv 0) (tX (v:=.ty "ValueError") rfl b (by decide +kernel) rfl) rfl a)) Al))))))
   (Df (Ez (Vz (BB (x := "_law_k") "_law_told_here" 1 rfl (by decide +kernel) rfl rfl rfl) rfl (gN rfl r (Ac Bh Al)) (λ_ _ _=>aX (Mv (Gv (Ao (pv 1)) (Ao (pv 0))))) (λ_ _ _=>Ao (pv 0))))))))
 case h =>
  (intro Y W n R X O; obtain ⟨x,C,k,rfl,rfl,T,M,U⟩ := O)
  refine ⟨rfl,?_⟩
  array_get_dec
  refine ⟨x,C,_,rfl,T.ek,T.q 0 _ rfl,x,C,_,rfl,T.ek,T.q 1 _ rfl,x,C,_,rfl,T.ek,T.q 2 _ rfl,x,C,_,rfl,T.ek,T.q 3 _ rfl,x,C,_,rfl,T.ek,T.q 4 _ rfl,x,C,_,rfl,T.ek,T.q 5 _ rfl,?_⟩
  array_get_dec
  refine ⟨x,C,_,rfl,T.ek,T.q 6 _ rfl,x,C,_,rfl,T.ek,T.q 7 _ rfl,x,C,_,rfl,T.ek,T.q 8 _ rfl,x,C,_,rfl,T.ek,T.v,?_⟩
  refine lU (l:=Ci 10) (g:=λi=>.int (i:Int)) rfl (λi=>decide (i=k)) (λi=>.int (i:Int)) (λi I Q V J S=>?_) ?_
  ·have I:=Kj.mp I
   array_get_dec
   refine ⟨.bool (decide (i=k)),?_,?_⟩
   ·rcases (by omega:i=0\/i=1\/i=2\/i=3\/i=4\/i=5\/i=6\/i=7\/i=8\/i=9) with rfl | rfl | rfl | rfl | rfl | rfl | rfl | rfl | rfl | rfl <;> first | rfl | (rw[decide_eq_false (show ¬ 9=k by omega)]; rfl)
   ·cases q:decide (i=k) with
    | true =>
     array_get_dec
     exact J q
    | false =>
     array_get_dec
     exact S q
  ·have e:((Ci 10).filter λi=>decide (i=k))=[k]:=(show ∀k:Fin 9,((Ci 10).filter λi=>decide (i=k.1))=[k.1] from by decide) ⟨k,M⟩
   rw[e]
   array_get_dec
   exact U
variable{c_Box m c_NeedleError c_NoHoles c_NoWord c_NoCount c_NoValue c_NoName c_NoSide c_NoBack c_NoText c_NoLine:Addr}
theorem kQ:FnScope ["_law_things", "_law_way", "_law_name", "_law_word_here", "_law_row", "_law_side", "_law_caught", "e"] ["_law_things", "_law_way", "_law_name", "_law_word_here", "_law_row", "_law_side"] (Bi Sk):=⟨rfl,rfl,rfl,by decide +kernel,rfl,by decide +kernel,by decide +kernel⟩
theorem iO{f e b:Addr}{N m d:Bj}(F:Fun K "_law_said" "_law_said" Sk f N)(B:FnOk P w K mg base (Iu P w) 6 e m ["_law_things", "_law_way", "_law_name", "_law_word_here", "_law_row", "_law_side"] (Ig K (zS c_Box [c_NoName,c_NoWord,c_NoSide,c_NoHoles,c_NoBack,c_NoCount,c_NoLine,c_NoText,c_NoValue])))(y:Binds K m ["_law_things", "_law_way", "_law_name", "_law_word_here", "_law_row", "_law_side"] [])(u:PySem.W.keepIn K (.ref e)=true)(v:mg "_law_told" = some (.ref e))(o:FnOk P w K mg base Hq 1 b d ["_law_error"] (Ig K (tK K c_NeedleError [c_NoName,c_NoWord,c_NoSide,c_NoHoles,c_NoBack,c_NoCount,c_NoLine,c_NoText,c_NoValue])))(q:Binds K d ["_law_error"] [])(t:PySem.W.keepIn K (.ref b)=true)(r:mg "_law_classes" = some (.ref b))(I:XAll K c_NeedleError c_NoName c_NoWord c_NoSide c_NoHoles c_NoBack c_NoCount c_NoLine c_NoText c_NoValue)(g:mg "NeedleError" = some (.ref c_NeedleError))(l:PySem.W.excIn K c_NeedleError Ze "ValueError.__new__" = true):FnOk P w K mg base Hq 7 f N ["_law_things", "_law_way", "_law_name", "_law_word_here", "_law_row", "_law_side"] (Ig K (K7 c_Box)):=by
 refine' We (k:=6) F kQ (λY A D s H E C=>?hb) ?h
 case hb =>
  have J:Room 1 _:=C.mono (by decide)
  have h0:Room 2 _:=C.mono (by decide)
  have X:Room 3 _:=C.mono (by decide)
  have S:Room 4 _:=C.mono (by decide)
  have V:Room 5 _:=C.mono (by decide)
  have L:Room 6 _:=C.mono (by decide)
  have Q:=C.units
  exact Bt (Ey (i:=6) kQ.nd rfl (By rfl) Oe)
   (Bt (iM (j:=6) (k:=7) rfl rfl rfl kQ.nd rfl rfl rfl rfl rfl g l (bM (mB (B2 (is:=[0]) B L rfl v u y (λ_ _ _=>(Do (pv 0) (Ru (Ac (Ao (pv 1)) (Ac (Ao (pv 2)) (Ac (Ao (pv 3)) (Ac (Ao (pv 4)) (Ac (Ao (pv 5)) Al))))))))))))
   (Bt (Lj (uF (pv 6))
   (Df (Ez Oe)) Fh)
   (Df (Ez (Js (is:=[6]) o J rfl r t q Du (λ_ _ _=>(Do (pv 6) (Ru Al))))))))
 case h =>
  (intro ys ds n R Ex q_; obtain ⟨a,h,s,p,Zq,nm,w,M,sd,k,rfl,rfl,hB,O,hR⟩ := q_)
  refine ⟨rfl,?_⟩
  have G:∃c,[c_NoName,c_NoWord,c_NoSide,c_NoHoles,c_NoBack,c_NoCount,c_NoLine,c_NoText,c_NoValue][k]? = some c/\XCls K c_NeedleError [c_NoName,c_NoWord,c_NoSide,c_NoHoles,c_NoBack,c_NoCount,c_NoLine,c_NoText,c_NoValue] c k/\k<9:=by
   have Z:k=0\/k=1\/k=2:=by
    rcases O with ⟨_,_,x⟩ | ⟨_,_,x⟩ | ⟨_,_,x⟩ | ⟨_,_,_,_,_,_,_,x⟩ | ⟨_,_,x⟩ | ⟨_,_,_,x⟩
    ·exact x.elim (λz=>.inl z.2) λz=>.inr (.inl z.2.2)
    ·exact .inr (.inl x)
    ·exact .inr (.inr x)
    ·exact x.elim (λz=>.inr (.inl z.2)) λz=>.inr (.inr z.2.2)
    ·exact x.elim (λz=>.inl z.2) λz=>.inr (.inl z.2.2)
    ·exact .inl x
   rcases Z with rfl | rfl | rfl
   ·exact ⟨_,rfl,I.x0,by decide⟩
   ·exact ⟨_,rfl,I.x1,by decide⟩
   ·exact ⟨_,rfl,I.x2,by decide⟩
  obtain ⟨c,U,T,G⟩:=G
  unfold bx
  array_get_dec
  refine ⟨a,h,s,p,Zq,nm,w,M,sd,k,c,rfl,rfl,hB,O,U,T.n,λx=>?_⟩
  unfold bx
  array_get_dec
  refine ⟨x,c,k,rfl,rfl,T,G,?_⟩
  array_get_dec
  exact hR
variable{c_Box m c_NeedleError c_NoHoles c_NoWord c_NoCount c_NoValue c_NoName c_NoSide c_NoBack c_NoText c_NoLine:Addr}
theorem cH:FnScope ["_law_things", "_law_name", "_law_caught", "e"] ["_law_things", "_law_name"] (Bi Pf):=⟨rfl,rfl,rfl,by decide +kernel,rfl,by decide +kernel,by decide +kernel⟩
theorem bN{f d b:Addr}{I c e:Bj}(F:Fun K "_law_sought" "_law_sought" Pf f I)(l:FnOk P w K mg base (Iu P w) 2 d c ["self", "name"] (Ig K (aU c_Box c_NoName)))(m:Binds K c ["self", "name"] [])(g:Meth K c_Box "place_of" d)(t:FnOk P w K mg base Hq 1 b e ["_law_error"] (Ig K (tK K c_NeedleError [c_NoName,c_NoWord,c_NoSide,c_NoHoles,c_NoBack,c_NoCount,c_NoLine,c_NoText,c_NoValue])))(u:Binds K e ["_law_error"] [])(y:PySem.W.keepIn K (.ref b)=true)(v:mg "_law_classes" = some (.ref b))(M:XAll K c_NeedleError c_NoName c_NoWord c_NoSide c_NoHoles c_NoBack c_NoCount c_NoLine c_NoText c_NoValue)(o:mg "NeedleError" = some (.ref c_NeedleError))(r:PySem.W.excIn K c_NeedleError Ze "ValueError.__new__" = true)[TB:BoxT K c_Box]:FnOk P w K mg base Hq 3 f I ["_law_things", "_law_name"] (Ig K (nS c_Box)):=by
 refine' We (k:=2) F cH (λN A C s H E B=>?hb) ?h
 case hb =>
  have D:Room 1 _:=B.mono (by decide)
  have G:Room 2 _:=B.mono (by decide)
  have J:=B.units
  exact Bt (Ey (i:=2) cH.nd rfl (By rfl) Oe)
   (Bt (iM (j:=2) (k:=3) rfl rfl rfl cH.nd rfl rfl rfl rfl rfl o r (bM (mB (F7 rfl (pv 0) TB.cl g l G m (Ac (Ao (pv 1)) Al)))))
   (Bt (Lj (uF (pv 2))
   (Df (Ez Oe)) Fh)
   (Df (Ez (Js (is:=[2]) t D rfl v y u Du (λ_ _ _=>(Do (pv 2) (Ru Al))))))))
 case h =>
  (intro ys ds n R Ex U; obtain ⟨a,h,s,p,S,rfl,rfl,Y,X,L,hR⟩ := U)
  refine ⟨rfl,?_⟩
  have T:=M.x0
  obtain ⟨h1,h2,V,hp,B⟩:=id Y
  unfold bx
  array_get_dec
  refine ⟨a,h,s,p,S,rfl,rfl,V,X,λz q O Z Q=>?_,λ_=>⟨T.n,λx=>?_⟩⟩
  ·have:=FG.mpr (L z O Z)
   rw[Q] at this
   cases this
  unfold bx
  array_get_dec
  refine ⟨x,c_NoName,0,rfl,rfl,T,by decide,?_⟩
  array_get_dec
  exact hR
variable{c_Box m c_NeedleError c_NoHoles c_NoWord c_NoCount c_NoValue c_NoName c_NoSide c_NoBack c_NoText c_NoLine:Addr}
theorem jQ:FnScope ["_law_holes", "_law_caught", "_law_told_here", "e"] ["_law_holes"] (Bi Sq):=⟨rfl,rfl,rfl,by decide +kernel,rfl,by decide +kernel,by decide +kernel⟩
theorem iH{f c a:Addr}{I b g:Bj}(F:Fun K "_law_made" "_law_made" Sq f I)(m:FnOk P w K mg base (Iu P w) 3 c b ["self", "holes"] (Ig K (rO c_Box c_NoHoles)))(l:Binds K b ["self", "holes"] [])(q:FnOk P w K mg base Hq 1 a g ["_law_error"] (Ig K (tK K c_NeedleError [c_NoName,c_NoWord,c_NoSide,c_NoHoles,c_NoBack,c_NoCount,c_NoLine,c_NoText,c_NoValue])))(r:Binds K g ["_law_error"] [])(u:PySem.W.keepIn K (.ref a)=true)(t:mg "_law_classes" = some (.ref a))(M:XAll K c_NeedleError c_NoName c_NoWord c_NoSide c_NoHoles c_NoBack c_NoCount c_NoLine c_NoText c_NoValue)(o:mg "NeedleError" = some (.ref c_NeedleError))(p:PySem.W.excIn K c_NeedleError Ze "ValueError.__new__" = true)(v:Mk K c_Box c)(z:mg "Box" = some (.ref c_Box)):FnOk P w K mg base Hq 5 f I ["_law_holes"] (eJ K (G9)):=by
 refine' Rb (k:=4) F jQ (λO A D s H E B=>?hb) ?h
 case hb =>
  have G:Room 1 _:=B.mono (by decide)
  have U:Room 2 _:=B.mono (by decide)
  have N:Room 3 _:=B.mono (by decide)
  have C:Room 4 _:=B.mono (by decide)
  have J:=B.units
  exact Bt (Ey (i:=1) jQ.nd rfl (By rfl) Oe)
   (Bt (Ey (i:=2) jQ.nd rfl (By rfl) Oe)
   (Bt (iM (j:=1) (k:=3) rfl rfl rfl jQ.nd rfl rfl rfl rfl rfl o p (bM (V9 (i:=2) p9 jQ.nd rfl (By rfl) (W3 v m C rfl z l (Ac (Ao (pv 0)) Al)))))
   (Bt (Lj (G8 (pv 1))
   (Df (Ez (Js (is:=[1]) q G rfl t u r Du (λ_ _ _=>(Do (pv 1) (Ru Al)))))) Fh)
   (Df (Ez (Ln (Ao (pv 2))))))))
 case h =>
  (intro Z R Q; obtain ⟨d,rfl,L,Y⟩ := Q)
  refine ⟨rfl,?_⟩
  have T:=M.x3
  array_get_dec
  refine λx S=>⟨x,S,d,rfl,rfl,λh e X V=>absurd ⟨X,V⟩ (L h e),λ_=>⟨T.n,λy=>?_⟩⟩
  array_get_dec
  refine ⟨y,c_NoHoles,3,rfl,rfl,T,by decide,?_⟩
  array_get_dec
  exact Y
theorem jH:FnScope ["_law_draws_here", "_law_holes", "_law_pick", "_law_bits", "_law_told_here", "_law_place"] ["_law_draws_here", "_law_holes"] (Bi Sr):=⟨rfl,rfl,rfl,by decide +kernel,rfl,by decide +kernel,by decide +kernel⟩
theorem iW{f c  : Addr}{Q d:Bj}(F:Fun K "_law_word" "_law_word" Sr f Q)(j:FnOk P w K mg base Hq 1 c d ["_law_draws_here"] (yQ K Uv))(m:Binds K d ["_law_draws_here"] [])(o:PySem.W.keepIn K (.ref c)=true)(r:mg "_law_next" = some (.ref c))(u:mg "range" = none)(t:mg "tuple" = none):FnOk P w K mg base Hq 2 f Q ["_law_draws_here", "_law_holes"] (yQ K (zF)):=by
 refine' U7 (k:=1) F jH (λX A M s H E y=>?hb) ?h
 case hb =>
  have J:Room 1 _:=y.mono (by decide)
  have C:=y.units
  exact Bt (Ey (i:=2) jH.nd rfl (By rfl) (Kl j J rfl r o m Du (pv 0) Al))
   (Bt (Ey (i:=3) jH.nd rfl (By rfl) (Sj (Ao (pv 2)) Bh))
   (Bt (aT (i:=4) jH.nd rfl (By rfl) (Cp Al))
   (Bt (iQ Rn rfl (gN rfl u (Ac (Ao (pv 1)) Al)) (Ct (i:=5) jH.nd rfl (By rfl))
   (Bt (Lj (Lk C (Kh (Ao (pv 5)) Bh) Bh)
    (Df (Ey (i:=3) jH.nd rfl (By rfl) (Kl j J rfl r o m Du (pv 0) Al))) Fh)
    (Bt (Lj (Lk C (Kh (Ao (pv 3)) (Gv (Cp (Ac Bh (Ac Bh (Ac Bh (Ac Bh Al))))) (Kh (Ao (pv 2)) Bh))) Bh)
    (Df (fQ (pv 4) (Ao (pv 5)))) Fh)
    (Df (Ey (i:=3) jH.nd rfl (By rfl) (Sj (Ao (pv 3)) Bh))))))
   (Df (Ez (To yX (C1 (i:=true)) rfl t (by decide +kernel) (Ac (Ao (pv 4)) Al)))))))
 case h =>
  (intro ds n R D; obtain ⟨h,rfl,h1,h2,hn,hR⟩ := D)
  refine ⟨rfl,?_⟩
  array_get_dec
  refine ⟨rfl,by omega,λB=>?_⟩
  array_get_dec
  refine ⟨by omega,by omega,?_⟩
  refine jO (l:=Ci h.toNat) (g:=λi:Nat=>.int i) rfl (λi O=>∃(p:Int) (z:List Int) (v:DV) (I:Nat),O=⟨[.drw,.dat .sh (.int h),.dat .sh (.int B),.dat .sh (.int p),.dat .ow (.list (z.map Bz)),v],I⟩/\Eg i z/\NP v/\n<=I/\I<=n+1+i / 16) ?_ ?_ ?_
  ·exact ⟨_,[],_,_,rfl,Eg.nil _,Qg,by omega,by omega⟩
  ·(intro i a _ Z D; obtain ⟨p,z,v,I,rfl,y,hv,V,T⟩ := D)
   obtain ⟨rfl,hi⟩:=yW Z
   have h0:=yL (BG y) (λx hx=>by have:=y.2 x hx; omega)
   array_get_dec
   refine FW (λO=>∃(p:Int) (L:Nat),O=⟨[.drw,.dat .sh (.int h),.dat .sh (.int B),.dat .sh (.int p),.dat .ow (.list (z.map Bz)),.dat .sh (.int a)],L⟩/\n<=L/\L<=n+1+(a+1) / 16) (λN S=>?_) ?_
   ·refine Rp (λG=>?_) (λG=>?_)
    ·have G:=of_decide_eq_true G
     array_get_dec
     refine ⟨rfl,by omega,λr2=>?_⟩
     array_get_dec
     exact S _ ⟨r2,_,rfl,by omega,by omega⟩
    ·array_get_dec
     exact S _ ⟨p,_,rfl,by omega,by omega⟩
   ·(intro _ D; obtain ⟨p,L,rfl,k3,k4⟩ := D)
    array_get_dec
    obtain ⟨q,U,Y⟩ : ∃q:Int,Yw [Bz 2,.int 2,.int 4,.int 1] (B % 4)=some (.int q)/\0<q/\q<1073741824:=by
     have:=Lz B (b:=4) (by decide)
     rcases (by omega:B % 4=0\/B % 4=1\/B % 4=2\/B % 4=3) with e | e | e | e <;> rw[e]
     ·exact ⟨2,atI_0 _ _,by decide⟩
     ·exact ⟨2,atI_1 _ _ _,by decide⟩
     ·exact ⟨4,atI_2 _ _ _ _,by decide⟩
     ·exact ⟨1,HS _ _ _ _ _,by decide⟩
    refine ⟨_,U,?_⟩
    array_get_dec
    refine ⟨Y.1,?_⟩
    refine Rp (λG=>?_) (λG=>?_)
    ·array_get_dec
     refine ⟨by rw[Af]; omega,?_⟩
     refine ⟨_,z++[(a:Int)],_,_,II (by rw[Ay]; rfl) rfl,y.more (by omega),Oq,by omega,by omega⟩
    ·array_get_dec
     exact ⟨_,z,_,_,rfl,y.up (by omega),Oq,by omega,by omega⟩
  ·(intro _ D; obtain ⟨p,z,v,I,rfl,y,hv,V,T⟩ := D)
   rw[Hw] at y T
   array_get_dec
   exact ⟨by omega,hR z _ (by omega) (by omega) (by rwa [show ((h.toNat:Nat):Int)=h by omega] at y)⟩
end
def qD(h:Int):List Ad:=[.tuple [.int h],.tuple [.int (-1)],.tuple [.int 0,.int 0],.tuple [.int 1,.int 0],.tuple [.bool true],.list [.int 0],.list [],.none,.str "0",.str "",.int 0,.tuple [.tuple []],.tuple [.int 0,.int h],.tuple [.str "0"],.tuple [.int 100000000000000000000]]
theorem Tq{h:Int}{l:List Int}(a:¬ Eg h l):¬ Ro h (.tuple (l.map Bz)):=λ⟨w,e,r⟩=>by
 unfold Dc at e
 injection e with e
 rw[uQ e] at a
 exact a r
theorem iT{h:Int}{d:Ad}{ds:List Ad}(a:∀i,d≠.int i):¬ Ro h (.tuple (d::ds)):=λ⟨w,e,r⟩=>by
 unfold Dc at e
 injection e with e
 cases w with
 | nil=>cases e
 | cons x w =>
  rw[Ap] at e
  injection e with e _
  exact a x e
theorem Yg{h:Int}{d:Ad}(a:∀ds,d≠.tuple ds):¬ Ro h d:=λ⟨w,e,_⟩=>a _ e
theorem xJ{h:Int}(c:1<=h)(b:h<=60):∀d∈qD h,¬ Ro h d/\Hm d=true:=λd a=>by
 unfold qD at a
 simp only[Ai,Bc,or_false] at a
 rcases a with rfl | rfl | rfl | rfl | rfl | rfl | rfl | rfl | rfl | rfl | rfl | rfl | rfl | rfl | rfl
 ·exact ⟨Tq (l:=[h]) λr=>by have:=r.2 h (by simp); omega,rfl⟩
 ·exact ⟨Tq (l:=[-1]) λr=>by have:=r.2 (-1) (by simp); omega,rfl⟩
 ·exact ⟨Tq (l:=[0,0]) λr=>by have:=(Ax.mp r.1).1 0 (by simp); omega,rfl⟩
 ·exact ⟨Tq (l:=[1,0]) λr=>by have:=(Ax.mp r.1).1 0 (by simp); omega,rfl⟩
 ·exact ⟨iT λi z=>(by cases z),rfl⟩
 ·exact ⟨Yg λi z=>(by cases z),rfl⟩
 ·exact ⟨Yg λi z=>(by cases z),rfl⟩
 ·exact ⟨Yg λi z=>(by cases z),rfl⟩
 ·exact ⟨Yg λi z=>(by cases z),rfl⟩
 ·exact ⟨Yg λi z=>(by cases z),rfl⟩
 ·exact ⟨Yg λi z=>(by cases z),rfl⟩
 ·exact ⟨iT λi z=>(by cases z),rfl⟩
 ·exact ⟨Tq (l:=[0,h]) λr=>by have:=r.2 h (by simp); omega,rfl⟩
 ·exact ⟨iT λi z=>(by cases z),rfl⟩
 ·exact ⟨Tq (l:=[100000000000000000000]) λr=>by have:=r.2 100000000000000000000 (by simp); omega,rfl⟩
def kH:DF:=λa n R=>∃h:Int,a=[.int h]/\1<=h/\h<=60/\n<=90000/\∀d,¬ Ro h d->Hm d=true->R d (n+1)
section
variable{P:Bk}{w:World}{K:PySem.W.Frag}{mg:Str->Option Value}{base:Heap}
theorem Vc:FnScope ["_law_draws_here", "_law_holes", "_law_some"] ["_law_draws_here", "_law_holes"] (Bi Ll):=⟨rfl,rfl,rfl,by decide +kernel,rfl,by decide +kernel,by decide +kernel⟩
theorem Vb{f a  : Addr}{t c:Bj}(F:Fun K "_law_wrong_word" "_law_wrong_word" Ll f t)(e:FnOk P w K mg base Hq 1 a c ["_law_draws_here"] (yQ K Uv))(g:Binds K c ["_law_draws_here"] [])(j:PySem.W.keepIn K (.ref a)=true)(m:mg "_law_next" = some (.ref a)):FnOk P w K mg base Hq 2 f t ["_law_draws_here", "_law_holes"] (oO K (kH)):=by
  refine' lT (k:=1) F Vc (λz A o s H E u=>?hb) ?h
  case hb =>
    have p:Room 1 _:=u.mono (by decide)
    have x:=u.units
    refine' Bt ?z1 ?w1
    case z1 =>
     refine' Ey (i:=2) ?a2 ?b2 ?c2 ?z2 ?e2 ?f2
     case a2=>exact Vc.nd
     case b2=>exact rfl
     case c2=>exact (By rfl)
     case e2=>rfl
     case f2=>first | exact .inl rfl | exact .inr rfl
     case z2 =>
      refine' Cp ?z3
      case z3 =>
       refine' Fi ?y4 ?z4 ?h4
       case y4=>exact (Cm (Ac (Ln (Ao (pv 1))) Al))
       case h4=>intro _; rfl
       case z4 =>
        refine' Fi ?y5 ?z5 ?h5
        case y5=>exact (Cm (Ac (t9 Bh) Al))
        case h5=>intro _; rfl
        case z5 =>
         refine' Fi ?y6 ?z6 ?h6
         case y6=>exact (Cm (Ac Bh (Ac Bh Al)))
         case h6=>intro _; rfl
         case z6 =>
          refine' Fi ?y7 ?z7 ?h7
          case y7=>exact (Cm (Ac Bh (Ac Bh Al)))
          case h7=>intro _; rfl
          case z7 =>
           refine' Fi ?y8 ?z8 ?h8
           case y8=>exact (Cm (Ac Zf Al))
           case h8=>intro _; rfl
           case z8 =>
            refine' Fi ?y9 ?z9 ?h9
            case y9=>exact (Cp (Ac Bh Al))
            case h9=>intro _; rfl
            case z9 =>
             refine' Fi ?y10 ?z10 ?h10
             case y10=>exact (Cp Al)
             case h10=>intro _; rfl
             case z10 =>
              refine' Fi ?y11 ?z11 ?h11
              case y11=>exact Oe
              case h11=>intro _; rfl
              case z11 =>
               refine' Ep ?z12
               case z12 =>
                refine' Ep ?z13
                case z13 =>
                 refine' Fi ?y14 ?z14 ?h14
                 case y14=>exact Bh
                 case h14=>intro _; rfl
                 case z14 =>
                  refine' Fi ?y15 ?z15 ?h15
                  case y15=>exact (Cm (Ac (Cm Al) Al))
                  case h15=>intro _; rfl
                  case z15 =>
                   exact Al
    case w1 =>
     refine' Bt (Ey (i:=2) Vc.nd rfl (By rfl) (kI (jU (pv 2)) (Cp (Ac (Cm (Ac Bh (Ac (Ln (Ao (pv 1))) Al))) (Ac (Cm (Ac Er Al)) (Ac (Cm (Ac (e7 Bh Bh) Al)) Al)))))) ?w16
     case w16 =>
      exact Df (Ez (Gv (Ao (pv 2)) (Kh (Kl e p rfl m j g Du (pv 0) Al) Bh)))
  case h =>
    (intro M n R G; obtain ⟨h,rfl,I,r,N,J⟩ := G)
    refine ⟨rfl,?_⟩
    array_get_dec
    refine ⟨by decide,rfl,by omega,λD=>?_⟩
    array_get_dec
    have q:=Lz D (b:=15) (by decide)
    obtain ⟨d,L,v,B⟩:=Mo (l:=qD h) q.1 (by show _<((15:Nat):Int); omega)
    obtain ⟨y,C⟩:=xJ I r d B
    exact ⟨d,v,by omega,J d y C⟩
end
def Ic(m:Nat):List Pass:=(Cb 4 [(Dc [0],Le "front"),(Dc [],Le "back")]).flatten.take m
def Zb(h:Int)(m:Nat):List Pass:=[(Dc [0],Le "sideways"),(Dc [h],Le "front"),(Dc [0],Le "back")].take m
def CV(h:Int)(ps:List Pass)(k:Nat):Prop:=∃(i:Nat) (q:Pass),ps[i]? = some q/\(∀r∈ps.take i,Ro h r.1/\Mc r.2)/\((¬ Ro h q.1/\k=1)\/(Ro h q.1/\¬ Mc q.2/\k=2))
def q5:DF:=λc n R=>∃h:Int,c=[.int h]/\1<=h/\h<=60/\n<=80000/\∀(a:List Pass) (k b:Nat),n<=b->b<=n+10->CV h a k->Hm (Zv a)=true->R (.tuple [Zv a,.list [.int k]]) b
theorem L3(m:Nat):Eb ((Ic m).map λp=>Jc [p.1,p.2])=true:=by
 unfold Ic
 rw[Lf]
 exact bJ (Dr _ _) (by decide)
def sP:List Ad:=[.str "fron",.str "",.none,.str "Front",.int 0,.str "back ",.str "f",.tuple [.str "front"]]
theorem oE:∀d∈sP,¬ Mc d/\imm d=true/\Hm d=true:=λd f=>by
 unfold sP at f
 simp only[Ai,Bc,or_false] at f
 have c:∀{z:Str},z ≠ "front" -> z ≠ "back" -> ¬ Mc (.str z):=λa b h=>h.elim (λe=>a (by injection e)) λe=>b (by injection e)
 have g:∀{d:Ad},(∀z,d≠.str z)->¬ Mc d:=λa h=>h.elim (a _) (a _)
 rcases f with rfl | rfl | rfl | rfl | rfl | rfl | rfl | rfl
 ·exact ⟨c (by decide +kernel) (by decide +kernel),rfl,rfl⟩
 ·exact ⟨c (by decide +kernel) (by decide +kernel),rfl,rfl⟩
 ·exact ⟨g λz e=>(by cases e),rfl,rfl⟩
 ·exact ⟨c (by decide +kernel) (by decide +kernel),rfl,rfl⟩
 ·exact ⟨g λz e=>(by cases e),rfl,rfl⟩
 ·exact ⟨c (by decide +kernel) (by decide +kernel),rfl,rfl⟩
 ·exact ⟨c (by decide +kernel) (by decide +kernel),rfl,rfl⟩
 ·exact ⟨g λz e=>(by cases e),by decide,by decide⟩
section
variable{P:Bk}{w:World}{K:PySem.W.Frag}{mg:Str->Option Value}{base:Heap}
theorem Wq:FnScope ["_law_draws_here", "_law_holes", "_law_good", "_law_pick", "_law_side", "_law_bad", "_law_more"] ["_law_draws_here", "_law_holes"] (Bi Ma):=⟨rfl,rfl,rfl,by decide +kernel,rfl,by decide +kernel,by decide +kernel⟩
theorem Wg{f z a  : Addr}{X B j:Bj}(F:Fun K "_law_wrong_row" "_law_wrong_row" Ma f X)(u:FnOk P w K mg base Hq 1 z B ["_law_draws_here"] (yQ K Uv))(v:Binds K B ["_law_draws_here"] [])(y:PySem.W.keepIn K (.ref z)=true)(t:mg "_law_next" = some (.ref z))(o:FnOk P w K mg base Hq 2 a j ["_law_draws_here", "_law_holes"] (oO K (kH)))(g:Binds K j ["_law_draws_here", "_law_holes"] [])(d:PySem.W.keepIn K (.ref a)=true)(c:mg "_law_wrong_word" = some (.ref a)):FnOk P w K mg base Hq 3 f X ["_law_draws_here", "_law_holes"] (oO K (q5)):=by
  refine' lT (k:=2) F Wq (λh3 A N s H E hr=>?hb) ?h
  case hb =>
    have D:Room 1 _:=hr.mono (by decide)
    have J:Room 2 _:=hr.mono (by decide)
    have h2:=hr.units
    refine' Bt ?z17 ?w17
    case z17 =>
     refine' Ey (i:=2) ?a18 ?b18 ?c18 ?z18 ?e18 ?f18
     case a18=>exact Wq.nd
     case b18=>exact rfl
     case c18=>exact (By rfl)
     case e18=>rfl
     case f18=>first | exact .inl rfl | exact .inr rfl
     case z18 =>
      refine' lR (i:=true) ?z19 dX ?z20
      case z19 =>
       refine' CQ ?z21 Bh
       case z21 =>
        refine' Cp ?z22
        case z22 =>
         refine' Fi ?y23 ?z23 ?h23
         case y23=>exact (Cm (Ac (Cm (Ac Bh Al)) (Ac Er Al)))
         case h23=>intro _; rfl
         case z23 =>
          refine' Fi ?y24 ?z24 ?h24
          case y24=>exact (Cm (Ac (Cm Al) (Ac Er Al)))
          case h24=>intro _; rfl
          case z24 =>
           exact Al
      case z20 =>
       exact (cX (Kh (Kl u D rfl t y v Du (pv 0) Al) Bh))
    case w17 =>
     refine' Bt (Ey (i:=3) Wq.nd rfl (By rfl) (Kl u D rfl t y v Du (pv 0) Al)) ?w25
     case w25 =>
      refine' Bt ?z26 ?w26
      case z26 =>
       refine' Ey (i:=4) ?a27 ?b27 ?c27 ?z27 ?e27 ?f27
       case a27=>exact Wq.nd
       case b27=>exact rfl
       case c27=>exact (By rfl)
       case e27=>rfl
       case f27=>first | exact .inl rfl | exact .inr rfl
       case z27 =>
        refine' Gv ?z28 ?z29
        case z28 =>
         refine' Cp ?z30
         case z30 =>
          refine' Ep ?z31
          case z31 =>
           refine' Ep ?z32
           case z32 =>
            refine' Fi ?y33 ?z33 ?h33
            case y33=>exact Oe
            case h33=>intro _; rfl
            case z33 =>
             refine' Ep ?z34
             case z34 =>
              refine' Fi ?y35 ?z35 ?h35
              case y35=>exact Bh
              case h35=>intro _; rfl
              case z35 =>
               refine' Ep ?z36
               case z36 =>
                refine' Ep ?z37
                case z37 =>
                 refine' Fi ?y38 ?z38 ?h38
                 case y38=>exact (Cm (Ac Er Al))
                 case h38=>intro _; rfl
                 case z38 =>
                  exact Al
        case z29 =>
         exact (Kh (Sj (Ao (pv 3)) Bh) Bh)
      case w26 =>
       refine' Bt ?z39 ?w39
       case z39 =>
        refine' Ey (i:=5) ?a40 ?b40 ?c40 ?z40 ?e40 ?f40
        case a40=>exact Wq.nd
        case b40=>exact rfl
        case c40=>exact (By rfl)
        case e40=>rfl
        case f40=>first | exact .inl rfl | exact .inr rfl
        case z40 =>
         refine' Gv ?z41 ?z42
         case z41 =>
          refine' Cp ?z43
          case z43 =>
           refine' Fi ?y44 ?z44 ?h44
           case y44=>exact (Cm (Ac (Nl o J rfl c d g Du (pv 0) (Ac (Ao (pv 1)) Al)) (Ac Er Al)))
           case h44=>intro _; rfl
           case z44 =>
            refine' Fi ?y45 ?z45 ?h45
            case y45=>exact (Cm (Ac (Cm (Ac Bh Al)) (Ac (Ln (Ao (pv 4))) Al)))
            case h45=>intro _; rfl
            case z45 =>
             refine' Fi ?y46 ?z46 ?h46
             case y46=>exact (Cm (Ac (Nl o J rfl c d g Du (pv 0) (Ac (Ao (pv 1)) Al)) (Ac (Ln (Ao (pv 4))) Al)))
             case h46=>intro _; rfl
             case z46 =>
              exact Al
         case z42 =>
          exact (Kh (Ao (pv 3)) Bh)
       case w39 =>
        refine' Bt ?z47 ?w47
        case z47 =>
         refine' Ey (i:=6) ?a48 ?b48 ?c48 ?z48 ?e48 ?f48
         case a48=>exact Wq.nd
         case b48=>exact rfl
         case c48=>exact (By rfl)
         case e48=>rfl
         case f48=>first | exact .inl rfl | exact .inr rfl
         case z48 =>
          refine' lR (i:=true) ?z49 dX ?z50
          case z49 =>
           refine' Cp ?z51
           case z51 =>
            refine' Fi ?y52 ?z52 ?h52
            case y52=>exact (Cm (Ac (Cm (Ac Bh Al)) (Ac Er Al)))
            case h52=>intro _; rfl
            case z52 =>
             refine' Fi ?y53 ?z53 ?h53
             case y53=>exact (Cm (Ac (Cm (Ac (Ln (Ao (pv 1))) Al)) (Ac Er Al)))
             case h53=>intro _; rfl
             case z53 =>
              refine' Fi ?y54 ?z54 ?h54
              case y54=>exact (Cm (Ac (Cm (Ac Bh Al)) (Ac Er Al)))
              case h54=>intro _; rfl
              case z54 =>
               exact Al
          case z50 =>
           exact (cX (Kh (Kl u D rfl t y v Du (pv 0) Al) Bh))
        case w47 =>
         refine' Df ?z55
         case z55 =>
          refine' Ez ?z56
          case z56 =>
           refine' Cm ?z57
           case z57 =>
            refine' Ac ?z58 ?z59
            case z58 =>
             exact (kI (kI (Ao (pv 2)) (Cp (Ac (Ao (pv 5)) Al))) (Ao (pv 6)))
            case z59 =>
             refine' Ac ?z60 Al
             case z60 =>
              refine' Gv ?z61 ?z62
              case z61 =>
               refine' Cp ?z63
               case z63 =>
                refine' Fi ?y64 ?z64 ?h64
                case y64=>exact (Cp (Ac Bh Al))
                case h64=>intro _; rfl
                case z64 =>
                 refine' Fi ?y65 ?z65 ?h65
                 case y65=>exact (Cp (Ac Bh Al))
                 case h65=>intro _; rfl
                 case z65 =>
                  refine' Fi ?y66 ?z66 ?h66
                  case y66=>exact (Cp (Ac Bh Al))
                  case h66=>intro _; rfl
                  case z66 =>
                   exact Al
              case z62 =>
               exact (Kh (Ao (pv 3)) Bh)
  case h =>
    (intro ds n R q_; obtain ⟨h,rfl,M,L,hn,hR⟩ := q_)
    refine ⟨rfl,?_⟩
    array_get_dec
    refine ⟨rfl,by omega,λQ=>?_⟩
    have b9:=Lz Q (b:=9) (by decide)
    array_get_dec
    obtain ⟨m,em,hm⟩ : ∃m:Nat,Q % 9=(m:Int)/\m<=8:=⟨(Q % 9).toNat,by omega,by omega⟩
    rw[em,Xu]
    have eg:List.take m [[Jc [.tuple [.int 0],.str "front"],.tuple [.tuple [],.str "back"]],[.tuple [.tuple [.int 0],.str "front"],.tuple [.tuple [],.str "back"]],[.tuple [.tuple [.int 0],.str "front"],.tuple [.tuple [],.str "back"]],[.tuple [.tuple [.int 0],.str "front"],.tuple [.tuple [],.str "back"]]].flatten=(Ic m).map (λp=>.tuple [p.1,p.2]):=by
      unfold Ic
      rw[Lf]
      rfl
    rw[eg]
    refine ⟨L3 m,rfl,by omega,λG=>?_⟩
    array_get_dec
    have b8:=Lz (G / 3) (b:=8) (by decide)
    obtain ⟨I,_,e2,S⟩:=Mo (l:=sP) b8.1 (by show _<((8:Nat):Int); omega)
    obtain ⟨s1,s2,s3⟩:=oE I S
    refine ⟨I,e2,?_⟩
    array_get_dec
    refine ⟨h,rfl,M,L,by omega,λd1 w1 Y=>⟨Y,s2,?_⟩⟩
    refine ⟨h,rfl,M,L,by omega,λZ w2 v2=>⟨v2,s2,?_⟩⟩
    have b3:=Lz G (b:=3) (by decide)
    obtain ⟨q,k,e3,e4,hq,q1,q2⟩ : ∃(q:Pass) (k:Nat),Yw [Jc [d1,.str "back"],.tuple [.tuple [.int 0],I],.tuple [Z,I]] (G % 3)=some (.tuple [q.1,q.2])/\Yw [PyData.list [.int 1],.list [.int 2],.list [.int 1]] (G % 3)=some (.list [.int k])/\((¬ Ro h q.1/\k=1)\/(Ro h q.1/\¬ Mc q.2/\k=2))/\Hm q.1=true/\Hm q.2=true:=by
      rcases (by omega:G % 3=0\/G % 3=1\/G % 3=2) with e | e | e <;> rw[e]
      · exact ⟨(d1,.str "back"),1,atI_0 _ _,atI_0 _ _,.inl ⟨w1,rfl⟩,Y,rfl⟩
      · exact ⟨(.tuple [.int 0],I),2,atI_1 _ _ _,atI_1 _ _ _,.inr ⟨⟨[0],rfl,En _ _,λx T=>by rw[Aj.mp T]; omega⟩,s1,rfl⟩,rfl,s3⟩
      · exact ⟨(Z,I),1,atI_2 _ _ _ _,atI_2 _ _ _ _,.inl ⟨w2,rfl⟩,v2,s3⟩
    refine ⟨_,e3,rfl,by omega,λV=>?_⟩
    have b4:=Lz V (b:=4) (by decide)
    array_get_dec
    obtain ⟨C,O,U⟩ : ∃m:Nat,V % 4=(m:Int)/\m<=3:=⟨(V % 4).toNat,by omega,by omega⟩
    rw[O,Xu]
    have eM:List.take C [Jc [.tuple [.int 0],.str "sideways"],.tuple [.tuple [.int h],.str "front"],.tuple [.tuple [.int 0],.str "back"]]=(Zb h C).map (λp=>.tuple [p.1,p.2]):=by
      unfold Zb
      rw[Lf]
      rfl
    rw[eM]
    have lg:(Ic m).length<=8:=Bw (List.length_take_le _ _) hm
    have lm:(Zb h C).length<=3:=Bw (List.length_take_le _ _) U
    refine ⟨?_,by rw[Af]; omega,by simp only[Bn,Af,Bp,List.length_nil]; omega,_,e4,by omega,?_⟩
    · rw[<- eM]
      exact bJ (Dr _ _) (by rfl)
    have eR:PyData.list ((Ic m).map (λp=>Jc [p.1,p.2])++.tuple [q.1,q.2]::(Zb h C).map (λp=>Jc [p.1,p.2]))=Zv (Ic m++q::Zb h C):=by
      unfold Zv
      rw[Ay,Ap]
    rw[eR]
    refine hR _ k _ (by omega) (by omega) ⟨(Ic m).length,q,by simp,λr hr=>?_,hq⟩ ?_
    · rw[List.take_left' rfl] at hr
      have hr:=(Dr _ _).subset hr
      simp only[Cb,Gq,List.flatten_nil,Bo,Cd,Gs,Ai,Bc,or_false] at hr
      have g1:Ro h (Dc [0]):=⟨[0],rfl,En _ _,λx T=>by rw[Aj.mp T]; omega⟩
      have g2:Ro h (Dc []):=⟨[],rfl,Eg.nil _⟩
      rcases hr with rfl | rfl | rfl | rfl | rfl | rfl | rfl | rfl <;> first | exact ⟨g1,.inl rfl⟩ | exact ⟨g2,.inr rfl⟩
    · unfold Zv
      have h0:∀r∈Ic m++q::Zb h C,Hm (Jc [r.1,r.2])=true:=λr hr=>by
        show (Hm r.1 && (Hm r.2 && true))=true
        rcases Ar.mp hr with hr | hr
        · have hr:=(Dr _ _).subset hr
          simp only[Cb,Gq,List.flatten_nil,Bo,Cd,Gs,Ai,Bc,or_false] at hr
          rcases hr with rfl | rfl | rfl | rfl | rfl | rfl | rfl | rfl <;> rfl
        · rcases Ai.mp hr with rfl | hr
          · rw[q1,q2]; rfl
          · have hr:=(Dr _ _).subset hr
            simp only[Ai,Bc,or_false] at hr
            rcases hr with rfl | rfl | rfl <;> rfl
      have M:IX ((Ic m++q::Zb h C).map λp=>Jc [p.1,p.2])=false:=by
        cases Ic m++q::Zb h C <;> rfl
      rw[Hm,M,Tp h0]
      rfl
end
def nQ(s:Hz):Prop:=Ld "a" s=true/\Ld "zq" s=true/\Ld "fourfour" s=true/\Ld "zqa" s=false/\Ld "fourfou" s=false/\Ld "b" s=false/\Ld "fresh" s=false
def vI(C:Addr):Pr:=λc d n R _=>∃(a:Addr) (h:Int) (s:Hz) (p:List Hz),c=[.obj (bx C a h s p),.drw]/\d=[.int h,.list [.str "a",.str "zq",.str "fourfour"]]/\fL h s p/\nQ s/\n<=50000 /\
 ∀b,n<=b->b<=n+60->R (.dat .ow (.bool true)) [.obj (bx C a h s p),.drw] b
def V3:List Ad:=[.str "",.str "abcdefghi",.str "A",.str "a b",.none,.int 0,.str "ab\n",.str "a1",.str "b-",.tuple [.str "a"],.str "-",.str "aaaaaaaaa"]
def zI:List Ad:=V3++[.str "zqa",.str "fourfou",.str "b"]
def qE:List Ad:=[.str "a",.str "zq",.str "fourfour"]++V3
def FH(z:Str):Bool:=z.cps.toList.all (λc=>decide (c<128)) && decide (z.length<=1000)
theorem Kq{z:Str}(h:FH z=true):sQ (.str z):=λb e=>by
 cases e
 unfold FH at h
 rw[Cz,List.all_eq_true] at h
 exact ⟨λc a=>of_decide_eq_true (h.1 c a),of_decide_eq_true h.2⟩
theorem rN{d:Ad}(h:∀z,d≠.str z):sQ d:=λz e=>absurd e (h z)
theorem uY:∀d∈V3,sQ d/\Hm d=true/\imm d=true/\∀z,d=.str z->Mw z=false:=λd f=>by
 unfold V3 at f
 simp only[Ai,Bc,or_false] at f
 have st:∀z:Str,FH z=true->Mw z=false->sQ (.str z)/\Hm (.str z)=true/\imm (.str z)=true/\∀c,Le z=.str c->Mw c=false:=λz a b=>⟨Kq a,rfl,rfl,λc e=>by cases e; exact b⟩
 rcases f with rfl | rfl | rfl | rfl | rfl | rfl | rfl | rfl | rfl | rfl | rfl | rfl
 ·exact st _ (by decide +kernel) (by decide +kernel)
 ·exact st _ (by decide +kernel) (by decide +kernel)
 ·exact st _ (by decide +kernel) (by decide +kernel)
 ·exact st _ (by decide +kernel) (by decide +kernel)
 ·exact ⟨rN λz e=>(by cases e),rfl,rfl,λz e=>(by cases e)⟩
 ·exact ⟨rN λz e=>(by cases e),rfl,rfl,λz e=>(by cases e)⟩
 ·exact st _ (by decide +kernel) (by decide +kernel)
 ·exact st _ (by decide +kernel) (by decide +kernel)
 ·exact st _ (by decide +kernel) (by decide +kernel)
 ·exact ⟨rN λz e=>(by cases e),by decide,by decide,λz e=>(by cases e)⟩
 ·exact st _ (by decide +kernel) (by decide +kernel)
 ·exact st _ (by decide +kernel) (by decide +kernel)
theorem E2(i:Int):Dt (.list [.list [.int i],.list [.int i]]) (.list [.list [.int i],.list [.int i]])=true:=by simp [Dt,Jb]
def Y0(p:Nat)(b:Ad->DL.Kind->Nat->Prop):DV->DS->Prop:=λy a=>match y with
 | .dat m e=>m≠.pk/\∃c,a.sl[p]? = some (.obj c)/\b e c a.n
 | _=>False
theorem DJ{p:Nat}{c:DE}{b:DS}{a:Ad->DL.Kind->Nat->Prop}{d:DL.Kind->Nat->Prop}(h:c b (Y0 p a)):Rc p On c b a d:=h
theorem K2{p:Nat}{a:Ad->DL.Kind->Nat->Prop}{e:Ad}{c:DS}{b:DL.Kind}(d:c.sl[p]? = some (.obj b))(f:a e b c.n):Y0 p a (.dat .ow e) c:=⟨λz=>(nomatch z),b,d,f⟩
theorem L7{s:Hz}(i:nQ s):∀d∈zI,sQ d/\Hm d=true/\imm d=true/\∀z,d=.str z->Mw z=true->Ld z s=false:=λd hd=>by
 unfold zI at hd
 obtain ⟨_,_,_,h,j,g,_⟩:=i
 rcases Ar.mp hd with hd | hd
 ·obtain ⟨a,b,c,f⟩:=uY d hd
  exact ⟨a,b,c,λz q r=>by rw[f z q] at r; cases r⟩
 ·simp only[Ai,Bc,or_false] at hd
  rcases hd with rfl | rfl | rfl
  ·exact ⟨Kq (by decide +kernel),rfl,rfl,λz e _=>by cases e; exact h⟩
  ·exact ⟨Kq (by decide +kernel),rfl,rfl,λz e _=>by cases e; exact j⟩
  ·exact ⟨Kq (by decide +kernel),rfl,rfl,λz e _=>by cases e; exact g⟩
theorem vQ{s:Hz}(h:nQ s):∀d∈qE,sQ d/\Hm d=true/\imm d=true/\∀z,d=.str z->Mw z=true->Ld z s=true:=λd hd=>by
 unfold qE at hd
 obtain ⟨g,i,j,_⟩:=h
 rcases Ar.mp hd with hd | hd
 ·simp only[Ai,Bc,or_false] at hd
  rcases hd with rfl | rfl | rfl
  ·exact ⟨Kq (by decide +kernel),rfl,rfl,λz e _=>by cases e; exact g⟩
  ·exact ⟨Kq (by decide +kernel),rfl,rfl,λz e _=>by cases e; exact i⟩
  ·exact ⟨Kq (by decide +kernel),rfl,rfl,λz e _=>by cases e; exact j⟩
 ·obtain ⟨a,b,c,f⟩:=uY d hd
  exact ⟨a,b,c,λz q r=>by rw[f z q] at r; cases r⟩
section
variable{P:Bk}{w:World}{K:PySem.W.Frag}{mg:Str->Option Value}{base:Heap}
variable{c_Box c c_NeedleError c_NoHoles c_NoWord c_NoCount c_NoValue c_NoName c_NoSide c_NoBack c_NoText c_NoLine:Addr}
theorem fJ:FnScope ["_law_things", "_law_draws_here", "_law_holes", "_law_names", "_law_way", "_law_pick", "_law_odd", "_law_name", "_law_word_here", "_law_taken", "_law_wrong", "_law_side", "_law_row", "_law_due"] ["_law_things", "_law_draws_here", "_law_holes", "_law_names"] (Bi Rg):=⟨rfl,rfl,rfl,by decide +kernel,rfl,by decide +kernel,by decide +kernel⟩
theorem eU{f J I D y z:Addr}{fd Y T L B G:Bj}(F:Fun K "_law_right" "_law_right" Rg f fd)(V:FnOk P w K mg base Hq 1 J Y ["_law_draws_here"] (yQ K Uv))(U:Binds K Y ["_law_draws_here"] [])(Z:PySem.W.keepIn K (.ref J)=true)(X:mg "_law_next" = some (.ref J))(j:FnOk P w K mg base Hq 7 I T ["_law_things", "_law_way", "_law_name", "_law_word_here", "_law_row", "_law_side"] (Ig K (K7 c_Box)))(o:Binds K T ["_law_things", "_law_way", "_law_name", "_law_word_here", "_law_row", "_law_side"] [])(g:PySem.W.keepIn K (.ref I)=true)(c:mg "_law_said" = some (.ref I))(h0:FnOk P w K mg base Hq 3 D L ["_law_things", "_law_name"] (Ig K (nS c_Box)))(h3:Binds K L ["_law_things", "_law_name"] [])(h4:PySem.W.keepIn K (.ref D)=true)(h5:mg "_law_sought" = some (.ref D))(r:FnOk P w K mg base Hq 2 y B ["_law_draws_here", "_law_holes"] (oO K (kH)))(u:Binds K B ["_law_draws_here", "_law_holes"] [])(v:PySem.W.keepIn K (.ref y)=true)(t:mg "_law_wrong_word" = some (.ref y))(M:FnOk P w K mg base Hq 3 z G ["_law_draws_here", "_law_holes"] (oO K (q5)))(O:Binds K G ["_law_draws_here", "_law_holes"] [])(S:PySem.W.keepIn K (.ref z)=true)(N:mg "_law_wrong_row" = some (.ref z)):FnOk P w K mg base Hq 8 f fd ["_law_things", "_law_draws_here", "_law_holes", "_law_names"] (Ig K (vI c_Box)):=by
  refine' We (k:=7) F fJ (λk9 A k2 s H E hr=>?hb) ?h
  case hb =>
    have k0:Room 1 _:=hr.mono (by decide)
    have h8:Room 2 _:=hr.mono (by decide)
    have h9:Room 3 _:=hr.mono (by decide)
    have k7:Room 4 _:=hr.mono (by decide)
    have k8:Room 5 _:=hr.mono (by decide)
    have q4:Room 6 _:=hr.mono (by decide)
    have h6:Room 7 _:=hr.mono (by decide)
    have C:=hr.units
    refine' Bt (Ey (i:=4) fJ.nd rfl (By rfl) (Kh (Kl V k0 rfl X Z U Du (pv 1) Al) Bh)) ?w67
    case w67 =>
     refine' Bt (Ey (i:=5) fJ.nd rfl (By rfl) (Kl V k0 rfl X Z U Du (pv 1) Al)) ?w68
     case w68 =>
      refine' Bt ?z69 ?w69
      case z69 =>
       refine' Ey (i:=6) ?a70 ?b70 ?c70 ?z70 ?e70 ?f70
       case a70=>exact fJ.nd
       case b70=>exact rfl
       case c70=>exact (By rfl)
       case e70=>rfl
       case f70=>first | exact .inl rfl | exact .inr rfl
       case z70 =>
        refine' Cp ?z71
        case z71 =>
         refine' Ep ?z72
         case z72 =>
          refine' Ep ?z73
          case z73 =>
           refine' Ep ?z74
           case z74 =>
            refine' Ep ?z75
            case z75 =>
             refine' Fi ?y76 ?z76 ?h76
             case y76=>exact Oe
             case h76=>intro _; rfl
             case z76 =>
              refine' Fi ?y77 ?z77 ?h77
              case y77=>exact Bh
              case h77=>intro _; rfl
              case z77 =>
               refine' Ep ?z78
               case z78 =>
                refine' Ep ?z79
                case z79 =>
                 refine' Ep ?z80
                 case z80 =>
                  refine' Fi ?y81 ?z81 ?h81
                  case y81=>exact (Cm (Ac Er Al))
                  case h81=>intro _; rfl
                  case z81 =>
                   refine' Ep ?z82
                   case z82 =>
                    refine' Ep ?z83
                    case z83 =>
                     exact Al
      case w69 =>
       refine' Bt ?z84 ?w84
       case z84 =>
        refine' Ey (i:=7) ?a85 ?b85 ?c85 ?z85 ?e85 ?f85
        case a85=>exact fJ.nd
        case b85=>exact rfl
        case c85=>exact (Or.inr rfl)
        case e85=>rfl
        case f85=>first | exact .inl rfl | exact .inr rfl
        case z85 =>
         refine' Gv ?z86 ?z87
         case z86 =>
          refine' Od ?z88 ?z89
          case z88 =>
           exact (Ao (pv 6))
          case z89 =>
           refine' Cp ?z90
           case z90 =>
            refine' Ep ?z91
            case z91 =>
             refine' Ep ?z92
             case z92 =>
              refine' Ep ?z93
              case z93 =>
               exact Al
         case z87 =>
          exact (Kh (Ao (pv 5)) Bh)
       case w84 =>
        refine' Bt ?z94 ?w94
        case z94 =>
         refine' Ey (i:=8) ?a95 ?b95 ?c95 ?z95 ?e95 ?f95
         case a95=>exact fJ.nd
         case b95=>exact rfl
         case c95=>exact (Or.inr rfl)
         case e95=>rfl
         case f95=>first | exact .inl rfl | exact .inr rfl
         case z95 =>
          refine' Gv ?z96 ?z97
          case z96 =>
           refine' Cp ?z98
           case z98 =>
            refine' Fi ?y99 ?z99 ?h99
            case y99=>exact (Nl r h8 rfl t v u Du (pv 1) (Ac (Ao (pv 2)) Al))
            case h99=>intro _; rfl
            case z99 =>
             refine' Fi ?y100 ?z100 ?h100
             case y100=>exact (Cm Al)
             case h100=>intro _; rfl
             case z100 =>
              exact Al
          case z97 =>
           exact (Kh (Sj (Ao (pv 5)) Bh) Bh)
        case w94 =>
         refine' Bt (Lj (Lk C (Ao (pv 4)) Bh) (Bt (Ey (i:=9) fJ.nd rfl (By rfl) (Gv (Od (Ao (pv 3)) (Ao (pv 6))) (Kh (Sj (Ao (pv 5)) Bh) Bh))) (Df (Ez (Yy C (Js (is:=[0]) j h6 rfl c g o Du (λ_ _ _=>(Do (pv 0) (Ru (Ac Bh (Ac (Ao (pv 9)) (Ac (Ao (pv 8)) (Ac (Cp Al) (Ac Er Al))))))))) (Cp (Ac Bh Al)))))) Fh) ?w101
         case w101 =>
          refine' Bt (Lj (Lk C (Ao (pv 4)) Bh) (Df (Ez (Yy C (Js (is:=[0]) j h6 rfl c g o Du (λ_ _ _=>(Do (pv 0) (Ru (Ac Bh (Ac Er (Ac (Nl r h8 rfl t v u Du (pv 1) (Ac (Ao (pv 2)) Al)) (Ac (Cp Al) (Ac Er Al))))))))) (Cp (Ac Bh Al))))) Fh) ?w102
          case w102 =>
           refine' Bt ?z103 ?w103
           case z103 =>
            refine' Lj ?z104 ?z105 Fh
            case z104 =>
             exact (Lk C (Ao (pv 4)) Bh)
            case z105 =>
             refine' Bt ?z106 ?z107
             case z106 =>
              exact (Ey (i:=10) fJ.nd rfl (By rfl) (Nl r h8 rfl t v u Du (pv 1) (Ac (Ao (pv 2)) Al)))
             case z107 =>
              refine' Df ?z108
              case z108 =>
               refine' Ez ?z109
               case z109 =>
                refine' Yy C ?z110 ?z111
                case z110 =>
                 refine' Cp ?z112
                 case z112 =>
                  refine' Fi ?y113 ?z113 ?h113
                  case y113=>exact (Js (is:=[0]) j h6 rfl c g o Du (λ_ _ _=>(Do (pv 0) (Ru (Ac Bh (Ac Er (Ac (Ao (pv 10)) (Ac (Cp Al) (Ac Er Al)))))))))
                  case h113=>intro _; rfl
                  case z113 =>
                   refine' Fi ?y114 ?z114 ?h114
                   case y114=>exact (Js (is:=[0]) j h6 rfl c g o Du (λ_ _ _=>(Do (pv 0) (Ru (Ac Bh (Ac (Gv (Ao (pv 3)) Bh) (Ac (Ao (pv 10)) (Ac (Cp Al) (Ac Er Al)))))))))
                   case h114=>intro _; rfl
                   case z114 =>
                    exact Al
                case z111 =>
                 refine' Cp ?z115
                 case z115 =>
                  refine' Fi ?y116 ?z116 ?h116
                  case y116=>exact (Cp (Ac Bh Al))
                  case h116=>intro _; rfl
                  case z116 =>
                   refine' Fi ?y117 ?z117 ?h117
                   case y117=>exact (Cp (Ac Bh Al))
                   case h117=>intro _; rfl
                   case z117 =>
                    exact Al
           case w103 =>
            refine' Bt ?z118 ?w118
            case z118 =>
             refine' Lj ?z119 ?z120 Fh
             case z119 =>
              exact (Lk C (Ao (pv 4)) Bh)
             case z120 =>
              refine' Bt ?z121 ?z122
              case z121 =>
               exact (Lj (tS C (Js (is:=[0]) h0 h9 rfl h5 h4 h3 Du (λ_ _ _=>(Do (pv 0) (Ru (Ac (Ao (pv 7)) Al))))) (Cp (Ac Bh Al)))         (Df (Ez Zf)) Fh)
              case z122 =>
               refine' Df ?z123
               case z123 =>
                refine' Ez ?z124
                case z124 =>
                 refine' Yy C ?z125 ?z126
                 case z125 =>
                  refine' yM (js1:=[7]) (j0:=0) (js2:=[8]) (MX (x := "_law_k") "_law_name" "_law_things" "_law_word_here" 7 0 8 rfl (by decide +kernel) rfl rfl rfl) rfl (M8 (Cp (Ac Bh (Ac Bh Al)))) (λ_ _ _=>Pt) (λ_ _ _=>Js (is:=[2]) j h6 rfl c g o Du (λ_ _ _=>(Do (pv 2) (Ru (Ac (Ao (pv 0)) (Ac (Ao (pv 1)) (Ac (Ao (pv 3)) (Ac (Cp Al) (Ac Er Al)))))))))
                 case z126 =>
                  refine' Cp ?z127
                  case z127 =>
                   refine' Fi ?y128 ?z128 ?h128
                   case y128=>exact (Cp (Ac Bh Al))
                   case h128=>intro _; rfl
                   case z128 =>
                    refine' Fi ?y129 ?z129 ?h129
                    case y129=>exact (Cp (Ac Bh Al))
                    case h129=>intro _; rfl
                    case z129 =>
                     exact Al
            case w118 =>
             refine' Bt ?z130 ?w130
             case z130 =>
              refine' Lj ?z131 ?z132 Fh
              case z131 =>
               exact (Lk C (Ao (pv 4)) Bh)
              case z132 =>
               refine' Bt ?z133 ?z134
               case z133 =>
                refine' Ey (i:=11) ?a135 ?b135 ?c135 ?z135 ?e135 ?f135
                case a135=>exact fJ.nd
                case b135=>exact rfl
                case c135=>exact (By rfl)
                case e135=>rfl
                case f135=>first | exact .inl rfl | exact .inr rfl
                case z135 =>
                 refine' Gv ?z136 ?z137
                 case z136 =>
                  refine' Cp ?z138
                  case z138 =>
                   refine' Ep ?z139
                   case z139 =>
                    refine' Ep ?z140
                    case z140 =>
                     refine' Fi ?y141 ?z141 ?h141
                     case y141=>exact Oe
                     case h141=>intro _; rfl
                     case z141 =>
                      refine' Ep ?z142
                      case z142 =>
                       refine' Fi ?y143 ?z143 ?h143
                       case y143=>exact Bh
                       case h143=>intro _; rfl
                       case z143 =>
                        refine' Ep ?z144
                        case z144 =>
                         refine' Ep ?z145
                         case z145 =>
                          refine' Fi ?y146 ?z146 ?h146
                          case y146=>exact (Cm (Ac Er Al))
                          case h146=>intro _; rfl
                          case z146 =>
                           exact Al
                 case z137 =>
                  exact (Kh (Sj (Ao (pv 5)) Bh) Bh)
               case z134 =>
                exact (Df (Ez (Yy C (Js (is:=[0]) j h6 rfl c g o Du (λ_ _ _=>(Do (pv 0) (Ru (Ac Bh (Ac Er (Ac (Cm Al) (Ac (Cp Al) (Ac (Ao (pv 11)) Al))))))))) (Cp (Ac Bh Al)))))
             case w130 =>
              refine' Bt (Mx (Nl M h9 rfl N S O Du (pv 1) (Ac (Ao (pv 2)) Al)) (Lm (n:=2) rfl (Ck (Ct (i:=12) fJ.nd rfl (By rfl)) (Ck (Ct (i:=13) fJ.nd rfl (By rfl)) Ia)))) ?w147
              case w147 =>
               exact Df (Ez (Yy C (Js (is:=[0]) j h6 rfl c g o Du (λ_ _ _=>(Do (pv 0) (Ru (Ac Bh (Ac Er (Ac (Cm Al) (Ac (Ao (pv 12)) (Ac Er Al))))))))) (Ao (pv 13))))
  case h =>
    (intro ys ds n R Ex q_; obtain ⟨a,h,s,p,rfl,rfl,hB,hK,hn,hR⟩ := q_)
    refine ⟨rfl,?_⟩
    obtain ⟨h1,h2,_⟩:=id hB
    array_get_dec
    refine ⟨rfl,by omega,λr1=>?_⟩
    array_get_dec
    refine ⟨rfl,by omega,λr2=>?_⟩
    array_get_dec
    have b6:=Lz r1 (b:=6) (by decide)
    have k5:=Lz r2 (b:=15) (by decide)
    obtain ⟨nm,m1,en,k3⟩:=Mo (l:=zI) k5.1 (by show _<((15:Nat):Int); omega)
    obtain ⟨nT,nD,nI,nA⟩:=L7 hK nm k3
    refine ⟨nm,en,?_⟩
    array_get_dec
    refine ⟨h,rfl,h1,h2,by omega,λwd no nw=>⟨nw,?_⟩⟩
    have b2:=Lz (r2 / 15) (b:=2) (by decide)
    obtain ⟨e,m2,ee,he⟩:=Mo (l:=[wd,.tuple []]) b2.1 (by show _<((2:Nat):Int); omega)
    refine ⟨e,ee,?_⟩
    array_get_dec
    refine Rp (λq=>?_) (λq=>?_)
    · have q:=of_decide_eq_true q
      have k4:=Lz (r2 / 30) (b:=15) (by decide)
      obtain ⟨tk,m3,et,k6⟩:=Mo (l:=qE) k4.1 (by show _<((15:Nat):Int); omega)
      obtain ⟨tT,tD,tI,tA⟩:=vQ hK tk k6
      array_get_dec
      refine ⟨tk,et,?_⟩
      array_get_dec
      refine ⟨a,h,s,p,0,tk,e,.list [],.str "",0,rfl,rfl,hB,.inl ⟨rfl,tT,.inl ⟨tA,rfl⟩⟩,?_⟩
      array_get_dec
      exact ⟨by omega,rfl,hR _ (by omega) (by omega)⟩
    have q0:=of_decide_eq_false q
    array_get_dec
    refine Rp (λq=>?_) (λq=>?_)
    · array_get_dec
      refine ⟨h,rfl,h1,h2,by omega,λd nd vd=>⟨vd,?_⟩⟩
      refine ⟨a,h,s,p,0,.str "fresh",d,.list [],.str "",1,rfl,rfl,hB,.inl ⟨rfl,Kq (by decide +kernel),.inr ⟨⟨"fresh",rfl,by decide +kernel,hK.2.2.2.2.2.2⟩,nd,rfl⟩⟩,?_⟩
      array_get_dec
      exact ⟨by omega,rfl,hR _ (by omega) (by omega)⟩
    have q1:=of_decide_eq_false q
    array_get_dec
    refine Rp (λq=>?_) (λq=>?_)
    · array_get_dec
      refine ⟨h,rfl,h1,h2,by omega,λd nd vd=>⟨vd,?_⟩⟩
      refine ⟨a,h,s,p,1,.str "",d,.list [],.str "",1,rfl,rfl,hB,.inr (.inl ⟨rfl,nd,rfl⟩),?_⟩
      array_get_dec
      refine ⟨a,h,s,p,6,.str "zq",d,.list [],.str "",1,rfl,rfl,hB,.inr (.inr (.inr (.inr (.inl ⟨rfl,Kq (by decide +kernel),.inr ⟨⟨"zq",rfl,by decide +kernel,hK.2.1⟩,nd,rfl⟩⟩)))),?_⟩
      array_get_dec
      rw[E2]
      exact ⟨by omega,rfl,hR _ (by omega) (by omega)⟩
    have q2:=of_decide_eq_false q
    array_get_dec
    refine Rp (λq=>?_) (λq=>?_)
    · array_get_dec
      refine ⟨a,h,s,p,nm,rfl,rfl,hB,nT,nA,?_⟩
      array_get_dec
      refine C3 (m:=.sh) (ds:=[.int 6,.int 7]) (κ0:=bx c_Box a h s p) rfl (λQ hQ=>?_) (λi h7 κ n'=>κ=bx c_Box a h s p/\n'=n+1+1+1/\h7=Cb i (.list [.int 0])) ⟨rfl,rfl,rfl⟩ ?_ ?_
      · array_get_dec
        exact hQ
      · (intro i d h7 κ n' hd q_; obtain ⟨rfl,rfl,rfl⟩ := q_)
        refine DJ ?_
        have hX:∃w:Int,d=.int w/\Q8 h s w nm e (.list []) (.str "") 0:=by
          match i,hd with
          | 0,hd=>cases hd; exact ⟨6,rfl,.inr (.inr (.inr (.inr (.inl ⟨rfl,nT,.inl ⟨nA,rfl⟩⟩))))⟩
          | 1,hd=>cases hd; exact ⟨7,rfl,.inr (.inr (.inr (.inr (.inr ⟨rfl,nT,nA,rfl⟩))))⟩
          | i+2,hd=>cases hd
        obtain ⟨w,rfl,hX⟩:=hX
        array_get_dec
        refine ⟨a,h,s,p,w,nm,e,.list [],.str "",0,rfl,rfl,hB,hX,?_⟩
        array_get_dec
        exact K2 rfl ⟨rfl,rfl,List.replicate_succ'.symm⟩
      · (intro h7 κ n' q_; obtain ⟨rfl,rfl,rfl⟩ := q_)
        array_get_dec
        rw[E2]
        exact ⟨by omega,rfl,hR _ (by omega) (by omega)⟩
    have q3:=of_decide_eq_false q
    array_get_dec
    refine Rp (λq=>?_) (λq=>?_)
    · array_get_dec
      have c8:=Lz (r2 / 30) (b:=8) (by decide)
      obtain ⟨sd,m4,es,k1⟩:=Mo (l:=sP) c8.1 (by show _<((8:Nat):Int); omega)
      obtain ⟨s1,s2,s3⟩:=oE sd k1
      refine ⟨sd,es,?_⟩
      array_get_dec
      refine ⟨a,h,s,p,2,.str "",.tuple [],.list [],sd,2,rfl,rfl,hB,.inr (.inr (.inl ⟨rfl,s1,rfl⟩)),?_⟩
      array_get_dec
      exact ⟨by omega,rfl,hR _ (by omega) (by omega)⟩
    array_get_dec
    refine ⟨h,rfl,h1,h2,by omega,λps k n' g1 g2 hx vx=>⟨by show (Hm (Zv ps) && (true && true))=true; rw[vx]; rfl,?_⟩⟩
    obtain ⟨i,q,hq,hi,hx⟩:=hx
    array_get_dec
    refine ⟨a,h,s,p,5,.str "",.tuple [],Zv ps,.str "",k,rfl,rfl,hB,.inr (.inr (.inr (.inl ⟨rfl,ps,i,q,rfl,hq,hi,hx⟩))),?_⟩
    array_get_dec
    exact ⟨by omega,rfl,hR _ (by omega) (by omega)⟩
end
theorem Uy(z:Str)(l:List Ju):kS z l=(l.map Prod.fst).any λx=>decide (x=z):=by
 rw[kS,aG]
 rfl
theorem Re(z:Str)(s:Hz):Ld z s=((s.1.map Prod.fst++(s.2.1.map Prod.fst++s.2.2.map Prod.fst)).any λx=>decide (x=z)):=by
 rw[Ld,Uy,Uy,Uy,Tx,Tx]
abbrev pT:Hz:=([("a",[])],[],[])
abbrev xD:Hz:=([("a",[]),("zq",[0])],[],[])
abbrev B6:Hz:=([("a",[])],[("zq",[0])],[])
abbrev V4:Hz:=([("a",[])],[],[("zq",[0])])
abbrev yR(w:List Int):Hz:=([("a",[]),("fourfour",w)],[],[("zq",[0])])
def sF(w:List Int):Hz:=if w=[] then ([],[("a",[]),("fourfour",[])],[("zq",[0])]) else ([("a",[])],[("fourfour",w)],[("zq",[0])])
def pF(w:List Int):List Hz:=[([],[],[]),pT,xD,B6,V4]++[yR w]
theorem Q1(w:List Int):K0 w w=true:=List.all_eq_true.mpr λx a=>decide_eq_true a
theorem BM{w:List Int}(h:w≠[]):K0 w []=false:=by
 cases w with
 | nil=>exact absurd rfl h
 | cons x w=>rfl
theorem IK(w:List Int):A5 w (yR w)=sF w:=by
 unfold sF A5 bC Yx
 by_cases h:w=[]
 ·subst h
  rfl
 ·rw[if_neg h]
  simp only[eH,List.filter_nil,BM h,Q1,Bool.not_false,Bool.not_true,if_true,Jj,if_false,Gs]
theorem tY(w:List Int):nQ (sF w):=by
 unfold nQ sF
 simp only[Re]
 by_cases h:w=[]
 ·rw[if_pos h]
  simp only[Ap,Ol]
  decide +kernel
 ·rw[if_neg h]
  simp only[Ap,Ol]
  decide +kernel
theorem cY{h:Int}(b:1<=h):Eg h [0]:=⟨En _ _,λx a=>by rw[Aj.mp a]; omega⟩
theorem Ve{h:Int}{s:Hz}{p:List Hz}(e:1<=h)(f:h<=60)(d:pD s<=500)(g:p.length<=5000)(a:∀c∈s.1++(s.2.1++s.2.2),Eg h c.2):fL h s p:=⟨e,f,d,g,λc b=>a c (Ae _ b),λc b=>a c (Ag _ (Ae _ b)),λc b=>a c (Ag _ (Ag _ b))⟩
theorem gB{h:Int}{w:List Int}{s:Hz}{p:List Hz}(b:1<=h)(g:h<=60)(hw:Eg h w)(d:pD s<=500)(i:p.length<=5000)(a:∀c∈s.1++(s.2.1++s.2.2),c.2=[]\/c.2=[0]\/c.2=w):fL h s p:=Ve b g d i λc f=>by
 rcases a c f with e | e | e <;> rw[e]
 ·exact Eg.nil _
 ·exact cY b
 ·exact hw
theorem uA{h:Int}{w:List Int}(b:1<=h)(d:h<=60)(hw:Eg h w):fL h (sF w) (pF w):=by
 unfold sF
 split
 ·exact gB b d hw (by show (3:Nat)<=500; decide) (by show (6:Nat)<=5000; decide) λc a=>by
   simp only[Cd,Gs,Ai,Bc,or_false] at a
   rcases a with rfl | rfl | rfl
   ·exact .inl rfl
   ·exact .inl rfl
   ·exact .inr (.inl rfl)
 ·exact gB b d hw (by show (3:Nat)<=500; decide) (by show (6:Nat)<=5000; decide) λc a=>by
   simp only[Cd,Gs,Ai,Bc,or_false] at a
   rcases a with rfl | rfl | rfl
   ·exact .inl rfl
   ·exact .inr (.inr rfl)
   ·exact .inr (.inl rfl)
section
variable{h:Int}{w:List Int}(h1:1<=h)(h2:h<=60)(hw:Eg h w)
include h1 h2
theorem NH:fL h ([],[],[]) []:=Ve h1 h2 (by decide) (by decide) λc a=>by cases a
theorem NO:fL h pT [([],[],[])]:=Ve h1 h2 (by decide) (by decide) (Ed.mpr ⟨Eg.nil _,λc a=>by cases a⟩)
theorem NT:fL h xD [([],[],[]),pT]:=Ve h1 h2 (by decide) (by decide) (Ed.mpr ⟨Eg.nil _,Ed.mpr ⟨cY h1,λc a=>by cases a⟩⟩)
theorem MY:fL h B6 [([],[],[]),pT,xD]:=Ve h1 h2 (by decide) (by decide) (Ed.mpr ⟨Eg.nil _,Ed.mpr ⟨cY h1,λc a=>by cases a⟩⟩)
theorem MW:fL h V4 [([],[],[]),pT,xD,B6]:=Ve h1 h2 (by decide) (by decide) (Ed.mpr ⟨Eg.nil _,Ed.mpr ⟨cY h1,λc a=>by cases a⟩⟩)
include hw
theorem NQ:fL h (yR w) [([],[],[]),pT,xD,B6,V4]:=Ve h1 h2 (by show (3:Nat)<=500; decide) (by decide) (Ed.mpr ⟨Eg.nil _,Ed.mpr ⟨hw,Ed.mpr ⟨cY h1,λc a=>by cases a⟩⟩⟩)
end
theorem dC(c:Ju):(Gn c).depth<=2:=by
 have:=dN c.2
 unfold Gn
 simp only[Cu,Bl]
 omega
theorem dH(l:List Ju):(Dh l).depth<=3:=by
 have : Bl (l.map Gn)<=2:=Sw λx a=>by
  obtain ⟨c,_,rfl⟩:=Fb.mp a
  exact dC c
 unfold Dh
 simp only[Cu]
 omega
instance {s:Hz}:Dp (Ql s) 4:=⟨by
 have:=dH s.1
 have:=dH s.2.1
 have:=dH s.2.2
 unfold Ql
 simp only[Cu,Bl]
 omega⟩
theorem HB(w:List Int):pD (sF w)<=500:=by
 unfold sF
 split
 ·show (3:Nat)<=500
  decide
 ·show (3:Nat)<=500
  decide
theorem xN(w:List Int):Dt (Dc w) (Dc w)=true:=(lF w w).trans (decide_eq_true rfl)
theorem yD(c:Ju):Dt (Gn c) (Gn c)=true:=by
 unfold Gn
 rw[Dt,Jb,Jb,Jb,xN,eqD_str,Rf,decide_eq_true rfl]
 rfl
theorem Yf(l:List Ju):Dt (Dh l) (Dh l)=true:=by
 unfold Dh
 rw[Dt]
 exact eqDs_self yD l
theorem aO(s:Hz):Dt (Ql s) (Ql s)=true:=by
 unfold Ql
 rw[Dt,Jb,Jb,Jb,Jb,Yf,Yf,Yf]
 rfl
def BE:List Ad:=[.int 0,.int 61,.int (-1),.bool true,.none,.str "8",.int 100000000000000000000,.tuple [.int 8]]
theorem T4:∀d∈BE,∀h,d=.int h->¬ (1<=h/\h<=60):=λd a h e=>by
 unfold BE at a
 simp only[Ai,Bc,or_false] at a
 subst e
 rcases a with z | z | z | z | z | z | z | z <;> (try cases z) <;> omega
section
variable{P:Bk}{w:World}{K:PySem.W.Frag}{mg:Str->Option Value}{base:Heap}
variable{c_Box j c_NeedleError c_NoHoles c_NoWord c_NoCount c_NoValue c_NoName c_NoSide c_NoBack c_NoText c_NoLine:Addr}
theorem BR:FnScope ["_law_script", "_law_first", "_law_pick", "_law_wrong", "_law_holes", "_law_things", "_law_names", "_law_word_here", "_law_due", "_law_cell"] ["_law_script"] (Bi jB):=⟨rfl,rfl,rfl,by decide +kernel,rfl,by decide +kernel,by decide +kernel⟩
theorem BU{f J T m N h3 B y U R S G:Addr}{fd Z k3 j M h8 u D V k2 k4 h5:Bj}(F:Fun K "law" "law" jB f fd)(h4:FnOk P w K mg base Hq 1 J Z ["_law_cell"] (Vw))(h7:Binds K Z ["_law_cell"] [])(h6:PySem.W.keepIn K (.ref J)=true)(h9:mg "_law_draws" = some (.ref J))(j0:FnOk P w K mg base Hq 1 T k3 ["_law_draws_here"] (yQ K Uv))(q8:Binds K k3 ["_law_draws_here"] [])(j7:PySem.W.keepIn K (.ref T)=true)(j3:mg "_law_next" = some (.ref T))(X:FnOk P w K mg base (Iu P w) 3 m j ["self", "holes"] (Ig K (rO c_Box c_NoHoles)))(Y:Binds K j ["self", "holes"] [])(O:FnOk P w K mg base Hq 1 N M ["self"] (Ig K (uN c_Box)))(Q:Binds K M ["self"] [])(v:Meth K c_Box "heaps" N)(L:FnOk P w K mg base (Iu P w) 4 h3 h8 ["self", "name", "word"] (Ig K (zW c_Box c_NoName c_NoWord)))(I:Binds K h8 ["self", "name", "word"] [])(o:Meth K c_Box "add" h3)(C:FnOk P w K mg base (Iu P w) 4 B u ["self", "needles"] (Ig K (cB c_Box c_NoWord)))(p:Binds K u ["self", "needles"] [])(n:Meth K c_Box "needle" B)(k1:FnOk P w K mg base Hq 2 y D ["self"] (Ig K (G7 c_Box u9)))(k0:Binds K D ["self"] [])(h0:Meth K c_Box "set_by" y)(k6:FnOk P w K mg base (Iu P w) 1 U V ["self"] (Ig K (qS c_Box c_NoBack)))(k7:Binds K V ["self"] [])(k5:Meth K c_Box "undo" U)(j2:FnOk P w K mg base Hq 5 R k2 ["_law_holes"] (eJ K (G9)))(q7:Binds K k2 ["_law_holes"] [])(q6:PySem.W.keepIn K (.ref R)=true)(j5:mg "_law_made" = some (.ref R))(q5:FnOk P w K mg base Hq 2 S k4 ["_law_draws_here", "_law_holes"] (yQ K (zF)))(q4:Binds K k4 ["_law_draws_here", "_law_holes"] [])(q9:PySem.W.keepIn K (.ref S)=true)(j1:mg "_law_word" = some (.ref S))(q2:FnOk P w K mg base Hq 8 G h5 ["_law_things", "_law_draws_here", "_law_holes", "_law_names"] (Ig K (vI c_Box)))(q0:Binds K h5 ["_law_things", "_law_draws_here", "_law_holes", "_law_names"] [])(k9:PySem.W.keepIn K (.ref G)=true)(q1:mg "_law_right" = some (.ref G))(j8:Mk K c_Box m)(x0:mg "Box" = some (.ref c_Box))[TB:BoxT K c_Box]:FnOk P w K mg base Hq 9 f fd ["_law_script"] (spLawD K):=by
  refine' BP (k:=8) F BR (λy0 A x2 s H E hr=>?hb) ?h
  case hb =>
    have j6:Room 1 _:=hr.mono (by decide)
    have x1:Room 2 _:=hr.mono (by decide)
    have x9:Room 3 _:=hr.mono (by decide)
    have j4:Room 4 _:=hr.mono (by decide)
    have x4:Room 5 _:=hr.mono (by decide)
    have y1:Room 6 _:=hr.mono (by decide)
    have x7:Room 7 _:=hr.mono (by decide)
    have x3:Room 8 _:=hr.mono (by decide)
    have q3:=hr.units
    refine' Bt (Ey (i:=1) BR.nd rfl (By rfl) (lZ h4 j6 rfl h9 h6 h7 Du (Ac (Gv (xC (pv 0) (Cp (Ac Bh Al))) Bh) Al))) ?w148
    case w148 =>
     refine' Bt (Ey (i:=2) BR.nd rfl (By rfl) (Kl j0 j6 rfl j3 j7 q8 Du (pv 1) Al)) ?w149
     case w149 =>
      refine' Bt ?z150 ?w150
      case z150 =>
       refine' iQ Rn rfl (M8 (Cp (Ac (Gv (Cp (Ac Bh (Ac Bh (Ac (t9 Bh) (Ac Zf (Ac Oe (Ac Er (Ac (e7 Bh Bh) (Ac (Cm (Ac Bh Al)) Al))))))))) (Kh (Sj (Ao (pv 2)) Bh) Bh)) (Ac Bh (Ac Bh Al))))) ?z151 ?z152
       case z151 =>
        exact (Ct (i:=3) BR.nd rfl (By rfl))
       case z152 =>
        exact (Df (Lj (tS q3 (Ko j2 x4 rfl j5 q6 q7 Du (Ac (Ao (pv 3)) Al)) (Cp (Ac Bh Al)))         (Df (Ez Zf)) Fh))
      case w150 =>
       refine' Bt (Ey (i:=4) BR.nd rfl (By rfl) (F6 Bh (Kh (Sj (Ao (pv 2)) Bh) Bh))) ?w153
       case w153 =>
        refine' Bt (xQ (i:=5) BR.nd rfl (By rfl) (V8 j8 X j4 rfl x0 Y Vd (Ac (Ao (pv 4)) Al))) ?w154
        case w154 =>
         refine' Bt ?z155 ?w155
         case z155 =>
          refine' Ey (i:=6) ?a156 ?b156 ?c156 ?z156 ?e156 ?f156
          case a156=>exact BR.nd
          case b156=>exact rfl
          case c156=>exact (By rfl)
          case e156=>rfl
          case f156=>first | exact .inl rfl | exact .inr rfl
          case z156 =>
           refine' Cp ?z157
           case z157 =>
            refine' Ep ?z158
            case z158 =>
             refine' Ep ?z159
             case z159 =>
              refine' Ep ?z160
              case z160 =>
               exact Al
         case w155 =>
          refine' Bt (Ey (i:=7) BR.nd rfl (By rfl) (Kl q5 x1 rfl j1 q9 q4 Du (pv 1) (Ac (Ao (pv 4)) Al))) ?w161
          case w161 =>
           refine' Bt (Ip (Hl rfl (pv 5) TB.cl o L j4 I Vd (Ac (Gv (Ao (pv 6)) Bh) (Ac (Cm Al) Al)))) ?w162
           case w162 =>
            refine' Bt (Ip (Hl rfl (pv 5) TB.cl o L j4 I Vd (Ac (Gv (Ao (pv 6)) Bh) (Ac (Cm (Ac Bh Al)) Al)))) ?w163
            case w163 =>
             refine' Bt (Ip (Hl rfl (pv 5) TB.cl n C j4 p Vd (Ac (Cm (Ac Bh Al)) Al))) ?w164
             case w164 =>
              refine' Bt (Ip (Nm rfl (pv 5) TB.cl h0 k1 x1 k0 Du)) ?w165
              case w165 =>
               refine' Bt (Ip (Hl rfl (pv 5) TB.cl o L j4 I Vd (Ac (Gv (Ao (pv 6)) Bh) (Ac (Ao (pv 7)) Al)))) ?w166
               case w166 =>
                refine' Bt (Ip (Hl rfl (pv 5) TB.cl n C j4 p Vd (Ac (Ao (pv 7)) Al))) ?w167
                case w167 =>
                 refine' Bt (Ey (i:=8) BR.nd rfl (By rfl) (Cm (Ac (Cp (Ac (Cm (Ac Er (Ac (Cm Al) Al))) Al)) (Ac (Cp (Ac (Cm (Ac Er (Ac (Ln (Ao (pv 7))) Al))) Al)) (Ac (Cp (Ac (Cm (Ac Er (Ac (Cm (Ac Bh Al)) Al))) Al)) Al))))) ?w168
                 case w168 =>
                  refine' Bt ?z169 ?w169
                  case z169 =>
                   refine' Lj ?z170 ?z171 Fh
                   case z170 =>
                    exact (Lk q3 (Ao (pv 7)) (Cm Al))
                   case z171 =>
                    refine' Df ?z172
                    case z172 =>
                     refine' Ey (i:=8) ?a173 ?b173 ?c173 ?z173 ?e173 ?f173
                     case a173=>exact BR.nd
                     case b173=>exact rfl
                     case c173=>exact (By rfl)
                     case e173=>rfl
                     case f173=>first | exact .inl rfl | exact .inr rfl
                     case z173 =>
                      refine' Cm ?z174
                      case z174 =>
                       refine' Ac ?z175 ?z176
                       case z175 =>
                        exact (Cp Al)
                       case z176 =>
                        refine' Ac ?z177 ?z178
                        case z177 =>
                         refine' Cp ?z179
                         case z179 =>
                          refine' Fi ?y180 ?z180 ?h180
                          case y180=>exact (Cm (Ac Er (Ac (Cm Al) Al)))
                          case h180=>intro _; rfl
                          case z180 =>
                           refine' Fi ?y181 ?z181 ?h181
                           case y181=>exact (Cm (Ac Er (Ac (Cm Al) Al)))
                           case h181=>intro _; rfl
                           case z181 =>
                            exact Al
                        case z178 =>
                         exact (Ac (Cp (Ac (Cm (Ac Er (Ac (Cm (Ac Bh Al)) Al))) Al)) Al)
                  case w169 =>
                   refine' Bt (iQ Rn rfl (M8 (Od (x8 (pv 0) dX (cX Bh)) (Cp (Ac Bh Al)))) (Ct (i:=9) BR.nd rfl (By rfl)) (Df (Lj (F9 (Yz (Pe (Mv (yG (is:=[5]) (q:=1) q2 x3 rfl q1 k9 q0 Du (λ_ _ _=>(Do (pv 5) (Ru (Ac (lZ h4 j6 rfl h9 h6 h7 Du (Ac (Ao (pv 9)) Al)) (Ac (Ao (pv 4)) (Ac (Ao (pv 6)) Al))))))))) (dG (tS q3 (Nm rfl (pv 5) TB.cl v O j6 Q Du) (Ao (pv 8)))))) (Df (Ez Zf)) Fh))) ?w182
                   case w182 =>
                    refine' Bt (Ip (Nm rfl (pv 5) TB.cl k5 k6 j6 k7 Vd)) ?w183
                    case w183 =>
                     refine' Df ?z184
                     case z184 =>
                      refine' Ez ?z185
                      case z185 =>
                       refine' Yy q3 ?z186 ?z187
                       case z186 =>
                        exact (Nm rfl (pv 5) TB.cl v O j6 Q Du)
                       case z187 =>
                        refine' Cm ?z188
                        case z188 =>
                         refine' Ac ?z189 ?z190
                         case z189 =>
                          refine' Cp ?z191
                          case z191 =>
                           refine' Fi ?y192 ?z192 ?h192
                           case y192=>exact (Cm (Ac Er (Ac (Cm Al) Al)))
                           case h192=>intro _; rfl
                           case z192 =>
                            refine' Fi ?y193 ?z193 ?h193
                            case y193=>exact (Cm (Ac Er (Ac (Ln (Ao (pv 7))) Al)))
                            case h193=>intro _; rfl
                            case z193 =>
                             exact Al
                         case z190 =>
                          exact (Ac (Cp Al) (Ac (Cp (Ac (Cm (Ac Er (Ac (Cm (Ac Bh Al)) Al))) Al)) Al))
  case h =>
    intro ns y2
    array_get_dec
    obtain ⟨c,hc,-⟩ : ∃c:Int,Yw (ns.map Bz++[Bz 0]) 0=some (.int c)/\True:=by
      cases ns with
      | nil=>exact ⟨0,atI_0 _ _,trivial⟩
      | cons a l=>exact ⟨a,atI_0 _ _,trivial⟩
    refine ⟨by omega,_,hc,?_⟩
    array_get_dec
    refine ⟨rfl,by omega,λr1=>?_⟩
    array_get_dec
    have b8:=Lz (r1 / 4) (b:=8) (by decide)
    obtain ⟨bd,m1,eb,x5⟩:=Mo (l:=BE) b8.1 (by show _<((8:Nat):Int); omega)
    refine ⟨by omega,bd,eb,?_⟩
    array_get_dec
    refine jO (l:=[bd,.int 0,.int 61]) (g:=λx=>x) (List.map_id' _).symm (λ_ δ=>∃v3:DV,δ=⟨[.scr ns,.drw,.dat .sh (.int r1),v3,.un,.un,.un,.un,.un,.un],1⟩/\NP v3) ⟨_,rfl,Qg⟩ ?_ ?_
    · (intro i d _ hd q_; obtain ⟨v3,rfl,x6⟩ := q_)
      array_get_dec
      refine ⟨d,rfl,λh e=>?_,?_⟩
      · have hd:=Bf hd
        simp only[Ai,Bc,or_false] at hd
        rcases hd with rfl | rfl | rfl
        · exact T4 d x5 h e
        · cases e; omega
        · cases e; omega
      array_get_dec
      exact ⟨_,rfl,Oq⟩
    (intro _ q_; obtain ⟨v3,rfl,x6⟩ := q_)
    array_get_dec
    have y3:=Lz (r1 / 32) (b:=60) (by decide)
    obtain ⟨h,eh⟩ : ∃h,h=1+r1 / 32 % 60:=⟨_,rfl⟩
    have h1:1<=h:=by omega
    have h2:h<=60:=by omega
    rw[<- eh]
    refine λx dx=>⟨x,dx,.int h,rfl,rfl,λh' e g1 g2=>?_,λno=>absurd ⟨h1,h2⟩ (no h rfl)⟩
    cases e
    array_get_dec
    refine ⟨_,rfl,?_⟩
    array_get_dec
    refine ⟨h,rfl,by omega,by omega,by omega,λw n1 l1 u1 k8=>?_⟩
    unfold bx
    array_get_dec
    refine ⟨x,h,([],[],[]),[],.str "a",.tuple [],rfl,rfl,NH h1 h2,Kq (by decide +kernel),λno=>absurd (no "a" rfl (by decide +kernel)) (by rw[Re]; decide +kernel),λz ez hn hh=>⟨λno=>absurd ⟨[],rfl,Eg.nil _⟩ no,λw' ew r=>?_⟩⟩
    cases ez
    obtain rfl:w'=[]:=Si (show Dc w'=Dc [] from ew.symm)
    unfold bx
    array_get_dec
    refine ⟨x,h,pT,[([],[],[])],.str "zq",.tuple [.int 0],rfl,rfl,NO h1 h2,Kq (by decide +kernel),λno=>absurd (no "zq" rfl (by decide +kernel)) (by rw[Re]; decide +kernel),λz ez hn hh=>⟨λno=>absurd ⟨[0],rfl,cY h1⟩ no,λw' ew r=>?_⟩⟩
    cases ez
    obtain rfl:w'=[0]:=Si (show Dc w'=Dc [0] from ew.symm)
    unfold bx
    array_get_dec
    refine ⟨x,h,xD,[([],[],[]),pT],.tuple [.int 0],rfl,rfl,NT h1 h2,λno=>absurd ⟨[0],rfl,cY h1⟩ no,λw' ew r=>?_⟩
    obtain rfl:w'=[0]:=Si (show Dc w'=Dc [0] from ew.symm)
    unfold bx
    array_get_dec
    refine ⟨x,h,B6,[([],[],[]),pT,xD],rfl,rfl,MY h1 h2,?_⟩
    unfold bx
    array_get_dec
    refine ⟨x,h,V4,[([],[],[]),pT,xD,B6],.str "fourfour",Dc w,rfl,rfl,MW h1 h2,Kq (by decide +kernel),λno=>absurd (no "fourfour" rfl (by decide +kernel)) (by rw[Re]; decide +kernel),λz ez hn hh=>⟨λno=>absurd ⟨w,rfl,k8⟩ no,λw' ew r=>?_⟩⟩
    cases ez
    obtain rfl:w=w':=Si ew
    unfold bx
    array_get_dec
    refine ⟨x,h,(yR w),[([],[],[]),pT,xD,B6,V4],Dc w,rfl,rfl,NQ h1 h2 k8,λno=>absurd ⟨w,rfl,k8⟩ no,λw' ew r=>?_⟩
    obtain rfl:w=w':=Si ew
    rw[IK]
    unfold bx
    array_get_dec
    have ew:Dt (Dc w) (.tuple [])=decide (w=[]):=lF w []
    rw[ew]
    have lc:(Qe ns none (some 12)).length<=12:=GL 12
    refine Rp (λq=>?_) (λq=>?_)
    · have q:=of_decide_eq_true q
      have eD:Dt (Ql (sF w)) (.tuple [.list [],.list [.tuple [.str "a",.tuple []],.tuple [.str "fourfour",.tuple []]],.list [.tuple [.str "zq",.tuple [.int 0]]]])=true:=by
        rw[show sF w=(([],[("a",[]),("fourfour",[])],[("zq",[0])]):Hz) by unfold sF; exact if_pos q]
        exact aO ([],[("a",[]),("fourfour",[])],[("zq",[0])])
      array_get_dec
      refine ⟨by rw[Af]; omega,?_⟩
      refine jO (l:=Qe ns none (some 12)++[0]) (g:=Bz) (by rw[Ay]; rfl) (λi δ=>∃(v9:DV) (n':Nat),δ=⟨[.scr ns,.drw,.dat .sh (.int r1),v3,.dat .sh (.int h),.obj (bx c_Box x h (sF w) (pF w)),.dat .sh (.list [.str "a",.str "zq",.str "fourfour"]),.dat .sh (Dc w),.dat .sh (.tuple [.list [],.list [.tuple [.str "a",.tuple []],.tuple [.str "fourfour",.tuple []]],.list [.tuple [.str "zq",.tuple [.int 0]]]]),v9],n'⟩/\NP v9/\n'<=100+60 * i) ⟨_,_,rfl,Qg,by omega⟩ ?_ ?_
      · (intro i c _ hc q_; obtain ⟨v9,n0,rfl,j9,hn⟩ := q_)
        have hi:i<13:=by
          have:=(Aw.mp hc).1
          rw[Bn,Mr] at this
          omega
        array_get_dec
        refine ⟨x,h,sF w,pF w,rfl,rfl,uA h1 h2 k8,tY w,by omega,λn' g1 g2=>?_⟩
        unfold bx
        array_get_dec
        refine ⟨x,h,sF w,pF w,rfl,rfl,HB w,?_⟩
        unfold bx
        array_get_dec
        rw[eD]
        array_get_dec
        exact ⟨_,_,rfl,Oq,by omega⟩
      · (intro _ q_; obtain ⟨v9,n0,rfl,j9,hn⟩ := q_)
        unfold bx
        array_get_dec
        refine ⟨x,h,sF w,pF w,rfl,rfl,uA h1 h2 k8,λe=>absurd e (by unfold pF; simp),λq' t e=>?_⟩
        obtain ⟨e1,e2⟩:=List.append_inj' (show [([],[],[]),pT,xD,B6,V4]++[yR w]=q'++[t] from e) rfl
        cases e2
        subst e1
        unfold bx
        array_get_dec
        refine ⟨x,h,yR w,[([],[],[]),pT,xD,B6,V4],rfl,rfl,by show (3:Nat)<=500; decide,?_⟩
        have e5:Dt (Ql (yR w)) (.tuple [.list [.tuple [.str "a",.tuple []],.tuple [.str "fourfour",Dc w]],.list [],.list [.tuple [.str "zq",.tuple [.int 0]]]])=true:=aO (yR w)
        unfold bx
        array_get_dec
        rw[e5]
    · have q:=of_decide_eq_false q
      have eD:Dt (Ql (sF w)) (.tuple [.list [.tuple [.str "a",.tuple []]],.list [.tuple [.str "fourfour",Dc w]],.list [.tuple [.str "zq",.tuple [.int 0]]]])=true:=by
        rw[show sF w=(([("a",[])],[("fourfour",w)],[("zq",[0])]):Hz) by unfold sF; exact if_neg q]
        exact aO ([("a",[])],[("fourfour",w)],[("zq",[0])])
      array_get_dec
      refine ⟨by rw[Af]; omega,?_⟩
      refine jO (l:=Qe ns none (some 12)++[0]) (g:=Bz) (by rw[Ay]; rfl) (λi δ=>∃(v9:DV) (n':Nat),δ=⟨[.scr ns,.drw,.dat .sh (.int r1),v3,.dat .sh (.int h),.obj (bx c_Box x h (sF w) (pF w)),.dat .sh (.list [.str "a",.str "zq",.str "fourfour"]),.dat .sh (Dc w),.dat .sh (.tuple [.list [.tuple [.str "a",.tuple []]],.list [.tuple [.str "fourfour",Dc w]],.list [.tuple [.str "zq",.tuple [.int 0]]]]),v9],n'⟩/\NP v9/\n'<=100+60 * i) ⟨_,_,rfl,Qg,by omega⟩ ?_ ?_
      · (intro i c _ hc q_; obtain ⟨v9,n0,rfl,j9,hn⟩ := q_)
        have hi:i<13:=by
          have:=(Aw.mp hc).1
          rw[Bn,Mr] at this
          omega
        array_get_dec
        refine ⟨x,h,sF w,pF w,rfl,rfl,uA h1 h2 k8,tY w,by omega,λn' g1 g2=>?_⟩
        unfold bx
        array_get_dec
        refine ⟨x,h,sF w,pF w,rfl,rfl,HB w,?_⟩
        unfold bx
        array_get_dec
        rw[eD]
        array_get_dec
        exact ⟨_,_,rfl,Oq,by omega⟩
      · (intro _ q_; obtain ⟨v9,n0,rfl,j9,hn⟩ := q_)
        unfold bx
        array_get_dec
        refine ⟨x,h,sF w,pF w,rfl,rfl,uA h1 h2 k8,λe=>absurd e (by unfold pF; simp),λq' t e=>?_⟩
        obtain ⟨e1,e2⟩:=List.append_inj' (show [([],[],[]),pT,xD,B6,V4]++[yR w]=q'++[t] from e) rfl
        cases e2
        subst e1
        unfold bx
        array_get_dec
        refine ⟨x,h,yR w,[([],[],[]),pT,xD,B6,V4],rfl,rfl,by show (3:Nat)<=500; decide,?_⟩
        have e5:Dt (Ql (yR w)) (.tuple [.list [.tuple [.str "a",.tuple []],.tuple [.str "fourfour",Dc w]],.list [],.list [.tuple [.str "zq",.tuple [.int 0]]]])=true:=aO (yR w)
        unfold bx
        array_get_dec
        rw[e5]
end
structure Def(K:PySem.W.Frag)(x:Str)(st:Stmt)(f:Addr)(fd:Bj):Prop where
 nm:PySem.W.nsIn K Bq x=some (some (.ref f))
 fn:Fun K x x st f fd
theorem def_mk{K:PySem.W.Frag}{x:Str}{st:Stmt}{f:Addr}{h d:Option Addr}{i:Array (Option Value)}{g kV dc e b ct:Value}(a:PySem.W.nsIn K Bq x=some (some (.ref f)))(l:K.lookup f=some ⟨g,h,.func (PySem.W.fnOf x x (Me st) (Gr st) (Bi st) .none kV dc e d b ct),i⟩)(c:PySem.W.codeIn K b x=true)(k:PySem.W.keepIn K (.ref f)=true):Def K x st f (PySem.W.fnOf x x (Me st) (Gr st) (Bi st) .none kV dc e d b ct):=⟨a,pU l c k⟩
structure Met(K:PySem.W.Frag)(C:Addr)(m q:Str)(st:Stmt)(f:Addr)(fd:Bj):Prop where
 mt:Meth K C m f
 fn:Fun K m q st f fd
theorem met_mk{K:PySem.W.Frag}{C:Addr}{m q:Str}{st:Stmt}{f:Addr}{h d:Option Addr}{j:Array (Option Value)}{g kV dc e b ct:Value}(a:PySem.W.findIn K (.ref C) m=some (some (.ref f)))(i:PySem.W.isFn K (.ref f)=true)(l:K.lookup f=some ⟨g,h,.func (PySem.W.fnOf m q (Me st) (Gr st) (Bi st) .none kV dc e d b ct),j⟩)(c:PySem.W.codeIn K b q=true)(k:PySem.W.keepIn K (.ref f)=true):Met K C m q st f (PySem.W.fnOf m q (Me st) (Gr st) (Bi st) .none kV dc e d b ct):=⟨⟨a,i,k⟩,pU l c k⟩
theorem box_mk{K:PySem.W.Frag}{C:Addr}(pg:PySem.W.plainGet K C Str.empty=true)(hd:PySem.W.hasDictIn K C=true)(po:PySem.W.plainOver K C=true)(sa:PySem.W.findIn K (.ref C) "__setattr__" = some (some (.builtin "object.__setattr__")))(nh:PySem.W.findIn K (.ref C) "holes" = some none)(nl:PySem.W.findIn K (.ref C) "lying" = some none)(ne:PySem.W.findIn K (.ref C) "earlier" = some none):BoxT K C:=⟨⟨pg,hd,po,sa⟩,nh,nl,ne⟩
theorem NM{P:List Value->Prop}(h:P []):∀us:List Value,us.length=0->P us
 | [],_=>h
theorem FN{P:List Value->Prop}{n:Nat}(h:∀a (us:List Value),us.length=n->P (a::us)):∀us:List Value,us.length=n+1->P us
 | a::us,e=>h a us (Nat.succ.inj e)
theorem xP{P:List Value->Prop}(h:∀b,P [b]):∀us:List Value,us.length=1->P us:=FN λa us e=>NM (P:=λus=>P (a::us)) (h a) us e
theorem kY{P:List Value->Prop}(h:∀b a1,P [b,a1]):∀us:List Value,us.length=2->P us:=FN λa us e=>xP (P:=λus=>P (a::us)) (h a) us e
theorem IQ{P:List Value->Prop}(h:∀b a1 a2,P [b,a1,a2]):∀us:List Value,us.length=3->P us:=FN λa us e=>kY (P:=λus=>P (a::us)) (h a) us e
theorem LZ{P:List Value->Prop}(h:∀b a1 a2 a3,P [b,a1,a2,a3]):∀us:List Value,us.length=4->P us:=FN λa us e=>IQ (P:=λus=>P (a::us)) (h a) us e
theorem NL{P:List Value->Prop}(h:∀b a1 a2 a3 a4,P [b,a1,a2,a3,a4]):∀us:List Value,us.length=5->P us:=FN λa us e=>LZ (P:=λus=>P (a::us)) (h a) us e
theorem MJ{P:List Value->Prop}(h:∀b a1 a2 a3 a4 a5,P [b,a1,a2,a3,a4,a5]):∀us:List Value,us.length=6->P us:=FN λa us e=>NL (P:=λus=>P (a::us)) (h a) us e
structure ACls(K:PySem.W.Frag)(D:Addr):Prop where
 cls:∃cd,PySem.W.clsIn K D=some cd
 ty:PySem.W.typeIn K (.ref D)=some (.type "type")
theorem cls_ok{K:PySem.W.Frag}{D:Addr}{a:ClassData}(h:PySem.W.clsIn K D=some a):∃a,PySem.W.clsIn K D=some a:=⟨a,h⟩
theorem Ug{K:PySem.W.Frag}{C D:Addr}(A:ACls K D)(s:PySem.W.subIn K (.ref C) (.ref D)=some false)(n:C≠D):PySem.W.kitOne K (.ref C) (.ref D)=some false:=let ⟨_,e⟩:=A.cls; W5 e A.ty s n
theorem q9{K:PySem.W.Frag}{t:Value}{a c1 c2 c3 c4 c5 c6 c7 c8:Addr}{k:Nat}(f:PySem.W.kitOne K t (.ref a)=some (decide (0=k)))(b:PySem.W.kitOne K t (.ref c1)=some (decide (1=k)))(d:PySem.W.kitOne K t (.ref c2)=some (decide (2=k)))(g:PySem.W.kitOne K t (.ref c3)=some (decide (3=k)))(h4:PySem.W.kitOne K t (.ref c4)=some (decide (4=k)))(h5:PySem.W.kitOne K t (.ref c5)=some (decide (5=k)))(h6:PySem.W.kitOne K t (.ref c6)=some (decide (6=k)))(h7:PySem.W.kitOne K t (.ref c7)=some (decide (7=k)))(h8:PySem.W.kitOne K t (.ref c8)=some (decide (8=k))):∀(j:Nat) (c:Addr),[a,c1,c2,c3,c4,c5,c6,c7,c8][j]? = some c->PySem.W.kitOne K t (.ref c)=some (decide (j=k)):=λj c e=>by
 match j,e with
 | 0,e=>cases e; exact f
 | 1,e=>cases e; exact b
 | 2,e=>cases e; exact d
 | 3,e=>cases e; exact g
 | 4,e=>cases e; exact h4
 | 5,e=>cases e; exact h5
 | 6,e=>cases e; exact h6
 | 7,e=>cases e; exact h7
 | 8,e=>cases e; exact h8
 | j+9,e=>cases e
theorem all_mk{l:PySem.W.OpenLaw}{q:Bk}{w:World}{K:PySem.W.Frag}{h:Heap}{mg:Str->Option Value}{fa c_Box t c_NoHoles c_NoWord c_NoName c_NoSide c_NoBack c_NoCount c_NoLine c_NoText c_NoValue c_NeedleError f1 f2 f3 f4 f5 f6 f7 f8 f9 r9 c0 e4 o3 e7 y0 a4 e6 f18 f0 w7 p8 s7 a3 w2 a8 n2 f27 q3 q4 e1 p2 n9 v8 s8 c8 o4 n0 q5:Addr}{d1 d2 d3 d4 d5 d6 d7 d8 d9 o1 c4 p4 w5 v9 p9 n6 s5 n4 p3 s1 o7 e3 a7 q5 r6 c2 e2 c6 r0 c3 s3 q7 m0 q6 r3 o5 r4:Bj}(X:K.In h)(G:h.Ns Bq mg)(p6:mg "law" = some (.ref fa)){od an:Option Addr}{sl:Array (Option Value)}{oc kV dc pm cd ct:Value}(aL:PySem.W.nsIn K Bq "law" = some (some (.ref q5)))(lL:K.lookup q5=some ⟨oc,od,.func (PySem.W.fnOf "law" "law" (Me jB) (Gr jB) (Bi jB) .none kV dc pm an cd ct),sl⟩)(cL:PySem.W.codeIn K cd "law" = true)(kL:PySem.W.keepIn K (.ref q5)=true)(q_Box:PySem.W.nsIn K Bq "Box" = some (some (.ref c_Box)))(q_NoHoles:PySem.W.nsIn K Bq "NoHoles" = some (some (.ref c_NoHoles)))(q_NoWord:PySem.W.nsIn K Bq "NoWord" = some (some (.ref c_NoWord)))(q_NoName:PySem.W.nsIn K Bq "NoName" = some (some (.ref c_NoName)))(q_NoSide:PySem.W.nsIn K Bq "NoSide" = some (some (.ref c_NoSide)))(q_NoBack:PySem.W.nsIn K Bq "NoBack" = some (some (.ref c_NoBack)))(q_NoCount:PySem.W.nsIn K Bq "NoCount" = some (some (.ref c_NoCount)))(q_NoLine:PySem.W.nsIn K Bq "NoLine" = some (some (.ref c_NoLine)))(q_NoText:PySem.W.nsIn K Bq "NoText" = some (some (.ref c_NoText)))(q_NoValue:PySem.W.nsIn K Bq "NoValue" = some (some (.ref c_NoValue)))(q_NeedleError:PySem.W.nsIn K Bq "NeedleError" = some (some (.ref c_NeedleError)))(D1:Def K "_law_draws" iP f1 d1)(D2:Def K "_law_next" sS f2 d2)(D3:Def K "together" Qt f3 d3)(D4:Def K "is_whole" Uu f4 d4)(D5:Def K "is_word" Xj f5 d5)(D6:Def K "within" cO f6 d6)(D7:Def K "check_holes" Pc f7 d7)(D8:Def K "check_word" Qv f8 d8)(D9:Def K "check_name" Qx f9 d9)(h5:Def K "check_side" Ri r9 o1)(k9:Def K "check_row" Sx c0 c4)(h4:Def K "needled_cards" Mu e4 p4)(h3:Def K "laid" qT o3 w5)(k4:Def K "cut_card" Uz e7 v9)(k3:Met K c_Box "__init__" "Box.__init__" Nr y0 p9)(y:Met K c_Box "let_lie" "Box.let_lie" Pd a4 n6)(q1:Met K c_Box "heaps" "Box.heaps" Sg e6 s5)(j0:Met K c_Box "has_card" "Box.has_card" Ny f18 n4)(h2:Met K c_Box "place_of" "Box.place_of" Oc f0 p3)(k1:Met K c_Box "add" "Box.add" Yp w7 s1)(h8:Met K c_Box "needle" "Box.needle" Ra p8 o7)(q2:Met K c_Box "lay" "Box.lay" Xy s7 e3)(k5:Met K c_Box "set_by" "Box.set_by" Qw a3 a7)(j2:Met K c_Box "take_up" "Box.take_up" Pb w2 q5)(k2:Met K c_Box "undo" "Box.undo" Vh a8 r6)(j3:Met K c_Box "go" "Box.go" bE n2 c2)(q8:Met K c_Box "cut" "Box.cut" Xl f27 e2)(q3:Met K c_Box "take" "Box.take" Vf q3 c6)(k8:Def K "_law_told" Tb q4 r0)(O:Def K "_law_classes" Nx e1 c3)(k0:Def K "_law_said" Sk p2 s3)(k6:Def K "_law_sought" Pf n9 q7)(k7:Def K "_law_made" Sq v8 m0)(h7:Def K "_law_word" Sr s8 q6)(h1:Def K "_law_wrong_word" Ll c8 r3)(h6:Def K "_law_wrong_row" Ma o4 o5)(h9:Def K "_law_right" Rg n0 r4)(TB:BoxT K c_Box)(mkb:PySem.W.makesIn K c_Box=true)(kcb:PySem.W.keepIn K (.ref c_Box)=true)(z1:PySem.W.nsIn K Bq "tuple" = some none)(z2:PySem.W.nsIn K Bq "sorted" = some none)(z3:PySem.W.nsIn K Bq "set" = some none)(z4:PySem.W.nsIn K Bq "bool" = some none)(z5:PySem.W.nsIn K Bq "isinstance" = some none)(z6:PySem.W.nsIn K Bq "int" = some none)(z7:PySem.W.nsIn K Bq "all" = some none)(z8:PySem.W.nsIn K Bq "len" = some none)(z9:PySem.W.nsIn K Bq "str" = some none)(z10:PySem.W.nsIn K Bq "list" = some none)(z11:PySem.W.nsIn K Bq "any" = some none)(z12:PySem.W.nsIn K Bq "zip" = some none)(z13:PySem.W.nsIn K Bq "enumerate" = some none)(z14:PySem.W.nsIn K Bq "ValueError" = some none)(z15:PySem.W.nsIn K Bq "range" = some none)(x_NoHoles:PySem.W.excIn K c_NoHoles Ze "ValueError.__new__" = true)(x_NoWord:PySem.W.excIn K c_NoWord Ze "ValueError.__new__" = true)(x_NoName:PySem.W.excIn K c_NoName Ze "ValueError.__new__" = true)(x_NoSide:PySem.W.excIn K c_NoSide Ze "ValueError.__new__" = true)(x_NoBack:PySem.W.excIn K c_NoBack Ze "ValueError.__new__" = true)(x_NeedleError:PySem.W.excIn K c_NeedleError Ze "ValueError.__new__" = true)(tz_often:PySem.W.nsIn K Bq "often" = some none)(tz_cut_by:PySem.W.nsIn K Bq "cut_by" = some none){r:Tok}(qc_MOST_HOLES:PySem.W.nsIn K Bq "MOST_HOLES" = some (some (.int 60 r))){m:Tok}(qc_LONGEST_NAME:PySem.W.nsIn K Bq "LONGEST_NAME" = some (some (.int 8 m))){D:Tok}(qc_LETTERS:PySem.W.nsIn K Bq "LETTERS" = some (some (.str "abcdefghijklmnopqrstuvwxyz" D))){c9:Option Addr}{Z:Array Value}{hn:Nat}{q1:Array (Option Value)}{a6 n5 e5:Tok}(q_HEAPS:PySem.W.nsIn K Bq "HEAPS" = some (some (.ref t)))(hlk:K.lookup t=some ⟨.type "tuple",c9,.seq Z hn,q1⟩)(hv:Z=#[.str "box" a6,.str "hand" n5,.str "table" e5])(k:ACls K c_NoName)(o:ACls K c_NoWord)(p:ACls K c_NoSide)(j:ACls K c_NoHoles)(g:ACls K c_NoBack)(b:ACls K c_NoCount)(i:ACls K c_NoLine)(d:ACls K c_NoText)(c:ACls K c_NoValue)(U:ExcK K c_NoName)(ev_NoName:PySem.W.subIn K (.ref c_NoName) (.type "ValueError")=some true)(en_NoName:PySem.W.subIn K (.ref c_NoName) (.ref c_NeedleError)=some true)(os_NoName_NoWord:PySem.W.subIn K (.ref c_NoName) (.ref c_NoWord)=some false)(on_NoName_NoWord:c_NoName≠c_NoWord)(os_NoName_NoSide:PySem.W.subIn K (.ref c_NoName) (.ref c_NoSide)=some false)(on_NoName_NoSide:c_NoName≠c_NoSide)(os_NoName_NoHoles:PySem.W.subIn K (.ref c_NoName) (.ref c_NoHoles)=some false)(on_NoName_NoHoles:c_NoName≠c_NoHoles)(os_NoName_NoBack:PySem.W.subIn K (.ref c_NoName) (.ref c_NoBack)=some false)(on_NoName_NoBack:c_NoName≠c_NoBack)(os_NoName_NoCount:PySem.W.subIn K (.ref c_NoName) (.ref c_NoCount)=some false)(on_NoName_NoCount:c_NoName≠c_NoCount)(os_NoName_NoLine:PySem.W.subIn K (.ref c_NoName) (.ref c_NoLine)=some false)(on_NoName_NoLine:c_NoName≠c_NoLine)(os_NoName_NoText:PySem.W.subIn K (.ref c_NoName) (.ref c_NoText)=some false)(on_NoName_NoText:c_NoName≠c_NoText)(os_NoName_NoValue:PySem.W.subIn K (.ref c_NoName) (.ref c_NoValue)=some false)(on_NoName_NoValue:c_NoName≠c_NoValue)(S:ExcK K c_NoWord)(ev_NoWord:PySem.W.subIn K (.ref c_NoWord) (.type "ValueError")=some true)(en_NoWord:PySem.W.subIn K (.ref c_NoWord) (.ref c_NeedleError)=some true)(os_NoWord_NoName:PySem.W.subIn K (.ref c_NoWord) (.ref c_NoName)=some false)(on_NoWord_NoName:c_NoWord≠c_NoName)(os_NoWord_NoSide:PySem.W.subIn K (.ref c_NoWord) (.ref c_NoSide)=some false)(on_NoWord_NoSide:c_NoWord≠c_NoSide)(os_NoWord_NoHoles:PySem.W.subIn K (.ref c_NoWord) (.ref c_NoHoles)=some false)(on_NoWord_NoHoles:c_NoWord≠c_NoHoles)(os_NoWord_NoBack:PySem.W.subIn K (.ref c_NoWord) (.ref c_NoBack)=some false)(on_NoWord_NoBack:c_NoWord≠c_NoBack)(os_NoWord_NoCount:PySem.W.subIn K (.ref c_NoWord) (.ref c_NoCount)=some false)(on_NoWord_NoCount:c_NoWord≠c_NoCount)(os_NoWord_NoLine:PySem.W.subIn K (.ref c_NoWord) (.ref c_NoLine)=some false)(on_NoWord_NoLine:c_NoWord≠c_NoLine)(os_NoWord_NoText:PySem.W.subIn K (.ref c_NoWord) (.ref c_NoText)=some false)(on_NoWord_NoText:c_NoWord≠c_NoText)(os_NoWord_NoValue:PySem.W.subIn K (.ref c_NoWord) (.ref c_NoValue)=some false)(on_NoWord_NoValue:c_NoWord≠c_NoValue)(Q:ExcK K c_NoSide)(ev_NoSide:PySem.W.subIn K (.ref c_NoSide) (.type "ValueError")=some true)(en_NoSide:PySem.W.subIn K (.ref c_NoSide) (.ref c_NeedleError)=some true)(os_NoSide_NoName:PySem.W.subIn K (.ref c_NoSide) (.ref c_NoName)=some false)(on_NoSide_NoName:c_NoSide≠c_NoName)(os_NoSide_NoWord:PySem.W.subIn K (.ref c_NoSide) (.ref c_NoWord)=some false)(on_NoSide_NoWord:c_NoSide≠c_NoWord)(os_NoSide_NoHoles:PySem.W.subIn K (.ref c_NoSide) (.ref c_NoHoles)=some false)(on_NoSide_NoHoles:c_NoSide≠c_NoHoles)(os_NoSide_NoBack:PySem.W.subIn K (.ref c_NoSide) (.ref c_NoBack)=some false)(on_NoSide_NoBack:c_NoSide≠c_NoBack)(os_NoSide_NoCount:PySem.W.subIn K (.ref c_NoSide) (.ref c_NoCount)=some false)(on_NoSide_NoCount:c_NoSide≠c_NoCount)(os_NoSide_NoLine:PySem.W.subIn K (.ref c_NoSide) (.ref c_NoLine)=some false)(on_NoSide_NoLine:c_NoSide≠c_NoLine)(os_NoSide_NoText:PySem.W.subIn K (.ref c_NoSide) (.ref c_NoText)=some false)(on_NoSide_NoText:c_NoSide≠c_NoText)(os_NoSide_NoValue:PySem.W.subIn K (.ref c_NoSide) (.ref c_NoValue)=some false)(on_NoSide_NoValue:c_NoSide≠c_NoValue)(M:ExcK K c_NoHoles)(ev_NoHoles:PySem.W.subIn K (.ref c_NoHoles) (.type "ValueError")=some true)(en_NoHoles:PySem.W.subIn K (.ref c_NoHoles) (.ref c_NeedleError)=some true)(os_NoHoles_NoName:PySem.W.subIn K (.ref c_NoHoles) (.ref c_NoName)=some false)(on_NoHoles_NoName:c_NoHoles≠c_NoName)(os_NoHoles_NoWord:PySem.W.subIn K (.ref c_NoHoles) (.ref c_NoWord)=some false)(on_NoHoles_NoWord:c_NoHoles≠c_NoWord)(os_NoHoles_NoSide:PySem.W.subIn K (.ref c_NoHoles) (.ref c_NoSide)=some false)(on_NoHoles_NoSide:c_NoHoles≠c_NoSide)(os_NoHoles_NoBack:PySem.W.subIn K (.ref c_NoHoles) (.ref c_NoBack)=some false)(on_NoHoles_NoBack:c_NoHoles≠c_NoBack)(os_NoHoles_NoCount:PySem.W.subIn K (.ref c_NoHoles) (.ref c_NoCount)=some false)(on_NoHoles_NoCount:c_NoHoles≠c_NoCount)(os_NoHoles_NoLine:PySem.W.subIn K (.ref c_NoHoles) (.ref c_NoLine)=some false)(on_NoHoles_NoLine:c_NoHoles≠c_NoLine)(os_NoHoles_NoText:PySem.W.subIn K (.ref c_NoHoles) (.ref c_NoText)=some false)(on_NoHoles_NoText:c_NoHoles≠c_NoText)(os_NoHoles_NoValue:PySem.W.subIn K (.ref c_NoHoles) (.ref c_NoValue)=some false)(on_NoHoles_NoValue:c_NoHoles≠c_NoValue) :
 iZ q K/\∃fd:Bj,(∀(s:Ak) (v:Value),BindsTo s fd ⟨[v],[]⟩ [("_law_script",v)])/\∀base:Heap,K.In base->base.Ns Bq mg->FnOk l.prog w K mg base Hq 9 fa fd ["_law_script"] (DL.spLawD K):=by
 have e:=p6.symm.trans (PySem.W.mg_of X G aL)
 cases e
 have FL:=pU (st:=jB) lL cL kL
 have b1:=D1.fn.binds (ps:=["_law_cell"]) λ_ _ _ _ _ _=>xP (λ_=>rfl)
 have m1:=PySem.W.mg_of X G D1.nm
 have b2:=D2.fn.binds (ps:=["_law_draws_here"]) λ_ _ _ _ _ _=>xP (λ_=>rfl)
 have m2:=PySem.W.mg_of X G D2.nm
 have b3:=D3.fn.binds (ps:=["one", "other"]) λ_ _ _ _ _ _=>kY (λ_ _=>rfl)
 have m3:=PySem.W.mg_of X G D3.nm
 have b4:=D4.fn.binds (ps:=["thing"]) λ_ _ _ _ _ _=>xP (λ_=>rfl)
 have m4:=PySem.W.mg_of X G D4.nm
 have b5:=D5.fn.binds (ps:=["holes", "thing"]) λ_ _ _ _ _ _=>kY (λ_ _=>rfl)
 have m5:=PySem.W.mg_of X G D5.nm
 have b6:=D6.fn.binds (ps:=["one", "other"]) λ_ _ _ _ _ _=>kY (λ_ _=>rfl)
 have m6:=PySem.W.mg_of X G D6.nm
 have b7:=D7.fn.binds (ps:=["holes"]) λ_ _ _ _ _ _=>xP (λ_=>rfl)
 have m7:=PySem.W.mg_of X G D7.nm
 have b8:=D8.fn.binds (ps:=["holes", "word"]) λ_ _ _ _ _ _=>kY (λ_ _=>rfl)
 have m8:=PySem.W.mg_of X G D8.nm
 have b9:=D9.fn.binds (ps:=["name"]) λ_ _ _ _ _ _=>xP (λ_=>rfl)
 have m9:=PySem.W.mg_of X G D9.nm
 have j8:=h5.fn.binds (ps:=["side"]) λ_ _ _ _ _ _=>xP (λ_=>rfl)
 have j6:=PySem.W.mg_of X G h5.nm
 have s0:=k9.fn.binds (ps:=["holes", "row"]) λ_ _ _ _ _ _=>kY (λ_ _=>rfl)
 have r5:=PySem.W.mg_of X G k9.nm
 have v3:=h4.fn.binds (ps:=["cards", "needles"]) λ_ _ _ _ _ _=>kY (λ_ _=>rfl)
 have x4:=PySem.W.mg_of X G h4.nm
 have x2:=h3.fn.binds (ps:=["cards", "others", "side"]) λ_ _ _ _ _ _=>IQ (λ_ _ _=>rfl)
 have j7:=PySem.W.mg_of X G h3.nm
 have b0:=k4.fn.binds (ps:=["card", "name", "places"]) λ_ _ _ _ _ _=>IQ (λ_ _ _=>rfl)
 have n1:=PySem.W.mg_of X G k4.nm
 have v6:=k3.fn.binds (ps:=["self", "holes"]) λ_ _ _ _ _ _=>kY (λ_ _=>rfl)
 have E:=y.fn.binds (ps:=["self", "box", "hand", "table"]) λ_ _ _ _ _ _=>LZ (λ_ _ _ _=>rfl)
 have w6:=q1.fn.binds (ps:=["self"]) λ_ _ _ _ _ _=>xP (λ_=>rfl)
 have p7:=j0.fn.binds (ps:=["self", "name"]) λ_ _ _ _ _ _=>kY (λ_ _=>rfl)
 have q7:=h2.fn.binds (ps:=["self", "name"]) λ_ _ _ _ _ _=>kY (λ_ _=>rfl)
 have x6:=k1.fn.binds (ps:=["self", "name", "word"]) λ_ _ _ _ _ _=>IQ (λ_ _ _=>rfl)
 have j4:=h8.fn.binds (ps:=["self", "needles"]) λ_ _ _ _ _ _=>kY (λ_ _=>rfl)
 have r1:=q2.fn.binds (ps:=["self", "side"]) λ_ _ _ _ _ _=>kY (λ_ _=>rfl)
 have x9:=k5.fn.binds (ps:=["self"]) λ_ _ _ _ _ _=>xP (λ_=>rfl)
 have w8:=j2.fn.binds (ps:=["self"]) λ_ _ _ _ _ _=>xP (λ_=>rfl)
 have v0:=k2.fn.binds (ps:=["self"]) λ_ _ _ _ _ _=>xP (λ_=>rfl)
 have e8:=j3.fn.binds (ps:=["self", "row"]) λ_ _ _ _ _ _=>kY (λ_ _=>rfl)
 have n7:=q8.fn.binds (ps:=["self", "name", "places"]) λ_ _ _ _ _ _=>IQ (λ_ _ _=>rfl)
 have s4:=q3.fn.binds (ps:=["self", "name"]) λ_ _ _ _ _ _=>kY (λ_ _=>rfl)
 have o2:=k8.fn.binds (ps:=["_law_things", "_law_way", "_law_name", "_law_word_here", "_law_row", "_law_side"]) λ_ _ _ _ _ _=>MJ (λ_ _ _ _ _ _=>rfl)
 have w1:=PySem.W.mg_of X G k8.nm
 have q6:=O.fn.binds (ps:=["_law_error"]) λ_ _ _ _ _ _=>xP (λ_=>rfl)
 have j1:=PySem.W.mg_of X G O.nm
 have a5:=k0.fn.binds (ps:=["_law_things", "_law_way", "_law_name", "_law_word_here", "_law_row", "_law_side"]) λ_ _ _ _ _ _=>MJ (λ_ _ _ _ _ _=>rfl)
 have o8:=PySem.W.mg_of X G k0.nm
 have q8:=k6.fn.binds (ps:=["_law_things", "_law_name"]) λ_ _ _ _ _ _=>kY (λ_ _=>rfl)
 have w0:=PySem.W.mg_of X G k6.nm
 have w3:=k7.fn.binds (ps:=["_law_holes"]) λ_ _ _ _ _ _=>xP (λ_=>rfl)
 have d0:=PySem.W.mg_of X G k7.nm
 have a9:=h7.fn.binds (ps:=["_law_draws_here", "_law_holes"]) λ_ _ _ _ _ _=>kY (λ_ _=>rfl)
 have o6:=PySem.W.mg_of X G h7.nm
 have v4:=h1.fn.binds (ps:=["_law_draws_here", "_law_holes"]) λ_ _ _ _ _ _=>kY (λ_ _=>rfl)
 have x8:=PySem.W.mg_of X G h1.nm
 have s2:=h6.fn.binds (ps:=["_law_draws_here", "_law_holes"]) λ_ _ _ _ _ _=>kY (λ_ _=>rfl)
 have c1:=PySem.W.mg_of X G h6.nm
 have p5:=h9.fn.binds (ps:=["_law_things", "_law_draws_here", "_law_holes", "_law_names"]) λ_ _ _ _ _ _=>LZ (λ_ _ _ _=>rfl)
 have n3:=PySem.W.mg_of X G h9.nm
 have y1:=PySem.W.mg_none_of X G z1
 have y2:=PySem.W.mg_none_of X G z2
 have y3:=PySem.W.mg_none_of X G z3
 have y4:=PySem.W.mg_none_of X G z4
 have y5:=PySem.W.mg_none_of X G z5
 have y6:=PySem.W.mg_none_of X G z6
 have y7:=PySem.W.mg_none_of X G z7
 have y8:=PySem.W.mg_none_of X G z8
 have y9:=PySem.W.mg_none_of X G z9
 have p0:=PySem.W.mg_none_of X G z10
 have p1:=PySem.W.mg_none_of X G z11
 have s6:=PySem.W.mg_none_of X G z12
 have q0:=PySem.W.mg_none_of X G z13
 have a0:=PySem.W.mg_none_of X G z14
 have v1:=PySem.W.mg_none_of X G z15
 have u:=PySem.W.mg_of X G qc_MOST_HOLES
 have n:=PySem.W.mg_of X G qc_LONGEST_NAME
 have F:=PySem.W.mg_of X G qc_LETTERS
 have N:=DL.tab_no tz_often
 have J:=DL.tab_no tz_cut_by
 have x:=PySem.W.mg_of X G q_NoHoles
 have z:=PySem.W.mg_of X G q_NoWord
 have f:=PySem.W.mg_of X G q_NoName
 have A:=PySem.W.mg_of X G q_NoSide
 have B:=PySem.W.mg_of X G q_NoBack
 have L:=PySem.W.mg_of X G q_NoCount
 have T:=PySem.W.mg_of X G q_NoLine
 have R:=PySem.W.mg_of X G q_NoText
 have I:=PySem.W.mg_of X G q_NoValue
 have a:=PySem.W.mg_of X G q_NeedleError
 have Y:=PySem.W.mg_of X G q_Box
 have h0:=PySem.W.mg_of X G q_HEAPS
 have QH:∀H,Tr K H t ((["box", "hand", "table"]:List Str).map V.str):=λH=>.inr ⟨_,Z,hn,hlk,rfl,rfl,by rw[hv]; show (3:Nat)<=Ba; decide,by rw[hv]; exact .cons ⟨_,rfl⟩ (.cons ⟨_,rfl⟩ (.cons ⟨_,rfl⟩ .nil))⟩
 have v2:Mk K c_Box y0:=⟨mkb,k3.mt.at_,k3.mt.fn,kcb⟩
 have T0:XCls K c_NeedleError [c_NoName,c_NoWord,c_NoSide,c_NoHoles,c_NoBack,c_NoCount,c_NoLine,c_NoText,c_NoValue] c_NoName 0:=⟨U,q9 Nd.kit_self (Ug o os_NoName_NoWord on_NoName_NoWord) (Ug p os_NoName_NoSide on_NoName_NoSide) (Ug j os_NoName_NoHoles on_NoName_NoHoles) (Ug g os_NoName_NoBack on_NoName_NoBack) (Ug b os_NoName_NoCount on_NoName_NoCount) (Ug i os_NoName_NoLine on_NoName_NoLine) (Ug d os_NoName_NoText on_NoName_NoText) (Ug c os_NoName_NoValue on_NoName_NoValue),Nd.kit_ty (by decide +kernel) ev_NoName,en_NoName⟩
 have T1:XCls K c_NeedleError [c_NoName,c_NoWord,c_NoSide,c_NoHoles,c_NoBack,c_NoCount,c_NoLine,c_NoText,c_NoValue] c_NoWord 1:=⟨S,q9 (Ug k os_NoWord_NoName on_NoWord_NoName) Nd.kit_self (Ug p os_NoWord_NoSide on_NoWord_NoSide) (Ug j os_NoWord_NoHoles on_NoWord_NoHoles) (Ug g os_NoWord_NoBack on_NoWord_NoBack) (Ug b os_NoWord_NoCount on_NoWord_NoCount) (Ug i os_NoWord_NoLine on_NoWord_NoLine) (Ug d os_NoWord_NoText on_NoWord_NoText) (Ug c os_NoWord_NoValue on_NoWord_NoValue),Nd.kit_ty (by decide +kernel) ev_NoWord,en_NoWord⟩
 have T2:XCls K c_NeedleError [c_NoName,c_NoWord,c_NoSide,c_NoHoles,c_NoBack,c_NoCount,c_NoLine,c_NoText,c_NoValue] c_NoSide 2:=⟨Q,q9 (Ug k os_NoSide_NoName on_NoSide_NoName) (Ug o os_NoSide_NoWord on_NoSide_NoWord) Nd.kit_self (Ug j os_NoSide_NoHoles on_NoSide_NoHoles) (Ug g os_NoSide_NoBack on_NoSide_NoBack) (Ug b os_NoSide_NoCount on_NoSide_NoCount) (Ug i os_NoSide_NoLine on_NoSide_NoLine) (Ug d os_NoSide_NoText on_NoSide_NoText) (Ug c os_NoSide_NoValue on_NoSide_NoValue),Nd.kit_ty (by decide +kernel) ev_NoSide,en_NoSide⟩
 have T3:XCls K c_NeedleError [c_NoName,c_NoWord,c_NoSide,c_NoHoles,c_NoBack,c_NoCount,c_NoLine,c_NoText,c_NoValue] c_NoHoles 3:=⟨M,q9 (Ug k os_NoHoles_NoName on_NoHoles_NoName) (Ug o os_NoHoles_NoWord on_NoHoles_NoWord) (Ug p os_NoHoles_NoSide on_NoHoles_NoSide) Nd.kit_self (Ug g os_NoHoles_NoBack on_NoHoles_NoBack) (Ug b os_NoHoles_NoCount on_NoHoles_NoCount) (Ug i os_NoHoles_NoLine on_NoHoles_NoLine) (Ug d os_NoHoles_NoText on_NoHoles_NoText) (Ug c os_NoHoles_NoValue on_NoHoles_NoValue),Nd.kit_ty (by decide +kernel) ev_NoHoles,en_NoHoles⟩
 have TX:XAll K c_NeedleError c_NoName c_NoWord c_NoSide c_NoHoles c_NoBack c_NoCount c_NoLine c_NoText c_NoValue:=⟨T0,T1,T2,T3⟩
 refine ⟨xI N J,PySem.W.fnOf "law" "law" (Me jB) (Gr jB) (Bi jB) .none kV dc pm an cd ct,λs v=>.of_eq rfl,λbase _ _=>?_⟩
 have g1:=wQ (P:=l.prog) (w:=w) (mg:=mg) (base:=base) D1.fn
 have g2:=j9 (P:=l.prog) (w:=w) (mg:=mg) (base:=base) D2.fn
 have g3:=jE (P:=l.prog) (w:=w) (mg:=mg) (base:=base) D3.fn y1 y2 y3
 have g4:=lM (P:=l.prog) (w:=w) (mg:=mg) (base:=base) D4.fn y4 y5 y6
 have g5:=pM (P:=l.prog) (w:=w) (mg:=mg) (base:=base) D5.fn g4 b4 D4.fn.kp m4 y1 y5
 have g6:=wU (P:=l.prog) (w:=w) (mg:=mg) (base:=base) D6.fn y7
 have g7:=bZ (P:=l.prog) (w:=w) (mg:=mg) (base:=base) (c_NoHoles:=c_NoHoles) D7.fn g4 b4 D4.fn.kp m4 u x x_NoHoles
 have g8:=fI (P:=l.prog) (w:=w) (mg:=mg) (base:=base) (c_NoWord:=c_NoWord) D8.fn g5 b5 D5.fn.kp m5 g7 b7 D7.fn.kp m7 z x_NoWord
 have g9:=fM (P:=l.prog) (w:=w) (mg:=mg) (base:=base) (c_NoName:=c_NoName) D9.fn y8 y9 y5 y7 n F f x_NoName
 have z0:=fO (P:=l.prog) (w:=w) (mg:=mg) (base:=base) (c_NoSide:=c_NoSide) h5.fn y9 y5 A x_NoSide
 have r8:=iN (P:=l.prog) (w:=w) (mg:=mg) (base:=base) (c_NoWord:=c_NoWord) (c_NoSide:=c_NoSide) k9.fn g8 b8 D8.fn.kp m8 z0 j8 h5.fn.kp j6
 have x1:=Xp (P:=l.prog) (w:=w) (mg:=mg) (base:=base) h4.fn g6 b6 D6.fn.kp m6
 have v5:=P6 (P:=l.prog) (w:=w) (mg:=mg) (base:=base) h3.fn
 have w9:=oR (P:=l.prog) (w:=w) (mg:=mg) (base:=base) k4.fn g3 b3 D3.fn.kp m3
 have x5:=Zx (P:=l.prog) (w:=w) (mg:=mg) (base:=base) (c_Box:=c_Box) (c_NoHoles:=c_NoHoles) k3.fn g7 b7 D7.fn.kp m7
 have C:=bV (P:=l.prog) (w:=w) (mg:=mg) (base:=base) (c_Box:=c_Box) y.fn
 have r2:=jR (P:=l.prog) (w:=w) (mg:=mg) (base:=base) (c_Box:=c_Box) q1.fn p0
 have a2:=aA (P:=l.prog) (w:=w) (mg:=mg) (base:=base) (c_Box:=c_Box) j0.fn p1
 have q4:=Zy (P:=l.prog) (w:=w) (mg:=mg) (base:=base) (c_Box:=c_Box) (c_NoName:=c_NoName) h2.fn g9 b9 D9.fn.kp m9 s6 q0 h0 QH f x_NoName
 have v7:=qJ (P:=l.prog) (w:=w) (mg:=mg) (base:=base) (c_Box:=c_Box) (c_NoName:=c_NoName) (c_NoWord:=c_NoWord) k1.fn g8 b8 D8.fn.kp m8 g9 b9 D9.fn.kp m9 C E y.mt a2 p7 j0.mt f x_NoName
 have x7:=eX (P:=l.prog) (w:=w) (mg:=mg) (base:=base) (c_Box:=c_Box) (c_NoWord:=c_NoWord) h8.fn g8 b8 D8.fn.kp m8 x1 v3 h4.fn.kp x4 C E y.mt
 have c5:=rD (P:=l.prog) (w:=w) (mg:=mg) (base:=base) (c_Box:=c_Box) (c_NoSide:=c_NoSide) q2.fn z0 j8 h5.fn.kp j6 v5 x2 h3.fn.kp j7 C E y.mt
 have x3:=fK (P:=l.prog) (w:=w) (mg:=mg) (base:=base) (c_Box:=c_Box) k5.fn C E y.mt
 have n8:=dQ (P:=l.prog) (w:=w) (mg:=mg) (base:=base) (c_Box:=c_Box) j2.fn C E y.mt
 have x0:=lO (P:=l.prog) (w:=w) (mg:=mg) (base:=base) (c_Box:=c_Box) (c_NoBack:=c_NoBack) k2.fn  B x_NoBack
 have g0:=wY (P:=l.prog) (w:=w) (mg:=mg) (base:=base) (c_Box:=c_Box) (c_NoWord:=c_NoWord) (c_NoSide:=c_NoSide) j3.fn r8 s0 k9.fn.kp r5 x1 v3 h4.fn.kp x4 v5 x2 h3.fn.kp j7 C E y.mt
 have o9:=rG (P:=l.prog) (w:=w) (mg:=mg) (base:=base) (c_Box:=c_Box) (c_NoName:=c_NoName) (c_NoWord:=c_NoWord) q8.fn g8 b8 D8.fn.kp m8 w9 b0 k4.fn.kp n1 C E y.mt q4 q7 h2.mt
 have c7:=mI (P:=l.prog) (w:=w) (mg:=mg) (base:=base) (c_Box:=c_Box) (c_NoName:=c_NoName) q3.fn C E y.mt q4 q7 h2.mt
 have w4:=iI (P:=l.prog) (w:=w) (mg:=mg) (base:=base) (c_Box:=c_Box) (c_NoName:=c_NoName) (c_NoWord:=c_NoWord) (c_NoSide:=c_NoSide) (c_NoHoles:=c_NoHoles) (c_NoBack:=c_NoBack) (c_NoCount:=c_NoCount) (c_NoLine:=c_NoLine) (c_NoText:=c_NoText) (c_NoValue:=c_NoValue) k8.fn v7 x6 k1.mt x7 j4 h8.mt c5 r1 q2.mt x3 x9 k5.mt n8 w8 j2.mt x0 v0 k2.mt g0 e8 j3.mt o9 n7 q8.mt c7 s4 q3.mt
 have q0:=Zt (P:=l.prog) (w:=w) (mg:=mg) (base:=base) (c_NeedleError:=c_NeedleError) (c_NoName:=c_NoName) (c_NoWord:=c_NoWord) (c_NoSide:=c_NoSide) (c_NoHoles:=c_NoHoles) (c_NoBack:=c_NoBack) (c_NoCount:=c_NoCount) (c_NoLine:=c_NoLine) (c_NoText:=c_NoText) (c_NoValue:=c_NoValue) O.fn y5 a0 v1 f z A x B L T R I
 have r7:=iO (P:=l.prog) (w:=w) (mg:=mg) (base:=base) (c_Box:=c_Box) k0.fn w4 o2 k8.fn.kp w1 q0 q6 O.fn.kp j1 TX a x_NeedleError
 have o0:=bN (P:=l.prog) (w:=w) (mg:=mg) (base:=base) (c_Box:=c_Box) k6.fn q4 q7 h2.mt q0 q6 O.fn.kp j1 TX a x_NeedleError
 have q2:=iH (P:=l.prog) (w:=w) (mg:=mg) (base:=base) k7.fn x5 v6 q0 q6 O.fn.kp j1 TX a x_NeedleError v2 Y
 have e0:=iW (P:=l.prog) (w:=w) (mg:=mg) (base:=base) h7.fn g2 b2 D2.fn.kp m2 v1 y1
 have j5:=Vb (P:=l.prog) (w:=w) (mg:=mg) (base:=base) h1.fn g2 b2 D2.fn.kp m2
 have e9:=Wg (P:=l.prog) (w:=w) (mg:=mg) (base:=base) h6.fn g2 b2 D2.fn.kp m2 j5 v4 h1.fn.kp x8
 have a1:=eU (P:=l.prog) (w:=w) (mg:=mg) (base:=base) (c_Box:=c_Box) h9.fn g2 b2 D2.fn.kp m2 r7 a5 k0.fn.kp o8 o0 q8 k6.fn.kp w0 j5 v4 h1.fn.kp x8 e9 s2 h6.fn.kp c1
 exact BU FL g1 b1 D1.fn.kp m1 g2 b2 D2.fn.kp m2 x5 v6 r2 w6 q1.mt v7 x6 k1.mt x7 j4 h8.mt x3 x9 k5.mt x0 v0 k2.mt q2 w3 k7.fn.kp d0 e0 a9 h7.fn.kp o6 a1 p5 h9.fn.kp n3 v2 Y
theorem walk{l:PySem.W.OpenLaw}{q:Bk}{b:List Str}{o:(Str->Option Value)->Heap->Prop}{g:World->Heap->Prop}{d:DefRec}{K:Params->PySem.W.Frag}(t:l.most=some 63)(c:d.params.defaults=[])(p:∀(w:World) (h:Heap),g w h->(K w.params).In h)(F:∀(w:World) (mg:Str->Option Value) (i:Addr) (h:Heap),(K w.params).In h->h.Ns Bq mg->mg d.name=some (.ref i)->iZ q (K w.params)/\∃e:Bj,(∀(s:Ak) (u:Value),BindsTo s e ⟨[u],[]⟩ [("_law_script",u)])/\∀base:Heap,(K w.params).In base->base.Ns Bq mg->FnOk l.prog w (K w.params) mg base Hq 9 i e ["_law_script"] (DL.spLawD (K w.params))):PySem.W.WalkO q b o g l.row.toRowW d [] (λf vs=>PySem.call f vs) :=
 L2.walk_ofD (n:=63) (k:=9) (x := "_law_script") (CX:=λ_=>Hq) (sp:=λw=>DL.spLawD (K w.params)) t (by decide) c ⟨rfl,by decide,by decide,rfl⟩ p F (λ_ _ a r j _ m=>⟨a,r,rfl,m,j,λ_=>rfl⟩) λ_ _ _ _ _ z=>z
end K72
open PySem PySem.W PyProof.Rows
set_option maxRecDepth 100000 in
set_option maxHeartbeats 0 in
theorem PySem.Challenge.cw_needledeck_k72_what_a_box_refuses_holds : PySem.Challenge.rw_needledeck_k72_what_a_box_refuses.Holds := by
 w_on; refine topK ?_
 k_fill
 refine K72.walk (l:=PySem.Challenge.rw_needledeck_k72_what_a_box_refuses) rfl rfl (λw h Y=>PySem.W.kIn_of Y) ?F
 case F =>
  intro w mg fa h KX G hmg
  refine' K72.all_mk KX G hmg ?aL ?lL ?cL ?kL ?q_Box ?q_NoHoles ?q_NoWord ?q_NoName ?q_NoSide ?q_NoBack ?q_NoCount ?q_NoLine ?q_NoText ?q_NoValue ?q_NeedleError (K72.def_mk ?a1 ?l1 ?c1 ?k1) (K72.def_mk ?a2 ?l2 ?c2 ?k2) (K72.def_mk ?a3 ?l3 ?c3 ?k3) (K72.def_mk ?a4 ?l4 ?c4 ?k4) (K72.def_mk ?a5 ?l5 ?c5 ?k5) (K72.def_mk ?a6 ?l6 ?c6 ?k6) (K72.def_mk ?a7 ?l7 ?c7 ?k7) (K72.def_mk ?a8 ?l8 ?c8 ?k8) (K72.def_mk ?a9 ?l9 ?c9 ?k9) (K72.def_mk ?a10 ?l10 ?c10 ?k10) (K72.def_mk ?a11 ?l11 ?c11 ?k11) (K72.def_mk ?a12 ?l12 ?c12 ?k12) (K72.def_mk ?a13 ?l13 ?c13 ?k13) (K72.def_mk ?a14 ?l14 ?c14 ?k14) (K72.met_mk ?a15 ?i15 ?l15 ?c15 ?k15) (K72.met_mk ?a16 ?i16 ?l16 ?c16 ?k16) (K72.met_mk ?a17 ?i17 ?l17 ?c17 ?k17) (K72.met_mk ?a18 ?i18 ?l18 ?c18 ?k18) (K72.met_mk ?a19 ?i19 ?l19 ?c19 ?k19) (K72.met_mk ?a20 ?i20 ?l20 ?c20 ?k20) (K72.met_mk ?a21 ?i21 ?l21 ?c21 ?k21) (K72.met_mk ?a22 ?i22 ?l22 ?c22 ?k22) (K72.met_mk ?a23 ?i23 ?l23 ?c23 ?k23) (K72.met_mk ?a24 ?i24 ?l24 ?c24 ?k24) (K72.met_mk ?a25 ?i25 ?l25 ?c25 ?k25) (K72.met_mk ?a26 ?i26 ?l26 ?c26 ?k26) (K72.met_mk ?a27 ?i27 ?l27 ?c27 ?k27) (K72.met_mk ?a28 ?i28 ?l28 ?c28 ?k28) (K72.def_mk ?a29 ?l29 ?c29 ?k29) (K72.def_mk ?a30 ?l30 ?c30 ?k30) (K72.def_mk ?a31 ?l31 ?c31 ?k31) (K72.def_mk ?a32 ?l32 ?c32 ?k32) (K72.def_mk ?a33 ?l33 ?c33 ?k33) (K72.def_mk ?a34 ?l34 ?c34 ?k34) (K72.def_mk ?a35 ?l35 ?c35 ?k35) (K72.def_mk ?a36 ?l36 ?c36 ?k36) (K72.def_mk ?a37 ?l37 ?c37 ?k37) (K72.box_mk ?pg ?hd ?po ?sa ?nh ?nl ?ne) ?mkb ?kcb ?z1 ?z2 ?z3 ?z4 ?z5 ?z6 ?z7 ?z8 ?z9 ?z10 ?z11 ?z12 ?z13 ?z14 ?z15 ?x_NoHoles ?x_NoWord ?x_NoName ?x_NoSide ?x_NoBack ?x_NeedleError ?tz_often ?tz_cut_by ?qc_MOST_HOLES ?qc_LONGEST_NAME ?qc_LETTERS ?q_HEAPS ?hlk ?hv ⟨K72.cls_ok ?oc_NoName,?ot_NoName⟩ ⟨K72.cls_ok ?oc_NoWord,?ot_NoWord⟩ ⟨K72.cls_ok ?oc_NoSide,?ot_NoSide⟩ ⟨K72.cls_ok ?oc_NoHoles,?ot_NoHoles⟩ ⟨K72.cls_ok ?oc_NoBack,?ot_NoBack⟩ ⟨K72.cls_ok ?oc_NoCount,?ot_NoCount⟩ ⟨K72.cls_ok ?oc_NoLine,?ot_NoLine⟩ ⟨K72.cls_ok ?oc_NoText,?ot_NoText⟩ ⟨K72.cls_ok ?oc_NoValue,?ot_NoValue⟩ ⟨K72.cls_ok ?e1_NoName,?e2_NoName,?e3_NoName,?e4_NoName,?e5_NoName,?e6_NoName⟩ ?ev_NoName ?en_NoName ?os_NoName_NoWord ?on_NoName_NoWord ?os_NoName_NoSide ?on_NoName_NoSide ?os_NoName_NoHoles ?on_NoName_NoHoles ?os_NoName_NoBack ?on_NoName_NoBack ?os_NoName_NoCount ?on_NoName_NoCount ?os_NoName_NoLine ?on_NoName_NoLine ?os_NoName_NoText ?on_NoName_NoText ?os_NoName_NoValue ?on_NoName_NoValue ⟨K72.cls_ok ?e1_NoWord,?e2_NoWord,?e3_NoWord,?e4_NoWord,?e5_NoWord,?e6_NoWord⟩ ?ev_NoWord ?en_NoWord ?os_NoWord_NoName ?on_NoWord_NoName ?os_NoWord_NoSide ?on_NoWord_NoSide ?os_NoWord_NoHoles ?on_NoWord_NoHoles ?os_NoWord_NoBack ?on_NoWord_NoBack ?os_NoWord_NoCount ?on_NoWord_NoCount ?os_NoWord_NoLine ?on_NoWord_NoLine ?os_NoWord_NoText ?on_NoWord_NoText ?os_NoWord_NoValue ?on_NoWord_NoValue ⟨K72.cls_ok ?e1_NoSide,?e2_NoSide,?e3_NoSide,?e4_NoSide,?e5_NoSide,?e6_NoSide⟩ ?ev_NoSide ?en_NoSide ?os_NoSide_NoName ?on_NoSide_NoName ?os_NoSide_NoWord ?on_NoSide_NoWord ?os_NoSide_NoHoles ?on_NoSide_NoHoles ?os_NoSide_NoBack ?on_NoSide_NoBack ?os_NoSide_NoCount ?on_NoSide_NoCount ?os_NoSide_NoLine ?on_NoSide_NoLine ?os_NoSide_NoText ?on_NoSide_NoText ?os_NoSide_NoValue ?on_NoSide_NoValue ⟨K72.cls_ok ?e1_NoHoles,?e2_NoHoles,?e3_NoHoles,?e4_NoHoles,?e5_NoHoles,?e6_NoHoles⟩ ?ev_NoHoles ?en_NoHoles ?os_NoHoles_NoName ?on_NoHoles_NoName ?os_NoHoles_NoWord ?on_NoHoles_NoWord ?os_NoHoles_NoSide ?on_NoHoles_NoSide ?os_NoHoles_NoBack ?on_NoHoles_NoBack ?os_NoHoles_NoCount ?on_NoHoles_NoCount ?os_NoHoles_NoLine ?on_NoHoles_NoLine ?os_NoHoles_NoText ?on_NoHoles_NoText ?os_NoHoles_NoValue ?on_NoHoles_NoValue
  (case aL=>k_is)
  (case lL=>k_is)
  (case cL=>k_is)
  (case kL=>k_is)
  (case q_Box=>k_is)
  (case q_NoHoles=>k_is)
  (case q_NoWord=>k_is)
  (case q_NoName=>k_is)
  (case q_NoSide=>k_is)
  (case q_NoBack=>k_is)
  (case q_NoCount=>k_is)
  (case q_NoLine=>k_is)
  (case q_NoText=>k_is)
  (case q_NoValue=>k_is)
  (case q_NeedleError=>k_is)
  (case a1=>k_is); (case l1=>k_is); (case c1=>k_is); (case k1=>k_is)
  (case a2=>k_is); (case l2=>k_is); (case c2=>k_is); (case k2=>k_is)
  (case a3=>k_is); (case l3=>k_is); (case c3=>k_is); (case k3=>k_is)
  (case a4=>k_is); (case l4=>k_is); (case c4=>k_is); (case k4=>k_is)
  (case a5=>k_is); (case l5=>k_is); (case c5=>k_is); (case k5=>k_is)
  (case a6=>k_is); (case l6=>k_is); (case c6=>k_is); (case k6=>k_is)
  (case a7=>k_is); (case l7=>k_is); (case c7=>k_is); (case k7=>k_is)
  (case a8=>k_is); (case l8=>k_is); (case c8=>k_is); (case k8=>k_is)
  (case a9=>k_is); (case l9=>k_is); (case c9=>k_is); (case k9=>k_is)
  (case a10=>k_is); (case l10=>k_is); (case c10=>k_is); (case k10=>k_is)
  (case a11=>k_is); (case l11=>k_is); (case c11=>k_is); (case k11=>k_is)
  (case a12=>k_is); (case l12=>k_is); (case c12=>k_is); (case k12=>k_is)
  (case a13=>k_is); (case l13=>k_is); (case c13=>k_is); (case k13=>k_is)
  (case a14=>k_is); (case l14=>k_is); (case c14=>k_is); (case k14=>k_is)
  (case a15=>k_is); (case i15=>k_is); (case l15=>k_is); (case c15=>k_is); (case k15=>k_is)
  (case a16=>k_is); (case i16=>k_is); (case l16=>k_is); (case c16=>k_is); (case k16=>k_is)
  (case a17=>k_is); (case i17=>k_is); (case l17=>k_is); (case c17=>k_is); (case k17=>k_is)
  (case a18=>k_is); (case i18=>k_is); (case l18=>k_is); (case c18=>k_is); (case k18=>k_is)
  (case a19=>k_is); (case i19=>k_is); (case l19=>k_is); (case c19=>k_is); (case k19=>k_is)
  (case a20=>k_is); (case i20=>k_is); (case l20=>k_is); (case c20=>k_is); (case k20=>k_is)
  (case a21=>k_is); (case i21=>k_is); (case l21=>k_is); (case c21=>k_is); (case k21=>k_is)
  (case a22=>k_is); (case i22=>k_is); (case l22=>k_is); (case c22=>k_is); (case k22=>k_is)
  (case a23=>k_is); (case i23=>k_is); (case l23=>k_is); (case c23=>k_is); (case k23=>k_is)
  (case a24=>k_is); (case i24=>k_is); (case l24=>k_is); (case c24=>k_is); (case k24=>k_is)
  (case a25=>k_is); (case i25=>k_is); (case l25=>k_is); (case c25=>k_is); (case k25=>k_is)
  (case a26=>k_is); (case i26=>k_is); (case l26=>k_is); (case c26=>k_is); (case k26=>k_is)
  (case a27=>k_is); (case i27=>k_is); (case l27=>k_is); (case c27=>k_is); (case k27=>k_is)
  (case a28=>k_is); (case i28=>k_is); (case l28=>k_is); (case c28=>k_is); (case k28=>k_is)
  (case a29=>k_is); (case l29=>k_is); (case c29=>k_is); (case k29=>k_is)
  (case a30=>k_is); (case l30=>k_is); (case c30=>k_is); (case k30=>k_is)
  (case a31=>k_is); (case l31=>k_is); (case c31=>k_is); (case k31=>k_is)
  (case a32=>k_is); (case l32=>k_is); (case c32=>k_is); (case k32=>k_is)
  (case a33=>k_is); (case l33=>k_is); (case c33=>k_is); (case k33=>k_is)
  (case a34=>k_is); (case l34=>k_is); (case c34=>k_is); (case k34=>k_is)
  (case a35=>k_is); (case l35=>k_is); (case c35=>k_is); (case k35=>k_is)
  (case a36=>k_is); (case l36=>k_is); (case c36=>k_is); (case k36=>k_is)
  (case a37=>k_is); (case l37=>k_is); (case c37=>k_is); (case k37=>k_is)
  (case pg=>k_is); (case hd=>k_is); (case po=>k_is); (case sa=>k_is); (case nh=>k_is); (case nl=>k_is); (case ne=>k_is)
  (case mkb=>k_is)
  (case kcb=>k_is)
  (case z1=>k_is)
  (case z2=>k_is)
  (case z3=>k_is)
  (case z4=>k_is)
  (case z5=>k_is)
  (case z6=>k_is)
  (case z7=>k_is)
  (case z8=>k_is)
  (case z9=>k_is)
  (case z10=>k_is)
  (case z11=>k_is)
  (case z12=>k_is)
  (case z13=>k_is)
  (case z14=>k_is)
  (case z15=>k_is)
  (case x_NoHoles=>k_exc)
  (case x_NoWord=>k_exc)
  (case x_NoName=>k_exc)
  (case x_NoSide=>k_exc)
  (case x_NoBack=>k_exc)
  (case x_NeedleError=>k_exc)
  (case tz_often=>k_is)
  (case tz_cut_by=>k_is)
  (case qc_MOST_HOLES=>k_is)
  (case qc_LONGEST_NAME=>k_is)
  (case qc_LETTERS=>k_is)
  (case q_HEAPS=>k_is)
  (case hlk=>k_is)
  (case hv=>rfl)
  (case oc_NoName=>k_is); (case ot_NoName=>k_is)
  (case oc_NoWord=>k_is); (case ot_NoWord=>k_is)
  (case oc_NoSide=>k_is); (case ot_NoSide=>k_is)
  (case oc_NoHoles=>k_is); (case ot_NoHoles=>k_is)
  (case oc_NoBack=>k_is); (case ot_NoBack=>k_is)
  (case oc_NoCount=>k_is); (case ot_NoCount=>k_is)
  (case oc_NoLine=>k_is); (case ot_NoLine=>k_is)
  (case oc_NoText=>k_is); (case ot_NoText=>k_is)
  (case oc_NoValue=>k_is); (case ot_NoValue=>k_is)
  (case e1_NoName=>k_is); (case e2_NoName=>k_is); (case e3_NoName=>k_is); (case e4_NoName=>k_is); (case e5_NoName=>k_is); (case e6_NoName=>k_is)
  (case ev_NoName=>k_is)
  (case en_NoName=>k_is)
  (case os_NoName_NoWord=>k_is)
  (case on_NoName_NoWord=>decide)
  (case os_NoName_NoSide=>k_is)
  (case on_NoName_NoSide=>decide)
  (case os_NoName_NoHoles=>k_is)
  (case on_NoName_NoHoles=>decide)
  (case os_NoName_NoBack=>k_is)
  (case on_NoName_NoBack=>decide)
  (case os_NoName_NoCount=>k_is)
  (case on_NoName_NoCount=>decide)
  (case os_NoName_NoLine=>k_is)
  (case on_NoName_NoLine=>decide)
  (case os_NoName_NoText=>k_is)
  (case on_NoName_NoText=>decide)
  (case os_NoName_NoValue=>k_is)
  (case on_NoName_NoValue=>decide)
  (case e1_NoWord=>k_is); (case e2_NoWord=>k_is); (case e3_NoWord=>k_is); (case e4_NoWord=>k_is); (case e5_NoWord=>k_is); (case e6_NoWord=>k_is)
  (case ev_NoWord=>k_is)
  (case en_NoWord=>k_is)
  (case os_NoWord_NoName=>k_is)
  (case on_NoWord_NoName=>decide)
  (case os_NoWord_NoSide=>k_is)
  (case on_NoWord_NoSide=>decide)
  (case os_NoWord_NoHoles=>k_is)
  (case on_NoWord_NoHoles=>decide)
  (case os_NoWord_NoBack=>k_is)
  (case on_NoWord_NoBack=>decide)
  (case os_NoWord_NoCount=>k_is)
  (case on_NoWord_NoCount=>decide)
  (case os_NoWord_NoLine=>k_is)
  (case on_NoWord_NoLine=>decide)
  (case os_NoWord_NoText=>k_is)
  (case on_NoWord_NoText=>decide)
  (case os_NoWord_NoValue=>k_is)
  (case on_NoWord_NoValue=>decide)
  (case e1_NoSide=>k_is); (case e2_NoSide=>k_is); (case e3_NoSide=>k_is); (case e4_NoSide=>k_is); (case e5_NoSide=>k_is); (case e6_NoSide=>k_is)
  (case ev_NoSide=>k_is)
  (case en_NoSide=>k_is)
  (case os_NoSide_NoName=>k_is)
  (case on_NoSide_NoName=>decide)
  (case os_NoSide_NoWord=>k_is)
  (case on_NoSide_NoWord=>decide)
  (case os_NoSide_NoHoles=>k_is)
  (case on_NoSide_NoHoles=>decide)
  (case os_NoSide_NoBack=>k_is)
  (case on_NoSide_NoBack=>decide)
  (case os_NoSide_NoCount=>k_is)
  (case on_NoSide_NoCount=>decide)
  (case os_NoSide_NoLine=>k_is)
  (case on_NoSide_NoLine=>decide)
  (case os_NoSide_NoText=>k_is)
  (case on_NoSide_NoText=>decide)
  (case os_NoSide_NoValue=>k_is)
  (case on_NoSide_NoValue=>decide)
  (case e1_NoHoles=>k_is); (case e2_NoHoles=>k_is); (case e3_NoHoles=>k_is); (case e4_NoHoles=>k_is); (case e5_NoHoles=>k_is); (case e6_NoHoles=>k_is)
  (case ev_NoHoles=>k_is)
  (case en_NoHoles=>k_is)
  (case os_NoHoles_NoName=>k_is)
  (case on_NoHoles_NoName=>decide)
  (case os_NoHoles_NoWord=>k_is)
  (case on_NoHoles_NoWord=>decide)
  (case os_NoHoles_NoSide=>k_is)
  (case on_NoHoles_NoSide=>decide)
  (case os_NoHoles_NoBack=>k_is)
  (case on_NoHoles_NoBack=>decide)
  (case os_NoHoles_NoCount=>k_is)
  (case on_NoHoles_NoCount=>decide)
  (case os_NoHoles_NoLine=>k_is)
  (case on_NoHoles_NoLine=>decide)
  (case os_NoHoles_NoText=>k_is)
  (case on_NoHoles_NoText=>decide)
  (case os_NoHoles_NoValue=>k_is)
  (case on_NoHoles_NoValue=>decide)