import PyProof.Rows.All
import Wide.All
import OpenK.AllK
import Wide.FinOn
import Lean
import PyProof.EqAt
import PyProof.EqKinds
import PyProof.TupleCall
import PyProof.FactsAll.set
import PyProof.FactsAll.subtypes
import PySem.Challenge.RW_needledeck_k23_codes_apart
set_option Elab.async false
set_option linter.all false
set_option maxRecDepth 100000
set_option maxHeartbeats 4000000
namespace L2
open PySem PySem.Spec PyProof.Rows
abbrev Key := Sum Int Str
def keyIs : Key → Value → Bool
  | .inl k, v => Value.isInt k v
  | .inr x, v => Value.isStrOf x v
def keyH (w : World) : Key → Int
  | .inl k => hashInt k
  | .inr x => hashStr w x
theorem keyIs_shape : ∀ {k : Key} {v : Value}, keyIs k v = true → (∃ i t, k = Sum.inl i ∧ v = Value.int i t) ∨ (∃ x t, k = Sum.inr x ∧ v = Value.str x t)
  | .inl i, v, h => by
    obtain ⟨t, e⟩ := Value.isInt_shape (k := i) (v := v) h
    exact .inl ⟨i, t, rfl, e⟩
  | .inr x, v, h => by
    obtain ⟨t, e⟩ := Value.isStrOf_shape (x := x) (v := v) h
    exact .inr ⟨x, t, rfl, e⟩
theorem keyIs_int (i : Int) (t : Tok) : keyIs (.inl i) (.int i t) = true := by simp [keyIs, Value.isInt]
theorem keyIs_str (x : Str) (t : Tok) : keyIs (.inr x) (.str x t) = true := by simp [keyIs, Value.isStrOf]
theorem key_ll (a b : Int) : decide ((Sum.inl a : Key) = Sum.inl b) = (a == b) := by
  by_cases e : a = b
  · subst e; simp
  · have h : ¬ (Sum.inl a : Key) = Sum.inl b := fun q => e (Sum.inl.inj q)
    rw [decide_eq_false h]
    exact (beq_eq_false_iff_ne.mpr e).symm
theorem key_rr (a b : Str) : decide ((Sum.inr a : Key) = Sum.inr b) = decide (a = b) := by
  by_cases e : a = b
  · subst e; simp
  · have h : ¬ (Sum.inr a : Key) = Sum.inr b := fun q => e (Sum.inr.inj q)
    rw [decide_eq_false h, decide_eq_false e]
theorem key_lr (a : Int) (b : Str) : decide ((Sum.inl a : Key) = Sum.inr b) = false := decide_eq_false (fun q => nomatch q)
theorem key_rl (a : Str) (b : Int) : decide ((Sum.inr a : Key) = Sum.inl b) = false := decide_eq_false (fun q => nomatch q)
def mixKind (prog : Program) (w : World) : PySem.KeyKind prog w Key where
  is := keyIs
  hash := keyH w
  inj := fun v a b ha hb => by
    rcases keyIs_shape ha with ⟨i, t, rfl, rfl⟩ | ⟨x, t, rfl, rfl⟩
    · rcases keyIs_shape hb with ⟨j, u, rfl, e⟩ | ⟨y, u, rfl, e⟩
      · injection e with e1 _; rw [e1]
      · exact nomatch e
    · rcases keyIs_shape hb with ⟨j, u, rfl, e⟩ | ⟨y, u, rfl, e⟩
      · exact nomatch e
      · injection e with e1 _; rw [e1]
  byValue := fun k v h => by
    rcases keyIs_shape h with ⟨i, t, rfl, rfl⟩ | ⟨x, t, rfl, rfl⟩ <;> rfl
  pyHash := fun hv h => by
    rcases keyIs_shape hv with ⟨i, t, rfl, rfl⟩ | ⟨x, t, rfl, rfl⟩
    · exact wpAny_pyHash_int h
    · exact wpAny_pyHash_str h
  eqBool := fun hu hv h => by
    rcases keyIs_shape hu with ⟨i, t, rfl, rfl⟩ | ⟨x, t, rfl, rfl⟩
    · rcases keyIs_shape hv with ⟨j, u, rfl, rfl⟩ | ⟨y, u, rfl, rfl⟩
      · rw [key_ll] at h; exact wpAny_eqBool_int h
      · rw [key_lr] at h; exact SeqAt.EqAt.int_str i t y u _ _ _ _ h
    · rcases keyIs_shape hv with ⟨j, u, rfl, rfl⟩ | ⟨y, u, rfl, rfl⟩
      · rw [key_rl] at h; exact SeqAt.EqAt.str_int x t j u _ _ _ _ h
      · rw [key_rr] at h; exact wpAny_eqBool_str h
  «strs» := fun k x t v h => by
    rcases keyIs_shape h with ⟨i, u, rfl, e⟩ | ⟨y, u, rfl, e⟩
    · exact nomatch e
    · injection e with e1 _
      subst e1
      cases v <;> rfl
theorem mixKind_int (prog : Program) (w : World) (i : Int) (t : Tok) : (mixKind prog w).is (.inl i) (.int i t) = true := keyIs_int i t
theorem mixKind_str (prog : Program) (w : World) (x : Str) (t : Tok) : (mixKind prog w).is (.inr x) (.str x t) = true := keyIs_str x t
end L2
namespace L2
open PySem PySem.Spec PyProof.Rows
inductive V where
  | non | bl (b : Bool) | int (i : Int) | str (x : Str) | byt (b : Array UInt8) | flt (b : UInt64) | ref (a : Addr) | ty (n : String)
  deriving DecidableEq
def RelV : V → Value → Prop
  | .non, u => u = Value.none
  | .bl b, u => u = Value.bool b
  | .int i, u => ∃ t, u = Value.int i t
  | .str x, u => ∃ t, u = Value.str x t
  | .byt b, u => ∃ t, u = Value.bytes b t
  | .flt b, u => ∃ t, u = Value.float b t
  | .ref a, u => u = Value.ref a
  | .ty n, u => u = Value.type n
abbrev Vals : List V → List Value → Prop := Paired RelV
theorem Vals.length {xs : List V} {us : List Value} (r : Vals xs us) : xs.length = us.length := Paired.length r
theorem Vals.get : ∀ {xs : List V} {us : List Value} {i : Nat} {x : V}, Vals xs us → xs[i]? = some x → ∃ u, us[i]? = some u ∧ RelV x u
  | _, _, _, _, .nil, e => by simp at e
  | _, _, 0, _, .cons r _, e => by simp at e; subst e; exact ⟨_, rfl, r⟩
  | _, _, i + 1, x, .cons _ t, e => by
    obtain ⟨u, h1, h2⟩ := Vals.get (i := i) (x := x) t (by simpa using e)
    exact ⟨u, by simpa using h1, h2⟩
theorem Vals.set {x : V} {u : Value} (r : RelV x u) : ∀ {xs : List V} {us : List Value} (i : Nat), Vals xs us → Vals (xs.set i x) (us.set i u)
  | _, _, _, .nil => .nil
  | _, _, 0, .cons _ t => .cons r t
  | _, _, i + 1, .cons q t => .cons q (Vals.set r i t)
theorem Vals.append : ∀ {xs ys : List V} {us ws : List Value}, Vals xs us → Vals ys ws → Vals (xs ++ ys) (us ++ ws)
  | _, _, _, _, .nil, s => s
  | _, _, _, _, .cons r t, s => .cons r (Vals.append t s)
theorem Vals.take : ∀ {xs : List V} {us : List Value} (n : Nat), Vals xs us → Vals (xs.take n) (us.take n)
  | _, _, 0, _ => .nil
  | _, _, _ + 1, .nil => .nil
  | _, _, n + 1, .cons r t => .cons r (Vals.take n t)
theorem Vals.drop : ∀ {xs : List V} {us : List Value} (n : Nat), Vals xs us → Vals (xs.drop n) (us.drop n)
  | _, _, 0, r => r
  | _, _, _ + 1, .nil => .nil
  | _, _, n + 1, .cons _ t => Vals.drop n t
def RelO : Option V → Option Value → Prop
  | some v, some u => RelV v u
  | none, none => True
  | _, _ => False
def KV {κ : Type} : List (κ × V) → List (κ × Value) → Prop := Paired fun (p : κ × V) (q : κ × Value) => p.1 = q.1 ∧ RelV p.2 q.2
def kV : Key → V
  | .inl i => .int i
  | .inr x => .str x
inductive HO where
  /-- a list -/
  | lst (xs : List V)
  /-- a tuple (never changes) -/
  | tup (xs : List V)
  /-- a dict whose keys are ints and texts; one whose keys are tuples of ints and texts (the empty one is both) -/
  | dK (kvs : List (Key × V)) | dT (kvs : List (List Key × V))
  /-- a set of ints: its members, its size -/
  | set (S : Int → Bool) (n : Nat)
  /-- an instance of the class at C, its dict at dx, its attributes -/
  | ins (C dx : Addr) (fs : List (Str × V))
  /-- the dict of the instance at x -/
  | own (x : Addr)
  /-- the dict of an exception -/
  | xd (fs : List (Str × V))
  /-- a bound method, f of x -/
  | met (f x : Addr)
  /-- a range object lo, lo + 1, .. below hi -/
  | rng (lo hi : Int)
  /-- a thing that is known to the object (the script; a dict while a loop walks it): read, never written while it is so -/
  | frz (o : Obj) (u : HO)
  /-- a code object's table -/
  | tbl (ps : Array Value)
  /-- any other thing, by what is true of its one object (a def of one's own: SetO a S n := HO.ext fun h => ..) -/
  | ext (φ : Heap → Prop)
abbrev Hp := Addr → Option HO
def upd (H : Hp) (a : Addr) (o : HO) : Hp := fun b => if b = a then some o else H b
theorem upd_same {H : Hp} {a : Addr} {o : HO} : upd H a o a = some o := by unfold upd; rw [if_pos rfl]
theorem upd_ne {H : Hp} {a b : Addr} {o : HO} (h : b ≠ a) : upd H a o b = H b := by unfold upd; rw [if_neg h]
theorem ne_of {H : Hp} {a b : Addr} {o u : HO} (h : H a = some o) (h' : H b = some u) (d : o ≠ u) : a ≠ b := by
  intro e; subst e; rw [h] at h'; exact d (Option.some.inj h')
theorem ne_of_none {H : Hp} {a b : Addr} {o : HO} (h : H a = some o) (h' : H b = none) : a ≠ b := by
  intro e; subst e; rw [h] at h'; cases h'
section
variable (P : Program) (w : World)
def ObjOk (H : Hp) (h : Heap) (a : Addr) : HO → Prop
  | .lst xs => xs.length ≤ sizeLine ∧ ∃ (its : List Value) (n : Nat), Vals xs its ∧ h.get? a = some { cls := .type "list", data := .seq its.toArray n }
  | .tup xs => xs.length ≤ sizeLine ∧ ∃ its : List Value, Vals xs its ∧ IsTup h a its.toArray
  | .dK kvs => kvs.length ≤ sizeLine ∧ (a == sysModules) = false ∧ ∃ vs, KV kvs vs ∧ h.DictOf (mixKind P w) a vs
  | .dT kvs => kvs.length ≤ sizeLine ∧ (a == sysModules) = false ∧ ∃ xs : List (List Key × Addr × Value),
      Paired (fun (p : List Key × V) (q : List Key × Addr × Value) => p.1 = q.1 ∧ H q.2.1 = some (.tup (p.1.map kV)) ∧ RelV p.2 q.2.2) kvs xs ∧
      ∃ o es ep, h.get? a = some o ∧ o.ExactDict ∧ o.data = .dict es ep ∧ es.toList = xs.map (entryOfKey (tupleKind (mixKind P w))) ∧ (xs.map (·.1)).Nodup
  | .set S n => h.SetOf (intKind P w) a S n
  | .ins C dx fs => H dx = some (.own a) ∧ fs.length ≤ 1000 ∧ dx ≠ a ∧ h.get? a = some (PySem.W.instObj C dx) ∧
      ∃ mA, h.Ns1 dx mA ∧ (∀ f, RelO (fs.lookup f) (mA f)) ∧ PySem.Within mA (fs.map (·.1))
  | .own _ => ∃ o, h.get? a = some o
  | .xd fs => ∃ mA, h.Ns1 a mA ∧ ∀ f, RelO (fs.lookup f) (mA f)
  | .rng lo hi => ∃ t u v, h.get? a = some { cls := .type "range", data := .fields #[.int lo t, .int hi u, .int 1 v] }
  | .frz o u => h.get? a = some o ∧ ObjOk H h a u
  | .tbl ps => h.get? a = some { cls := .none, data := .fields ps }
  | .met f x => h.get? a = some (PySem.W.methodObj (.ref f) (.ref x))
  | .ext φ => φ h ∧ (∃ o, h.get? a = some o) ∧ ∀ h1 h2 : Heap, φ h1 → (∀ o, h1.get? a = some o → h2.get? a = some o) → φ h2
def HOk (H : Hp) (h : Heap) : Prop := ∀ a o, H a = some o → ObjOk P w H h a o
end
section
variable {P : Program} {w : World} {H H' : Hp} {h h' : Heap} {a : Addr} {o : HO}
theorem ObjOk.lt (x : ObjOk P w H h a o) : a < h.objs.size := by
  cases o with
  | lst xs => obtain ⟨_, _, _, _, e⟩ := x; exact Heap.lt_size e
  | tup xs => obtain ⟨_, _, _, p⟩ := x; exact p.lt
  | dK kvs => obtain ⟨_, _, _, _, o, _, _, e, _⟩ := x; exact Heap.lt_size e
  | dT kvs => obtain ⟨_, _, _, _, o, _, _, e, _⟩ := x; exact Heap.lt_size e
  | set S n => obtain ⟨o, _, _, _, e, _⟩ := x; exact Heap.lt_size e
  | ins C dx fs => obtain ⟨_, _, _, e, _⟩ := x; exact Heap.lt_size e
  | own y => obtain ⟨_, e⟩ := x; exact Heap.lt_size e
  | xd fs => obtain ⟨_, ⟨_, _, _, e, _⟩, _⟩ := x; exact Heap.lt_size e
  | rng lo hi => obtain ⟨_, _, _, e⟩ := x; exact Heap.lt_size e
  | frz ob u => obtain ⟨e, _⟩ := x; exact Heap.lt_size e
  | tbl ps => exact Heap.lt_size (show h.get? a = some _ from x)
  | met f y => exact Heap.lt_size (show h.get? a = some _ from x)
  | ext φ => obtain ⟨_, ⟨_, e⟩, _⟩ := x; exact Heap.lt_size e
theorem Paired.mapP {α β : Type} {F G : α → β → Prop} : ∀ {l₁ : List α} {l₂ : List β}, Paired F l₁ l₂ → (∀ a b, F a b → G a b) → Paired G l₁ l₂
  | _, _, .nil, _ => .nil
  | _, _, .cons r t, f => .cons (f _ _ r) (Paired.mapP t f)
theorem ObjOk.stay (x : ObjOk P w H h a o) (k : ∀ b u, (b = a ∨ H b = some (.own a)) → h.get? b = some u → h'.get? b = some u)
    (ho : ∀ b, H b = some (.own a) → H' b = some (.own a)) (ht : ∀ b xs, H b = some (.tup xs) → H' b = some (.tup xs)) : ObjOk P w H' h' a o := by
  induction o with
  | lst xs => obtain ⟨z, its, n, r, e⟩ := x; exact ⟨z, its, n, r, k _ _ (.inl rfl) e⟩
  | tup xs => obtain ⟨z, its, r, ob, e, c⟩ := x; exact ⟨z, its, r, ob, k _ _ (.inl rfl) e, c⟩
  | dK kvs => obtain ⟨z, y, vs, r, ob, es, ep, e, c⟩ := x; exact ⟨z, y, vs, r, ob, es, ep, k _ _ (.inl rfl) e, c⟩
  | dT kvs =>
    obtain ⟨z, y, xs, r, ob, es, ep, e, c⟩ := x
    exact ⟨z, y, xs, Paired.mapP r fun p q z => ⟨z.1, ht _ _ z.2.1, z.2.2⟩, ob, es, ep, k _ _ (.inl rfl) e, c⟩
  | set S n => obtain ⟨ob, es, ep, t, e, c⟩ := x; exact ⟨ob, es, ep, t, k _ _ (.inl rfl) e, c⟩
  | ins C dx fs =>
    obtain ⟨d, z, ne, e, mA, ⟨od, es, ep, e2, c⟩, r⟩ := x
    exact ⟨ho _ d, z, ne, k _ _ (.inl rfl) e, mA, ⟨od, es, ep, k _ _ (.inr d) e2, c⟩, r⟩
  | own y => obtain ⟨ob, e⟩ := x; exact ⟨ob, k _ _ (.inl rfl) e⟩
  | xd fs => obtain ⟨mA, ⟨od, es, ep, e, c⟩, r⟩ := x; exact ⟨mA, ⟨od, es, ep, k _ _ (.inl rfl) e, c⟩, r⟩
  | rng lo hi => obtain ⟨t, u, v, e⟩ := x; exact ⟨t, u, v, k _ _ (.inl rfl) e⟩
  | frz ob u ih => obtain ⟨e, q⟩ := x; exact ⟨k _ _ (.inl rfl) e, ih q⟩
  | tbl ps =>
    have e : h.get? a = some { cls := .none, data := .fields ps } := x
    show h'.get? a = some { cls := .none, data := .fields ps }
    exact k a _ (.inl rfl) e
  | met f y =>
    have e : h.get? a = some (PySem.W.methodObj (.ref f) (.ref y)) := x
    show h'.get? a = some (PySem.W.methodObj (.ref f) (.ref y))
    exact k a _ (.inl rfl) e
  | ext φ => obtain ⟨p, ⟨o, e⟩, st⟩ := x; exact ⟨st _ _ p fun o q => k _ _ (.inl rfl) q, ⟨o, k _ _ (.inl rfl) e⟩, st⟩
theorem HOk.lt (x : HOk P w H h) (e : H a = some o) : a < h.objs.size := (x a o e).lt
theorem HOk.fresh (x : HOk P w H h) (e : h.objs.size ≤ a) : H a = none := by
  cases q : H a with
  | none => rfl
  | some u => exact absurd (Nat.lt_of_lt_of_le (x.lt q) e) (Nat.lt_irrefl _)
theorem HOk.kept (x : HOk P w H h) (k : ∀ b u, h.get? b = some u → h'.get? b = some u) : HOk P w H h' := fun a o e =>
  (x a o e).stay (fun b u _ q => k b u q) (fun _ q => q) fun _ _ q => q
theorem HOk.laid (x : HOk P w H h) (k : ∀ b u, h.get? b = some u → h'.get? b = some u) (hp : h.objs.size ≤ a) (new : ObjOk P w (upd H a o) h' a o) : HOk P w (upd H a o) h' := fun b u e => by
  have hn := x.fresh hp
  by_cases hb : b = a
  · subst hb; rw [upd_same] at e; cases e; exact new
  · rw [upd_ne hb] at e
    exact (x b u e).stay (fun c v _ q => k c v q) (fun c q => by rw [upd_ne (ne_of_none q hn)]; exact q) fun c xs q => by rw [upd_ne (ne_of_none q hn)]; exact q
end
def Rd (H : Hp) (a : Addr) (u : HO) : Prop := H a = some u ∨ ∃ o, H a = some (.frz o u)
theorem Rd.of {H : Hp} {a : Addr} {u : HO} (h : H a = some u) : Rd H a u := .inl h
theorem Rd.ok {P : Program} {w : World} {H : Hp} {h : Heap} {a : Addr} {u : HO} (r : Rd H a u) (x : HOk P w H h) : ObjOk P w H h a u := by
  rcases r with r | ⟨o, r⟩
  · exact x a u r
  · obtain ⟨_, q⟩ := x a _ r
    exact q
def Mut : Option HO → Prop
  | some (.lst _) => True
  | some (.dK _) => True
  | some (.dT _) => True
  | some (.set _ _) => True
  | some (.ins _ _ _) => True
  | some (.ext _) => True
  | _ => False
section
variable {P : Program} {w : World} {H : Hp} {h h' : Heap} {x e : Addr} {o' : HO}
theorem HOk.write (ok : HOk P w H h) (mu : Mut (H x)) (he : e = x ∨ H e = some (.own x)) (k : ∀ b u, b ≠ e → h.get? b = some u → h'.get? b = some u) (heo : ∃ u, h'.get? e = some u)
    (new : ObjOk P w (upd H x o') h' x o') : HOk P w (upd H x o') h' := fun b u q => by
  have nown : ∀ c y, H c = some (.own y) → c ≠ x := fun c y r z => by subst z; rw [r] at mu; exact mu
  have ntup : ∀ c xs, H c = some (.tup xs) → c ≠ x := fun c xs r z => by subst z; rw [r] at mu; exact mu
  by_cases hb : b = x
  · subst hb; rw [upd_same] at q; cases q; exact new
  · rw [upd_ne hb] at q
    by_cases hbe : b = e
    · have q' : H b = some (.own x) := by
        rcases he with z | z
        · exact absurd (hbe.trans z) hb
        · rw [hbe]; exact z
      rw [q] at q'; cases q'
      obtain ⟨v, hv⟩ := heo
      exact ⟨v, by rw [hbe]; exact hv⟩
    · refine (ok b u q).stay (fun c v hc r => k c v ?_ r) (fun c r => by rw [upd_ne (nown c b r)]; exact r) fun c xs r => by rw [upd_ne (ntup c xs r)]; exact r
      rcases hc with rfl | hc
      · exact hbe
      · rintro rfl
        rcases he with z | z
        · exact nown c b hc z
        · rw [hc] at z; cases z; exact hb rfl
end
structure Un (fs ex : List Addr) (H H' : Hp) (h h' : Heap) : Prop where
  keep : ∀ b o, h.get? b = some o → H b = none → b ∉ fs → b ∉ ex → h'.get? b = some o
  slot : ∀ b o, h.get? b = some o → H b = none → b ∈ fs → b ∉ ex → ∃ sl, h'.get? b = some { o with slots := sl }
  free : ∀ b o, h.get? b = some o → H b = none → b ∉ ex → H' b = none
  there : ∀ b o, h.get? b = some o → b ∉ ex → ∃ o', h'.get? b = some o'
  tups : ∀ b xs, H b = some (.tup xs) → H' b = some (.tup xs)
  frzs : ∀ b o u, H b = some (.frz o u) → H' b = some (.frz o u)
  tbls : ∀ b ps, H b = some (.tbl ps) → ∃ more, H' b = some (.tbl (ps ++ more))
section
variable {fs fs' ex ex' : List Addr} {H H1 H2 : Hp} {h h1 h2 h' : Heap} {a x e : Addr} {o : HO}
theorem Un.any (u : Un fs ex H H1 h h1) {b : Addr} {ob : Obj} (q : h.get? b = some ob) (n : H b = none) (hx : b ∉ ex) : ∃ sl, h1.get? b = some { ob with slots := sl } := by
  by_cases hb : b ∈ fs
  · exact u.slot b ob q n hb hx
  · exact ⟨ob.slots, u.keep b ob q n hb hx⟩
theorem Un.trans (a : Un fs ex H H1 h h1) (b : Un fs ex H1 H2 h1 h2) : Un fs ex H H2 h h2 where
  keep := fun c ob q n hc hx => b.keep c ob (a.keep c ob q n hc hx) (a.free c ob q n hx) hc hx
  slot := fun c ob q n hc hx => by
    obtain ⟨sl, e1⟩ := a.slot c ob q n hc hx
    obtain ⟨sl', e2⟩ := b.slot c _ e1 (a.free c ob q n hx) hc hx
    exact ⟨sl', e2⟩
  free := fun c ob q n hx => by
    obtain ⟨o', e1⟩ := a.there c ob q hx
    exact b.free c o' e1 (a.free c ob q n hx) hx
  there := fun c ob q hx => by
    obtain ⟨o', e1⟩ := a.there c ob q hx
    exact b.there c o' e1 hx
  tups := fun c xs q => b.tups c xs (a.tups c xs q)
  frzs := fun c ob xs q => b.frzs c ob xs (a.frzs c ob xs q)
  tbls := fun c ps q => by
    obtain ⟨m1, e1⟩ := a.tbls c ps q
    obtain ⟨m2, e2⟩ := b.tbls c _ e1
    exact ⟨m1 ++ m2, by rw [e2, Array.append_assoc]⟩
theorem Un.kept (k : ∀ b u, h.get? b = some u → h'.get? b = some u) : Un fs ex H H h h' :=
  ⟨fun b ob q _ _ _ => k b ob q, fun b ob q _ _ _ => ⟨ob.slots, k b ob q⟩, fun _ _ _ n _ => n, fun b ob q _ => ⟨ob, k b ob q⟩, fun _ _ q => q, fun _ _ _ q => q, fun _ ps q => ⟨#[], by rw [q]; simp⟩⟩
theorem Un.refl : Un fs ex H H h h := Un.kept fun _ _ q => q
theorem Un.laid (k : ∀ b u, h.get? b = some u → h'.get? b = some u) (hp : h.objs.size ≤ a) (hn : H a = none) : Un fs ex H (upd H a o) h h' where
  keep := fun b u q _ _ _ => k b u q
  slot := fun b u q _ _ _ => ⟨u.slots, k b u q⟩
  free := fun b u q n _ => by rw [upd_ne (Nat.ne_of_lt (Nat.lt_of_lt_of_le (Heap.lt_size q) hp))]; exact n
  there := fun b u q _ => ⟨u, k b u q⟩
  tups := fun b xs q => by rw [upd_ne (ne_of_none q hn)]; exact q
  frzs := fun b u xs q => by rw [upd_ne (ne_of_none q hn)]; exact q
  tbls := fun b ps q => ⟨#[], by rw [upd_ne (ne_of_none q hn), q]; simp⟩
theorem Un.write (mu : Mut (H x)) (he : e = x ∨ H e = some (.own x)) (k : ∀ b u, b ≠ e → h.get? b = some u → h'.get? b = some u) (heo : ∃ u, h'.get? e = some u) : Un fs ex H (upd H x o) h h' := by
  have hx : ∀ b, H b = none → b ≠ x := fun b n z => by subst z; rw [n] at mu; exact mu
  have hb : ∀ b, H b = none → b ≠ e := fun b n z => by
    subst z
    rcases he with r | r
    · exact hx b n r
    · rw [n] at r; cases r
  have hm : ∀ b u, H b = some u → ¬ Mut (some u) → b ≠ x := fun b u q nm z => by subst z; rw [q] at mu; exact nm mu
  refine ⟨fun b u q n _ _ => k b u (hb b n) q, fun b u q n _ _ => ⟨u.slots, k b u (hb b n) q⟩, fun b u q n _ => by rw [upd_ne (hx b n)]; exact n, fun b u q _ => ?_,
    fun b xs q => by rw [upd_ne (hm b _ q fun z => z)]; exact q, fun b u xs q => by rw [upd_ne (hm b _ q fun z => z)]; exact q, fun b ps q => ⟨#[], by rw [upd_ne (hm b _ q fun z => z), q]; simp⟩⟩
  by_cases hbe : b = e
  · subst hbe; exact heo
  · exact ⟨u, k b u hbe q⟩
theorem Un.mono (u : Un fs ex H H1 h h1) (hs : ∀ b ∈ fs, b ∈ fs') (hx : ∀ b ∈ ex, b ∈ ex') : Un fs' ex' H H1 h h1 :=
  ⟨fun b ob q n hb he => u.keep b ob q n (fun z => hb (hs b z)) fun z => he (hx b z), fun _ _ q n _ he => u.any q n fun z => he (hx _ z), fun b ob q n he => u.free b ob q n fun z => he (hx b z), fun b ob q he => u.there b ob q fun z => he (hx b z), u.tups, u.frzs, u.tbls⟩
end
def trk (h : Heap) (H : Hp) : List Addr := (List.range h.objs.size).filter fun a => (H a).isSome
def hidT (h : Heap) (H : Hp) : Heap := PySem.W.hideAll h (trk h H)
theorem hidT_size (h : Heap) (H : Hp) : (hidT h H).objs.size = h.objs.size := PySem.W.hideAll_size _ _
theorem hidT_get {h : Heap} {H : Hp} {b : Addr} {o : Obj} (e : h.get? b = some o) (n : H b = none) : (hidT h H).get? b = some o :=
  PySem.W.hideAll_get _ e fun hm => by
    have q : (H b).isSome = true := (List.mem_filter.mp hm).2
    rw [n] at q; simp at q
theorem of_hidT {h : Heap} {H : Hp} {b : Addr} {o : Obj} (e : (hidT h H).get? b = some o) : h.get? b = some o ∧ H b = none := by
  have e' : h.get? b = some o := PySem.W.of_hideAll (trk h H) e
  refine ⟨e', ?_⟩
  cases q : H b with
  | none => rfl
  | some x =>
    have hm : b ∈ trk h H := List.mem_filter.mpr ⟨List.mem_range.mpr (Heap.lt_size e'), by simp [q]⟩
    have z : (hidT h H).get? b = none := PySem.W.hideAll_none (trk h H) hm
    rw [z] at e; cases e
def allNews (g h : Heap) (L : Addr) : List (Addr × Obj) := (List.range h.objs.size).filterMap fun a => if a = L ∨ (g.get? a).isSome = true then none else (h.get? a).map fun o => (a, o)
def rest (g h : Heap) (L d : Addr) : List (Addr × Obj) := (allNews g h L).filter fun p => decide (p.1 ≠ d)
end L2
namespace L2
open PySem PySem.Spec PyProof.Rows
structure Mod (K : PySem.W.Frag) (mg : Str → Option Value) (base : Heap) : Prop where
  kin : K.In base
  glob : base.Ns mainGlobals mg
  blt : ∃ mb, base.Ns builtinsNs mb ∧ ∀ x : Str, x ≠ "__name__" → mb x = bootBuiltins x
  nolimit : base.NoLimit
structure Cx where
  prog : Program
  w : World
  K : PySem.W.Frag
  mg : Str → Option Value
  base : Heap
  A : Around
  N : List Str
  s₀ : Shared
  H₀ : Hp
  env : Env
  outer : List Env
  stack : List Env
  ex : List Addr
  fn : Str → Bool
  calm : Bool
  pn : List (Addr × Obj)
  xe : Value → Shared → Prop
def frs (l : List Env) : List Addr := l.filterMap (·.frame)
abbrev Cx.fs (X : Cx) : List Addr := frs X.outer
def Vis (sc : Scope) (x : Str) : Prop := sc.names.lookup x = some .local ∨ sc.names.lookup x = some .cell ∨ sc.names.lookup x = some .free
def Loc (sc : Scope) (x : Str) : Prop := sc.names.lookup x = some .local ∨ sc.names.lookup x = some .cell
def Look (env : Env) (h : Heap) (m : Str → Option Value) (x : Str) (u : Value) : Prop :=
  (env.kindOf x = some .local ∧ m x = some u) ∨ ((env.kindOf x = some .cell ∨ env.kindOf x = some .free) ∧ ∃ c, env.cells.lookup x = some c ∧ h.IsCell c (some u))
structure Cx.Ok (X : Cx) : Prop where
  mod : Mod X.K X.mg X.base
  kind : X.env.scope.kind = .function
  glob : X.env.globals = mainGlobals
  blt : X.env.builtins = builtinsNs
  above : X.s₀.heap.objs.size ≤ X.env.locals
  inj : ∀ x y c, X.env.cells.lookup x = some c → X.env.cells.lookup y = some c → x = y
  has : ∀ x, (X.env.kindOf x = some .cell ∨ X.env.kindOf x = some .free) → ∃ c, X.env.cells.lookup x = some c
  cab : ∀ x c, X.fn x = true → X.env.cells.lookup x = some c → X.s₀.heap.objs.size ≤ c
  hd : X.calm = true → X.A.handled = none
  frames : X.A.frames = some X.stack
  stk : X.stack = X.outer ∨ (X.stack = X.env :: X.outer ∧ X.env.frame = some X.env.locals)
  exf : ∀ b ∈ X.ex, b ≠ X.env.locals ∧ ∀ x c, X.env.cells.lookup x = some c → c ≠ b
  bs : ∀ b o, X.base.get? b = some o → X.s₀.heap.get? b = some o ∧ X.H₀ b = none
  bsz : X.base.objs.size ≤ X.s₀.heap.objs.size
  noex : ∀ b o, X.base.get? b = some o → b ∉ X.ex
  exfs : ∀ b ∈ X.ex, b ∉ X.fs
  funs : X.s₀.heap.FunFrames X.base X.outer
  frf : ∀ b ∈ X.fs, X.H₀ b = none
structure Inv (X : Cx) (pins : List (Addr × Obj)) (σ : List (Option V)) (H : Hp) (s : Shared) : Prop where
  ok : X.Ok
  os : s.os = X.s₀.os
  bare : AllBare s.gens
  base : Un X.fs X.ex X.H₀ H X.s₀.heap s.heap
  loc : ∃ m, s.heap.Ns X.env.locals m ∧ ∀ (i : Nat) (x : Str) (v : V), X.N[i]? = some x → σ[i]? = some (some v) → Vis X.env.scope x → ∃ u, RelV v u ∧ Look X.env s.heap m x u
  cell : ∀ x c, X.env.cells.lookup x = some c → ∃ v, s.heap.IsCell c v
  free : H X.env.locals = none
  freeC : ∀ x c, X.env.cells.lookup x = some c → H c = none
  pin : ∀ p ∈ X.pn ++ pins, s.heap.get? p.1 = some p.2 ∧ H p.1 = none ∧ p.1 ≠ X.env.locals ∧ p.1 ∉ X.fs ∧ ∀ v, p.2.data ≠ .cell v
  hok : HOk X.prog X.w H s.heap
  len : σ.length = X.N.length
section
variable {X : Cx} {pins : List (Addr × Obj)} {σ : List (Option V)} {H H' : Hp} {s : Shared} {h' : Heap}
theorem Cx.Ok.nofr (ok : X.Ok) {b : Addr} {o : Obj} (e : X.base.get? b = some o) : b ∉ X.fs := fun hb => by
  have := (ok.funs.mem hb).1
  rw [e] at this; cases this
theorem Inv.bs (I : Inv X pins σ H s) : ∀ b o, X.base.get? b = some o → s.heap.get? b = some o ∧ H b = none := fun b o e =>
  ⟨I.base.keep b o (I.ok.bs b o e).1 (I.ok.bs b o e).2 (I.ok.nofr e) (I.ok.noex b o e), I.base.free b o (I.ok.bs b o e).1 (I.ok.bs b o e).2 (I.ok.noex b o e)⟩
theorem Inv.bk (I : Inv X pins σ H s) : ∀ b o, X.base.get? b = some o → s.heap.get? b = some o := fun b o e => (I.bs b o e).1
theorem Inv.mod (I : Inv X pins σ H s) : Mod X.K X.mg X.base := I.ok.mod
theorem Inv.kIn (I : Inv X pins σ H s) : X.K.In s.heap := I.ok.mod.kin.keeps I.bk
theorem Inv.nolimit (I : Inv X pins σ H s) : s.heap.NoLimit := I.ok.mod.nolimit.keeps I.bk
theorem Inv.fr (I : Inv X pins σ H s) : ∃ m, Fr X.base X.env.locals s.heap m :=
  let ⟨m, hn, _⟩ := I.loc
  ⟨m, hn, I.bk, Nat.le_trans I.ok.bsz I.ok.above⟩
theorem Inv.lt (I : Inv X pins σ H s) : X.env.locals < s.heap.objs.size := let ⟨_, hn, _⟩ := I.loc; hn.lt
theorem Inv.sz (I : Inv X pins σ H s) : X.s₀.heap.objs.size ≤ s.heap.objs.size := Nat.le_trans I.ok.above (Nat.le_of_lt I.lt)
theorem Inv.nofs (I : Inv X pins σ H s) {a : Addr} (h : s.heap.objs.size ≤ a) : a ∉ X.fs := fun hb => by
  obtain ⟨_, o, ho, _⟩ := I.ok.funs.mem hb
  exact absurd (Nat.lt_of_lt_of_le (Heap.lt_size ho) (Nat.le_trans I.sz h)) (Nat.lt_irrefl _)
theorem Inv.cne (I : Inv X pins σ H s) : ∀ x c, X.env.cells.lookup x = some c → c ≠ X.env.locals := fun x c e z => by
  obtain ⟨v, o, ho, hd⟩ := I.cell x c e
  obtain ⟨m, ⟨o', es, ep, ho', hd', _⟩, _⟩ := I.loc
  rw [z, ho'] at ho; cases ho; rw [hd'] at hd; cases hd
theorem Inv.funs (I : Inv X pins σ H s) : s.heap.FunFrames X.base X.outer := by
  have all : ∀ (l : List Env), (∀ b ∈ frs l, b ∈ X.fs) → X.s₀.heap.FunFrames X.base l → s.heap.FunFrames X.base l := by
    intro l
    induction l with
    | nil => intro _ _; trivial
    | cons env r ih =>
      intro hs hl
      obtain ⟨hk, ⟨L, o, hf, hn, ho, hd⟩, hr⟩ := hl
      have hL : L ∈ X.fs := hs L (by unfold frs; rw [List.filterMap_cons, hf]; exact List.mem_cons_self)
      obtain ⟨sl, e⟩ := I.base.slot L o ho (I.ok.frf L hL) hL fun z => I.ok.exfs L z hL
      exact ⟨hk, ⟨L, _, hf, hn, e, hd⟩, ih (fun b hb => hs b (by unfold frs; rw [List.filterMap_cons, hf]; exact List.mem_cons_of_mem _ hb)) hr⟩
  exact all X.outer (fun _ hb => hb) I.ok.funs
theorem Inv.stack (I : Inv X pins σ H s) : s.heap.FunFrames X.base X.stack := by
  rcases I.ok.stk with e | ⟨e, hf⟩
  · rw [e]; exact I.funs
  · rw [e]
    obtain ⟨m, hn, _⟩ := I.loc
    refine .cons (by rw [I.ok.kind]; decide) hf hn ?_ I.funs
    exact Heap.get?_none_of_le (Nat.le_trans I.ok.bsz I.ok.above)
theorem Inv.stkSub (I : Inv X pins σ H s) : ∀ b ∈ frs X.stack, b ∈ X.env.locals :: X.fs := fun b hb => by
  rcases I.ok.stk with e | ⟨e, hf⟩
  · rw [e] at hb; exact List.mem_cons_of_mem _ hb
  · rw [e] at hb
    unfold frs at hb
    rw [List.filterMap_cons, hf] at hb
    exact hb
theorem Inv.stkFree (I : Inv X pins σ H s) : ∀ b ∈ frs X.stack, H b = none := fun b hb => by
  rcases List.mem_cons.mp (I.stkSub b hb) with e | hb
  · rw [e]; exact I.free
  · obtain ⟨_, o, ho, _⟩ := I.ok.funs.mem hb
    exact I.base.free b o ho (I.ok.frf b hb) fun z => I.ok.exfs b z hb
theorem Inv.step {g' : Array GenState} {t' : Nat} {d' : Drawn} {ch : List Addr} (I : Inv X pins σ H s)
    (hch : ∀ b ∈ ch, (b ∈ X.ex ∨ X.s₀.heap.objs.size ≤ b) ∧ b ≠ X.env.locals ∧ (∀ x c, X.env.cells.lookup x = some c → c ≠ b) ∧ ∀ p ∈ X.pn ++ pins, p.1 ≠ b)
    (keep : ∀ b o, b ≠ X.env.locals → b ∉ X.fs → b ∉ ch → s.heap.get? b = some o → H b = none → h'.get? b = some o)
    (slot : ∀ b o, b ≠ X.env.locals → b ∈ X.fs → b ∉ ch → s.heap.get? b = some o → H b = none → ∃ sl, h'.get? b = some { o with slots := sl }) (free : ∀ b o, b ∉ ch → s.heap.get? b = some o → H b = none → H' b = none)
    (there : ∀ b o, b ∉ ch → s.heap.get? b = some o → ∃ o', h'.get? b = some o')
    (tups : ∀ b xs, H b = some (.tup xs) → H' b = some (.tup xs)) (frzs : ∀ b o u, H b = some (.frz o u) → H' b = some (.frz o u)) (tbls : ∀ b ps, H b = some (.tbl ps) → ∃ more, H' b = some (.tbl (ps ++ more)))
    (ns : ∀ m, s.heap.Ns X.env.locals m → h'.Ns X.env.locals m) (hok : HOk X.prog X.w H' h') (hg : AllBare g') :
    Inv X pins σ H' { s with heap := h', gens := g', drawn := d', toks := t' } := by
  have neL : ∀ b o, X.s₀.heap.get? b = some o → b ≠ X.env.locals := fun b o e => Nat.ne_of_lt (Nat.lt_of_lt_of_le (Heap.lt_size e) I.ok.above)
  have neC : ∀ b o, X.s₀.heap.get? b = some o → b ∉ X.ex → b ∉ ch := fun b o e hx hb => by
    rcases (hch b hb).1 with z | z
    · exact hx z
    · exact absurd (Nat.lt_of_lt_of_le (Heap.lt_size e) z) (Nat.lt_irrefl _)
  have cellK : ∀ x c, X.env.cells.lookup x = some c → ∀ v, s.heap.IsCell c v → h'.IsCell c v := fun x c e v ⟨o, ho, hd⟩ => by
    have nch : c ∉ ch := fun z => (hch c z).2.2.1 x c e rfl
    by_cases hc : c ∈ X.fs
    · obtain ⟨sl, q⟩ := slot c o (I.cne x c e) hc nch ho (I.freeC x c e)
      exact ⟨_, q, hd⟩
    · exact ⟨o, keep c o (I.cne x c e) hc nch ho (I.freeC x c e), hd⟩
  refine ⟨I.ok, I.os, hg, ⟨fun b o e n hb hx => ?_, fun b o e n hb hx => ?_, fun b o e n hx => ?_, fun b o e hx => ?_, fun b xs e => tups b xs (I.base.tups b xs e), fun b o xs e => frzs b o xs (I.base.frzs b o xs e), fun b ps e => ?_⟩, ?_, fun x c e => ?_, ?_, fun x c e => ?_, fun p hp => ?_, hok, I.len⟩
  · exact keep b o (neL b o e) hb (neC b o e hx) (I.base.keep b o e n hb hx) (I.base.free b o e n hx)
  · obtain ⟨sl, e1⟩ := I.base.slot b o e n hb hx
    obtain ⟨sl', e2⟩ := slot b _ (neL b o e) hb (neC b o e hx) e1 (I.base.free b o e n hx)
    exact ⟨sl', e2⟩
  · obtain ⟨o', e1⟩ := I.base.there b o e hx
    exact free b o' (neC b o e hx) e1 (I.base.free b o e n hx)
  · obtain ⟨o', e1⟩ := I.base.there b o e hx
    exact there b o' (neC b o e hx) e1
  · obtain ⟨m1, e1⟩ := I.base.tbls b ps e
    obtain ⟨m2, e2⟩ := tbls b _ e1
    exact ⟨m1 ++ m2, by rw [e2, Array.append_assoc]⟩
  · obtain ⟨m, hn, hl⟩ := I.loc
    refine ⟨m, ns m hn, fun i x v e1 e2 e3 => ?_⟩
    obtain ⟨u, r, l⟩ := hl i x v e1 e2 e3
    refine ⟨u, r, ?_⟩
    rcases l with l | ⟨k, c, e, z⟩
    · exact .inl l
    · exact .inr ⟨k, c, e, cellK x c e _ z⟩
  · obtain ⟨v, z⟩ := I.cell x c e
    exact ⟨v, cellK x c e v z⟩
  · obtain ⟨m, ⟨o, _, _, ho, _⟩, _⟩ := I.loc
    exact free _ o (fun z => (hch _ z).2.1 rfl) ho I.free
  · obtain ⟨v, o, ho, hd⟩ := I.cell x c e
    exact free c o (fun z => (hch c z).2.2.1 x c e rfl) ho (I.freeC x c e)
  · obtain ⟨e, n, ne, nf, d⟩ := I.pin p hp
    have nch : p.1 ∉ ch := fun z => (hch p.1 z).2.2.2 p hp rfl
    exact ⟨keep p.1 p.2 ne nf nch e n, free p.1 p.2 nch e n, ne, nf, d⟩
theorem Inv.un {t' : Nat} (I : Inv X pins σ H s) (u : Un X.fs [] H H' s.heap h') (hok : HOk X.prog X.w H' h') : Inv X pins σ H' { s with heap := h', toks := t' } := by
  obtain ⟨m, ⟨o, es, ep, ho, r⟩, _⟩ := id I.loc
  obtain ⟨sl, hL⟩ := u.any ho I.free (by simp)
  exact I.step (g' := s.gens) (d' := s.drawn) (ch := []) (fun _ z => nomatch z) (fun b o _ hb _ e n => u.keep b o e n hb (by simp)) (fun b o _ hb _ e n => u.slot b o e n hb (by simp)) (fun b o _ e n => u.free b o e n (by simp)) (fun b o _ e => u.there b o e (by simp)) u.tups u.frzs u.tbls (fun m' hm => by
    obtain ⟨o', es', ep', ho', r'⟩ := hm
    rw [ho] at ho'; cases ho'
    exact ⟨_, es', ep', hL, r'⟩) hok I.bare
theorem Inv.call {g' : Array GenState} {t' : Nat} {d' : Drawn} {ch : List Addr} (I : Inv X pins σ H s) (u : Un (frs X.stack) ch H H' s.heap h') (hok : HOk X.prog X.w H' h') (hg : AllBare g')
    (hch : ∀ b ∈ ch, (b ∈ X.ex ∨ X.s₀.heap.objs.size ≤ b) ∧ b ≠ X.env.locals ∧ (∀ x c, X.env.cells.lookup x = some c → c ≠ b) ∧ ∀ p ∈ X.pn ++ pins, p.1 ≠ b) :
    Inv X pins σ H' { s with heap := h', gens := g', drawn := d', toks := t' } := by
  obtain ⟨m, ⟨o, es, ep, ho, r⟩, _⟩ := id I.loc
  obtain ⟨sl, hL⟩ := u.any ho I.free fun z => (hch _ z).2.1 rfl
  exact I.step (ch := ch) hch (fun b o hL hb hc e n => u.keep b o e n (fun z => (List.mem_cons.mp (I.stkSub b z)).elim hL hb) hc) (fun b o _ _ hc e n => u.any e n hc) (fun b o hc e n => u.free b o e n hc) (fun b o hc e => u.there b o e hc) u.tups u.frzs u.tbls (fun m' hm => by
    obtain ⟨o', es', ep', ho', r'⟩ := hm
    rw [ho] at ho'; cases ho'
    exact ⟨_, es', ep', hL, r'⟩) hok hg
theorem Inv.turned {t' : Nat} {it : Addr} (I : Inv X pins σ H s) (k : ∀ b o, b ≠ it → s.heap.get? b = some o → h'.get? b = some o) (hn : H it = none) (hL : it ≠ X.env.locals)
    (h1 : it ∈ X.ex ∨ X.s₀.heap.objs.size ≤ it) (h2 : ∀ x c, X.env.cells.lookup x = some c → c ≠ it) (h3 : ∀ p ∈ X.pn ++ pins, p.1 ≠ it) : Inv X pins σ H { s with heap := h', toks := t' } := by
  have nit : ∀ b u, H b = some u → b ≠ it := fun b u e z => by rw [z, hn] at e; cases e
  refine I.step (g' := s.gens) (d' := s.drawn) (ch := [it]) (fun b hb => ?_) (fun b o _ _ hc e _ => k b o (fun z => hc (by simp [z])) e) (fun b o _ _ hc e _ => ⟨o.slots, k b o (fun z => hc (by simp [z])) e⟩) (fun _ _ _ _ n => n)
    (fun b o hc e => ⟨o, k b o (fun z => hc (by simp [z])) e⟩) (fun _ _ e => e) (fun _ _ _ e => e) (fun b ps e => ⟨#[], by rw [e]; simp⟩) (fun m hm => ?_) (fun b u e => ?_) I.bare
  · have e : b = it := by simpa using hb
    subst e
    exact ⟨h1, hL, h2, h3⟩
  · obtain ⟨o, es, ep, ho, r⟩ := hm
    exact ⟨o, es, ep, k _ o (Ne.symm hL) ho, r⟩
  · refine (I.hok b u e).stay (fun c v hc q => k c v ?_ q) (fun _ q => q) fun _ _ q => q
    rcases hc with z | z
    · rw [z]; exact nit b u e
    · exact nit c _ z
theorem Inv.tok (I : Inv X pins σ H s) (t : Nat) : Inv X pins σ H { s with toks := t } := I.un (h' := s.heap) (t' := t) Un.refl I.hok
theorem Inv.kept {t' : Nat} (I : Inv X pins σ H s) (k : ∀ b u, s.heap.get? b = some u → h'.get? b = some u) : Inv X pins σ H { s with heap := h', toks := t' } := I.un (Un.kept k) (I.hok.kept k)
theorem Inv.laid {a : Addr} {o : HO} {t' : Nat} (I : Inv X pins σ H s) (k : ∀ b u, s.heap.get? b = some u → h'.get? b = some u) (hp : s.heap.objs.size ≤ a) (new : ObjOk X.prog X.w (upd H a o) h' a o) :
    Inv X pins σ (upd H a o) { s with heap := h', toks := t' } := I.un (Un.laid k hp (I.hok.fresh hp)) (I.hok.laid k hp new)
theorem Inv.write {x e : Addr} {o : HO} {t' : Nat} (I : Inv X pins σ H s) (mu : Mut (H x)) (he : e = x ∨ H e = some (.own x)) (k : ∀ b u, b ≠ e → s.heap.get? b = some u → h'.get? b = some u) (heo : ∃ u, h'.get? e = some u)
    (new : ObjOk X.prog X.w (upd H x o) h' x o) : Inv X pins σ (upd H x o) { s with heap := h', toks := t' } := I.un (Un.write mu he k heo) (I.hok.write mu he k heo new)
theorem Inv.pins_of {pins' : List (Addr × Obj)} (I : Inv X pins σ H s) (h : ∀ p ∈ pins', s.heap.get? p.1 = some p.2 ∧ H p.1 = none ∧ p.1 ≠ X.env.locals ∧ p.1 ∉ X.fs ∧ ∀ v, p.2.data ≠ .cell v) : Inv X pins' σ H s :=
  ⟨I.ok, I.os, I.bare, I.base, I.loc, I.cell, I.free, I.freeC, fun p hp => (List.mem_append.mp hp).elim (fun z => I.pin p (List.mem_append_left _ z)) (h p), I.hok, I.len⟩
theorem nodup_ix {N : List Str} (hN : N.Nodup) {i j : Nat} {x : Str} (a : N[i]? = some x) (b : N[j]? = some x) : i = j := by
  obtain ⟨h1, e1⟩ := List.getElem?_eq_some_iff.mp a
  obtain ⟨h2, e2⟩ := List.getElem?_eq_some_iff.mp b
  exact (List.getElem_inj hN).mp (e1.trans e2.symm)
theorem store_ok2 {M : Model} {A : Around} {E : Value → Shared → Prop} {i : Nat} {x : Str} {v : V} {u : Value} {Q : Unit → Shared → Prop} (I : Inv X pins σ H s) (hN : X.N.Nodup) (hi : X.N[i]? = some x) (hx : Loc X.env.scope x) (r : RelV v u)
    (h : ∀ s', Inv X pins (σ.set i (some v)) H s' → (∃ a, Heap.SameBut a s.heap s'.heap ∧ (a = X.env.locals ∨ X.env.cells.lookup x = some a)) → Q () s') (hf : X.fn x = true ∨ X.env.scope.names.lookup x = some .local := by first | exact .inl rfl | exact .inr rfl | assumption) : wpAny M A (storeName X.env x u) Q E s := by
  obtain ⟨m, hn, hl⟩ := id I.loc
  have hcls : (X.env.scope.kind == .class || (X.env.scope.kind == .module && X.env.locals != X.env.globals)) = false := by rw [I.ok.kind]; rfl
  have hiσ : i < σ.length := by rw [I.len]; exact (List.getElem?_eq_some_iff.mp hi).1
  have cne := I.cne
  have tracked : ∀ {a : Addr} {h' : Heap}, (∃ o, s.heap.get? a = some o ∧ H a = none) → Heap.SameBut a s.heap h' → HOk X.prog X.w H h' := fun {a h'} ha hs b ob e => by
    obtain ⟨_, _, hfree⟩ := ha
    refine (I.hok b ob e).stay (fun c w' hc q => (hs.2 c ?_).trans q) (fun _ q => q) fun _ _ q => q
    rintro rfl
    rcases hc with rfl | hc
    · rw [hfree] at e; cases e
    · rw [hfree] at hc; cases hc
  rcases hx with hk | hk
  · refine wpAny_storeName_local hk hn (fun h' hn' hs => ?_) hcls
    obtain ⟨oL, _, _, hoL, _⟩ := id hn
    refine h _ ⟨I.ok, I.os, I.bare, ⟨fun b o e n hb hx => ?_, fun b o e n hb hx => ?_, I.base.free, fun b o e hx => ?_, I.base.tups, I.base.frzs, I.base.tbls⟩, ⟨_, hn', fun j y v' e1 e2 e3 => ?_⟩, fun y c e => ?_, I.free, I.freeC, fun p hp => ?_, tracked ⟨oL, hoL, I.free⟩ hs, by simpa using I.len⟩ ⟨_, hs, .inl rfl⟩
    · exact (hs.2 b (Nat.ne_of_lt (Nat.lt_of_lt_of_le (Heap.lt_size e) I.ok.above))).trans (I.base.keep b o e n hb hx)
    · obtain ⟨sl, e1⟩ := I.base.slot b o e n hb hx
      exact ⟨sl, (hs.2 b (Nat.ne_of_lt (Nat.lt_of_lt_of_le (Heap.lt_size e) I.ok.above))).trans e1⟩
    · obtain ⟨o', e1⟩ := I.base.there b o e hx
      exact ⟨o', (hs.2 b (Nat.ne_of_lt (Nat.lt_of_lt_of_le (Heap.lt_size e) I.ok.above))).trans e1⟩
    · by_cases hj : j = i
      · subst hj
        rw [hi] at e1; cases e1
        rw [List.getElem?_set_self hiσ] at e2
        cases e2
        exact ⟨u, r, .inl ⟨hk, by simp⟩⟩
      · rw [List.getElem?_set_ne (Ne.symm hj)] at e2
        obtain ⟨u', r', q⟩ := hl j y v' e1 e2 e3
        refine ⟨u', r', ?_⟩
        rcases q with ⟨k, e⟩ | ⟨k, c, e, z⟩
        · refine .inl ⟨k, ?_⟩
          have : y ≠ x := fun e => hj (nodup_ix hN e1 (e ▸ hi))
          simp [this, e]
        · exact .inr ⟨k, c, e, z.sameBut hs (cne y c e)⟩
    · obtain ⟨w', z⟩ := I.cell y c e
      exact ⟨w', z.sameBut hs (cne y c e)⟩
    · obtain ⟨e, n, ne, nf, d⟩ := I.pin p hp
      exact ⟨(hs.2 p.1 ne).trans e, n, ne, nf, d⟩
  · have hfn : X.fn x = true := by
      rcases hf with z | z
      · exact z
      · rw [z] at hk; cases hk
    obtain ⟨c, hc⟩ := I.ok.has x (.inl hk)
    obtain ⟨w', z⟩ := I.cell x c hc
    refine wpAny_storeName_cell I.ok.kind hk hc z (fun h' hc' hs => ?_)
    obtain ⟨oc, hoc, hocd⟩ := id z
    refine h { s with heap := h' } ⟨I.ok, I.os, I.bare, ⟨fun b o e n hb hx => ?_, fun b o e n hb hx => ?_, I.base.free, fun b o e hx => ?_, I.base.tups, I.base.frzs, I.base.tbls⟩, ⟨m, hn.sameBut hs (Ne.symm (cne x c hc)), fun j y v' e1 e2 e3 => ?_⟩, fun y c' e => ?_, I.free, I.freeC, fun p hp => ?_, tracked ⟨oc, hoc, I.freeC x c hc⟩ hs, by simpa using I.len⟩ ⟨c, hs, .inr hc⟩
    · exact (hs.2 b (Nat.ne_of_lt (Nat.lt_of_lt_of_le (Heap.lt_size e) (I.ok.cab x c hfn hc)))).trans (I.base.keep b o e n hb hx)
    · obtain ⟨sl, e1⟩ := I.base.slot b o e n hb hx
      exact ⟨sl, (hs.2 b (Nat.ne_of_lt (Nat.lt_of_lt_of_le (Heap.lt_size e) (I.ok.cab x c hfn hc)))).trans e1⟩
    · obtain ⟨o', e1⟩ := I.base.there b o e hx
      exact ⟨o', (hs.2 b (Nat.ne_of_lt (Nat.lt_of_lt_of_le (Heap.lt_size e) (I.ok.cab x c hfn hc)))).trans e1⟩
    · by_cases hj : j = i
      · subst hj
        rw [hi] at e1; cases e1
        rw [List.getElem?_set_self hiσ] at e2
        cases e2
        exact ⟨u, r, .inr ⟨.inl hk, c, hc, hc'⟩⟩
      · rw [List.getElem?_set_ne (Ne.symm hj)] at e2
        obtain ⟨u', r', q⟩ := hl j y v' e1 e2 e3
        refine ⟨u', r', ?_⟩
        rcases q with q | ⟨k, c', e, z'⟩
        · exact .inl q
        · refine .inr ⟨k, c', e, z'.sameBut hs ?_⟩
          rintro rfl
          exact hj (nodup_ix hN e1 (I.ok.inj _ _ _ e hc ▸ hi))
    · by_cases hcc : c' = c
      · subst hcc; exact ⟨_, hc'⟩
      · obtain ⟨w2, z2⟩ := I.cell y c' e
        exact ⟨w2, z2.sameBut hs hcc⟩
    · obtain ⟨e, n, ne, nf, d⟩ := I.pin p hp
      refine ⟨(hs.2 p.1 ?_).trans e, n, ne, nf, d⟩
      intro q
      rw [q, hoc] at e
      have q' : oc = p.2 := Option.some.inj e
      exact d w' (by rw [← q']; exact hocd)
theorem store_ok {M : Model} {A : Around} {E : Value → Shared → Prop} {i : Nat} {x : Str} {v : V} {u : Value} {Q : Unit → Shared → Prop} (I : Inv X pins σ H s) (hN : X.N.Nodup) (hi : X.N[i]? = some x) (hx : Loc X.env.scope x) (r : RelV v u)
    (h : ∀ s', Inv X pins (σ.set i (some v)) H s' → Q () s') (hf : X.fn x = true ∨ X.env.scope.names.lookup x = some .local := by first | exact .inl rfl | exact .inr rfl | assumption) : wpAny M A (storeName X.env x u) Q E s :=
  store_ok2 I hN hi hx r (fun s' I' _ => h s' I') hf
theorem Inv.call' {s' : Shared} {ch : List Addr} (I : Inv X pins σ H s) (ho : s'.os = s.os) (u : Un (frs X.stack) ch H H' s.heap s'.heap) (hok : HOk X.prog X.w H' s'.heap) (hg : AllBare s'.gens)
    (hch : ∀ b ∈ ch, (b ∈ X.ex ∨ X.s₀.heap.objs.size ≤ b) ∧ b ≠ X.env.locals ∧ (∀ x c, X.env.cells.lookup x = some c → c ≠ b) ∧ ∀ p ∈ X.pn ++ pins, p.1 ≠ b) : Inv X pins σ H' s' := by
  obtain ⟨h', g', d', t', o'⟩ := s'
  have e : o' = s.os := ho
  subst e
  exact I.call (g' := g') (t' := t') (d' := d') u hok hg hch
end
abbrev XK := Value → Option Addr → Hp → Prop
abbrev St := List (Option V)
abbrev VK := V → Hp → Prop
abbrev TE := St → Hp → VK → Prop
abbrev TT := St → Hp → (Bool → Hp → Prop) → Prop
abbrev TA := St → Hp → (List V → Hp → Prop) → Prop
structure Ends where
  nx : St → Hp → Prop
  rt : VK
  bk : St → Hp → Prop := fun _ _ => False
  ct : St → Hp → Prop := fun _ _ => False
abbrev TS := Ends → St → Hp → Prop
def EP (X : Cx) (pins : List (Addr × Obj)) (σ : St) (Q : VK) (u : Value) (s' : Shared) : Prop := ∃ v H', Inv X pins σ H' s' ∧ RelV v u ∧ Q v H'
def TP (X : Cx) (pins : List (Addr × Obj)) (σ : St) (Q : Bool → Hp → Prop) (b : Bool) (s' : Shared) : Prop := ∃ H', Inv X pins σ H' s' ∧ Q b H'
def AP (X : Cx) (pins : List (Addr × Obj)) (σ : St) (Q : List V → Hp → Prop) (us : List Value) (s' : Shared) : Prop := ∃ vs H', Inv X pins σ H' s' ∧ Vals vs us ∧ Q vs H'
def SP (X : Cx) (pins : List (Addr × Obj)) (D : Ends) (f : Flow) (s' : Shared) : Prop :=
  match f with
  | .next => ∃ σ' H', Inv X pins σ' H' s' ∧ D.nx σ' H'
  | .brk => ∃ σ' H', Inv X pins σ' H' s' ∧ D.bk σ' H'
  | .cont => ∃ σ' H', Inv X pins σ' H' s' ∧ D.ct σ' H'
  | .ret u => ∃ v σ' H', Inv X pins σ' H' s' ∧ RelV v u ∧ D.rt v H'
def PE (X : Cx) (e : Expr) (t : TE) : Prop :=
  ∀ (pins : List (Addr × Obj)) (s : Shared) (σ : St) (H : Hp) (Q : VK), Inv X pins σ H s → t σ H Q → wpAny (model X.prog X.w) X.A (eval e X.env) (EP X pins σ Q) X.xe s
def PT (X : Cx) (e : Expr) (t : TT) : Prop :=
  ∀ (pins : List (Addr × Obj)) (s : Shared) (σ : St) (H : Hp) (Q : Bool → Hp → Prop), Inv X pins σ H s → t σ H Q → wpAny (model X.prog X.w) X.A (isTrue e X.env (eval e X.env)) (TP X pins σ Q) X.xe s
def PW (X : Cx) (e : Expr) (t : TT) : Prop :=
  ∀ (whole : Sem Value) (pins : List (Addr × Obj)) (s : Shared) (σ : St) (H : Hp) (Q : Bool → Hp → Prop), Inv X pins σ H s → t σ H Q → wpAny (model X.prog X.w) X.A (isTrue e X.env whole) (TP X pins σ Q) X.xe s
theorem PW.pt {X : Cx} {e : Expr} {t : TT} (h : PW X e t) : PT X e t := h _
def PA (X : Cx) (es : List Expr) (t : TA) : Prop :=
  ∀ (pos : Pos) (pins : List (Addr × Obj)) (s : Shared) (σ : St) (H : Hp) (Q : List V → Hp → Prop), Inv X pins σ H s → t σ H Q → wpAny (model X.prog X.w) X.A (spliced (backTo pos (starEach es X.env))) (AP X pins σ Q) X.xe s
def PS (X : Cx) (st : Stmt) (t : TS) : Prop :=
  ∀ (pins : List (Addr × Obj)) (s : Shared) (σ : St) (H : Hp) (D : Ends), Inv X pins σ H s → t D σ H → wpAny (model X.prog X.w) X.A (exec st X.env) (SP X pins D) X.xe s
def PSs (X : Cx) (st : List Stmt) (t : TS) : Prop :=
  ∀ (pins : List (Addr × Obj)) (s : Shared) (σ : St) (H : Hp) (D : Ends), Inv X pins σ H s → t D σ H → wpAny (model X.prog X.w) X.A (execs st X.env) (SP X pins D) X.xe s
theorem thn {α : Type} {t : Sem α} {Q Q' : α → Shared → Prop} {M : Model} {A : Around} {E : Value → Shared → Prop} {s : Shared} (h : wpAny M A t Q E s) (hQ : ∀ a s, Q a s → Q' a s) : wpAny M A t Q' E s := wpAny_mono h hQ fun _ _ x => x
end L2
namespace L2
open PySem PySem.Spec PyProof.Rows
section
variable {X : Cx}
def tVar (i : Nat) : TE := fun σ H Q => ∃ v, σ[i]? = some (some v) ∧ Q v H
def tC (v : V) : TE := fun _ H Q => Q v H
theorem pe_var {i : Nat} {x : Str} {pos : Pos} (hN : X.N[i]? = some x) (hv : Vis X.env.scope x) (hd : (x == ("__debug__" : Str)) = false := by decide) (hcd : (x == ("__classdict__" : Str)) = false := by decide) : PE X (.Name x pos) (tVar i) := by
  intro pins s σ H Q I h
  obtain ⟨v, e, h⟩ := h
  obtain ⟨m, hn, hl⟩ := I.loc
  obtain ⟨u, r, l⟩ := hl i x v hN e hv
  have fin : EP X pins σ Q u s := ⟨v, H, I, r, h⟩
  rcases l with ⟨hk, hm⟩ | ⟨hk, c, hc, hcell⟩
  · exact wpAny_Name (wpAny_loadName_local I.ok.kind hk hn hm fin) hd
  · rcases hk with hk | hk
    · exact wpAny_Name (wpAny_loadName_cell I.ok.kind hk hc hcell fin) hd
    · exact wpAny_Name (wpAny_loadName_free I.ok.kind hk hc hcell fin hcd) hd
theorem pe_int {i j pos} : PE X (.Constant (.int i) j pos) (tC (.int i)) := fun _ _ _ H _ I h => wpAny_Constant_int ⟨.int i, H, I.tok _, ⟨_, rfl⟩, h⟩
theorem pe_bl {b j pos} : PE X (.Constant (.bool b) j pos) (tC (.bl b)) := fun _ _ _ H _ I h => Constant_bool ⟨.bl b, H, I, rfl, h⟩
theorem pe_non {j pos} : PE X (.Constant .none j pos) (tC .non) := fun _ _ _ H _ I h => Constant_none ⟨.non, H, I, rfl, h⟩
theorem pe_str {x j pos} : PE X (.Constant (.str x) j pos) (tC (.str x)) := fun _ _ _ H _ I h => Calls.Constant_str ⟨.str x, H, I.tok _, ⟨_, rfl⟩, h⟩
def Gl (X : Cx) (x : Str) : Prop := X.env.kindOf x = some .globalImplicit
theorem ld_glob {E : Value → Shared → Prop} {pins : List (Addr × Obj)} {s : Shared} {σ : St} {H : Hp} {x : Str} {u : Value} {pos : Pos} {Q : Value → Shared → Prop} (I : Inv X pins σ H s) (hg : Gl X x) (hm : X.mg x = some u) (h : Q u s)
    (hd : (x == ("__debug__" : Str)) = false := by decide) : wpAny (model X.prog X.w) X.A (eval (.Name x pos) X.env) Q E s :=
  Calls.Name_function_global I.ok.kind hg (Calls.loadGlobal_global (by rw [I.ok.glob]; exact I.mod.glob.keeps I.bk) hm h) hd
theorem ld_blt {E : Value → Shared → Prop} {pins : List (Addr × Obj)} {s : Shared} {σ : St} {H : Hp} {x : Str} {u : Value} {pos : Pos} {Q : Value → Shared → Prop} (I : Inv X pins σ H s) (hg : Gl X x) (hm : X.mg x = none) (hv : bootBuiltins x = some u) (h : Q u s)
    (hn : x ≠ "__name__" := by decide) (hd : (x == ("__debug__" : Str)) = false := by decide) : wpAny (model X.prog X.w) X.A (eval (.Name x pos) X.env) Q E s := by
  obtain ⟨mb, h1, h2⟩ := I.mod.blt
  exact Calls.Name_function_global I.ok.kind hg (Calls.loadGlobal_builtin (by rw [I.ok.glob]; exact I.mod.glob.keeps I.bk) hm (by rw [I.ok.blt]; exact h1.keeps I.bk) ((h2 x hn).trans hv) h) hd
theorem pe_bltn {x : Str} {v : V} {u : Value} {pos : Pos} (hg : Gl X x) (hm : X.mg x = none) (hv : bootBuiltins x = some u) (r : RelV v u) (hn : x ≠ "__name__" := by decide) (hd : (x == ("__debug__" : Str)) = false := by decide) : PE X (.Name x pos) (tC v) :=
  fun _ _ _ H _ I h => ld_blt I hg hm hv ⟨v, H, I, r, h⟩ hn hd
variable {a b : Expr} {ta tb : TE} {pos : Pos}
def PC (X : Cx) (op : CmpOp) (a b : Expr) (t : TE) : Prop :=
  ∀ (pins : List (Addr × Obj)) (s : Shared) (σ : St) (H : Hp) (Q : VK), Inv X pins σ H s → t σ H Q →
    wpAny (model X.prog X.w) X.A (eval a X.env) (fun v s₁ => wpAny (model X.prog X.w) X.A (eval b X.env) (fun u s₂ => wpAny (model X.prog X.w) X.A (compareOp op v u) (EP X pins σ Q) X.xe s₂) X.xe s₁) X.xe s
theorem nobehind (b : Expr) {op : CmpOp} (h : op ≠ .In) (h2 : op ≠ .NotIn) : behindInMarks op b = false := by
  have e1 : (op == CmpOp.In) = false := by cases op <;> first | rfl | exact absurd rfl h
  have e2 : (op == CmpOp.NotIn) = false := by cases op <;> first | rfl | exact absurd rfl h2
  cases b <;> simp [behindInMarks, e1, e2]
def tB (t : TE) : TT := fun σ H Q => t σ H fun x H1 => ∃ c, x = .bl c ∧ Q c H1
theorem pt_cmp {op : CmpOp} {t : TE} (h : PC X op a b t) (h1 : behindInMarks op b = false := by first | exact nobehind _ (by decide) (by decide) | rfl) : PT X (.Compare a [op] [b] pos) (tB t) := by
  intro pins s σ H Q I hw
  refine wpAny_isTrue_Compare1 (thn (h pins s σ H _ I hw) fun v s1 h1 => thn h1 fun u s2 h2 => thn h2 fun c s3 ⟨x, H1, I1, r1, q1⟩ => ?_) h1
  obtain ⟨d, rfl, q⟩ := q1
  cases r1
  exact wpAny_truthy_bool ⟨H1, I1, q⟩
theorem pt_val {e : Expr} {t : TE} (h : PE X e t) (he : ∀ whole, isTrue e X.env whole = (do let v ← whole; standAt e.pos; holding [v] (truthy v)) := by intro _; rfl) : PT X e (tB t) := by
  intro pins s σ H Q I hw
  refine isTrue_plain (thn (h pins s σ H _ I hw) fun v s1 ⟨x, H1, I1, r1, q1⟩ => ?_) (he _)
  obtain ⟨d, rfl, q⟩ := q1
  cases r1
  exact wpAny_truthy_bool ⟨H1, I1, q⟩
variable {tA tB' : TT} {rest : List Expr}
def tAnd (t u : TT) : TT := fun σ H Q => t σ H fun c H1 => if c = true then u σ H1 Q else Q false H1
def tOr (t u : TT) : TT := fun σ H Q => t σ H fun c H1 => if c = true then Q true H1 else u σ H1 Q
def tNot (t : TT) : TT := fun σ H Q => t σ H fun c H1 => Q (!c) H1
theorem pw_and1 (ha : PT X a tA) : PW X (.BoolOp .And [a] pos) tA := by
  intro wh pins s σ H Q I h
  refine isTrue_and (thn (ha pins s σ H Q I h) fun c s1 e => ?_)
  cases c with
  | true => exact isTrue_and_nil e
  | false => exact e
theorem pw_or1 (ha : PT X a tA) : PW X (.BoolOp .Or [a] pos) tA := by
  intro wh pins s σ H Q I h
  refine isTrue_or (thn (ha pins s σ H Q I h) fun c s1 e => ?_)
  cases c with
  | false => exact isTrue_or_nil e
  | true => exact e
theorem pw_and (ha : PT X a tA) (hb : PW X (.BoolOp .And (b :: rest) pos) tB') : PW X (.BoolOp .And (a :: b :: rest) pos) (tAnd tA tB') := by
  intro wh pins s σ H Q I h
  refine isTrue_and (thn (ha pins s σ H _ I h) fun c s1 ⟨H1, I1, q1⟩ => ?_)
  cases c with
  | true => exact hb wh pins s1 σ H1 Q I1 q1
  | false => exact ⟨H1, I1, q1⟩
theorem pw_or (ha : PT X a tA) (hb : PW X (.BoolOp .Or (b :: rest) pos) tB') : PW X (.BoolOp .Or (a :: b :: rest) pos) (tOr tA tB') := by
  intro wh pins s σ H Q I h
  refine isTrue_or (thn (ha pins s σ H _ I h) fun c s1 ⟨H1, I1, q1⟩ => ?_)
  cases c with
  | true => exact ⟨H1, I1, q1⟩
  | false => exact hb wh pins s1 σ H1 Q I1 q1
theorem pt_not (ha : PT X a tA) : PT X (.UnaryOp .Not a pos) (tNot tA) := by
  intro pins s σ H Q I h
  exact isTrue_not (ha pins s σ H (fun c H1 => Q (!c) H1) I h)
end
end L2
namespace L2
open PySem PySem.Spec PyProof.Rows
def SqL (K : PySem.W.Frag) (H : Hp) (a : Addr) (xs : List V) : Prop :=
  Rd H a (.lst xs) ∨
    ∃ (o : Obj) (its : Array Value) (n : Nat), K.lookup a = some o ∧ o.cls = .type "list" ∧ o.dict = none ∧ o.data = .seq its n ∧ its.size ≤ sizeLine ∧ Vals xs its.toList
def SqT (K : PySem.W.Frag) (H : Hp) (a : Addr) (xs : List V) : Prop :=
  Rd H a (.tup xs) ∨
    ∃ (o : Obj) (its : Array Value) (n : Nat), K.lookup a = some o ∧ o.cls = .type "tuple" ∧ o.data = .seq its n ∧ its.size ≤ sizeLine ∧ Vals xs its.toList
def absV : Value → Option V
  | .none => some .non
  | .bool b => some (.bl b)
  | .int i _ => some (.int i)
  | .str x _ => some (.str x)
  | .bytes b _ => some (.byt b)
  | .float b _ => some (.flt b)
  | .ref a => some (.ref a)
  | .type n => some (.ty n)
  | _ => none
theorem RelV.abs {x : V} {u : Value} (r : RelV x u) : absV u = some x := by
  cases x with
  | non => cases r; rfl
  | bl _ => cases r; rfl
  | int _ => obtain ⟨t, rfl⟩ := r; rfl
  | str _ => obtain ⟨t, rfl⟩ := r; rfl
  | byt _ => obtain ⟨t, rfl⟩ := r; rfl
  | flt _ => obtain ⟨t, rfl⟩ := r; rfl
  | ref _ => cases r; rfl
  | ty _ => cases r; rfl
theorem RelV.inj {x y : V} {u : Value} (r : RelV x u) (q : RelV y u) : x = y := Option.some.inj (r.abs.symm.trans q.abs)
theorem Vals.inj : ∀ {xs ys : List V} {us : List Value}, Vals xs us → Vals ys us → xs = ys
  | _, _, _, .nil, .nil => rfl
  | _, _, _, .cons r t, .cons r' t' => by rw [r.inj r', Vals.inj t t']
section
variable {X : Cx} {pins : List (Addr × Obj)} {σ : St} {H : Hp} {s : Shared} {a : Addr} {xs ys : List V}
theorem SqL.of {K : PySem.W.Frag} (h : H a = some (.lst xs)) : SqL K H a xs := .inl (.inl h)
theorem SqT.of {K : PySem.W.Frag} (h : H a = some (.tup xs)) : SqT K H a xs := .inl (.inl h)
theorem Inv.list (I : Inv X pins σ H s) (h : SqL X.K H a xs) : ∃ its : List Value, Vals xs its ∧ PlainL s.heap a its.toArray ∧ xs.length ≤ sizeLine := by
  rcases h with h | ⟨o, its, n, hk, hc, hd, hs, hz, r⟩
  · obtain ⟨z, its, n, r, e⟩ := h.ok I.hok
    exact ⟨its, r, ⟨_, n, e, rfl, rfl, rfl⟩, z⟩
  · refine ⟨its.toList, r, ⟨o, n, I.kIn a o hk, hc, hd, by simpa using hs⟩, ?_⟩
    have e := r.length
    simp only [Array.length_toList] at e
    omega
theorem Inv.tuple (I : Inv X pins σ H s) (h : SqT X.K H a xs) : ∃ its : List Value, Vals xs its ∧ IsTup s.heap a its.toArray ∧ xs.length ≤ sizeLine := by
  rcases h with h | ⟨o, its, n, hk, hc, hs, hz, r⟩
  · obtain ⟨z, its, r, p⟩ := h.ok I.hok
    exact ⟨its, r, p, z⟩
  · refine ⟨its.toList, r, ⟨o, I.kIn a o hk, hc, n, by simpa using hs⟩, ?_⟩
    have e := r.length
    simp only [Array.length_toList] at e
    omega
theorem Inv.list_inj (I : Inv X pins σ H s) (h : SqL X.K H a xs) (h' : SqL X.K H a ys) : xs = ys := by
  obtain ⟨its, r, ⟨o, n, e, _, _, d⟩, _⟩ := I.list h
  obtain ⟨its', r', ⟨o', n', e', _, _, d'⟩, _⟩ := I.list h'
  rw [e] at e'; cases e'
  rw [d] at d'
  injection d' with d1 _
  have : its = its' := by simpa using congrArg Array.toList d1
  subst this
  exact r.inj r'
theorem Inv.tuple_inj (I : Inv X pins σ H s) (h : SqT X.K H a xs) (h' : SqT X.K H a ys) : xs = ys := by
  obtain ⟨its, r, ⟨o, e, _, n, d⟩, _⟩ := I.tuple h
  obtain ⟨its', r', ⟨o', e', _, n', d'⟩, _⟩ := I.tuple h'
  rw [e] at e'; cases e'
  rw [d] at d'
  injection d' with d1 _
  have : its = its' := by simpa using congrArg Array.toList d1
  subst this
  exact r.inj r'
end
abbrev Cx.wish (X : Cx) (E : Value → Shared → Prop) : Cx := { X with xe := E }
abbrev Cx.nox (X : Cx) : Cx := X.wish fun _ _ => False
theorem Cx.Ok.wish {X : Cx} (ok : X.Ok) (E : Value → Shared → Prop) : (X.wish E).Ok :=
  ⟨ok.mod, ok.kind, ok.glob, ok.blt, ok.above, ok.inj, ok.has, ok.cab, ok.hd, ok.frames, ok.stk, ok.exf, ok.bs, ok.bsz, ok.noex, ok.exfs, ok.funs, ok.frf⟩
theorem Cx.Ok.unwish {X : Cx} {E : Value → Shared → Prop} (ok : (X.wish E).Ok) : X.Ok :=
  ⟨ok.mod, ok.kind, ok.glob, ok.blt, ok.above, ok.inj, ok.has, ok.cab, ok.hd, ok.frames, ok.stk, ok.exf, ok.bs, ok.bsz, ok.noex, ok.exfs, ok.funs, ok.frf⟩
section
variable {X : Cx} {pins : List (Addr × Obj)} {σ : St} {H : Hp} {s : Shared} {E : Value → Shared → Prop}
theorem Inv.wish (I : Inv X pins σ H s) (E : Value → Shared → Prop) : Inv (X.wish E) pins σ H s := ⟨I.ok.wish E, I.os, I.bare, I.base, I.loc, I.cell, I.free, I.freeC, I.pin, I.hok, I.len⟩
theorem Inv.unwish (I : Inv (X.wish E) pins σ H s) : Inv X pins σ H s := ⟨I.ok.unwish, I.os, I.bare, I.base, I.loc, I.cell, I.free, I.freeC, I.pin, I.hok, I.len⟩
theorem SP.unwish {D : Ends} {f : Flow} {s' : Shared} (h : SP (X.wish E) pins D f s') : SP X pins D f s' := by
  cases f with
  | next => obtain ⟨σ', H', I, q⟩ := h; exact ⟨σ', H', I.unwish, q⟩
  | brk => obtain ⟨σ', H', I, q⟩ := h; exact ⟨σ', H', I.unwish, q⟩
  | cont => obtain ⟨σ', H', I, q⟩ := h; exact ⟨σ', H', I.unwish, q⟩
  | ret u => obtain ⟨v, σ', H', I, r, q⟩ := h; exact ⟨v, σ', H', I.unwish, r, q⟩
theorem PE.nox {e : Expr} {t : TE} (h : PE X.nox e t) : PE X e t := fun pins s σ H Q I hw =>
  wpAny_mono (h pins s σ H Q (I.wish _) hw) (fun _ _ ⟨v, H', I', r, q⟩ => ⟨v, H', I'.unwish, r, q⟩) fun _ _ z => False.elim z
theorem PT.nox {e : Expr} {t : TT} (h : PT X.nox e t) : PT X e t := fun pins s σ H Q I hw =>
  wpAny_mono (h pins s σ H Q (I.wish _) hw) (fun _ _ ⟨H', I', q⟩ => ⟨H', I'.unwish, q⟩) fun _ _ z => False.elim z
theorem PSs.nox {st : List Stmt} {t : TS} (h : PSs X.nox st t) : PSs X st t := fun pins s σ H D I hw =>
  wpAny_mono (h pins s σ H D (I.wish _) hw) (fun _ _ q => q.unwish) fun _ _ z => False.elim z
end
section
variable {X : Cx} {st : Stmt} {rest : List Stmt} {t u : TS} {e : Expr} {te : TE} {pos : Pos}
def tNext : TS := fun D σ H => D.nx σ H
def tSeq (t u : TS) : TS := fun D σ H => t { D with nx := u D } σ H
theorem pss_nil : PSs X [] tNext := fun _ _ σ H _ I h => wpAny_execs_nil ⟨σ, H, I, h⟩
theorem pss_cons (h1 : PS X st t) (h2 : PSs X rest u) : PSs X (st :: rest) (tSeq t u) := by
  intro pins s σ H D I h
  refine wpAny_execs_cons (thn (h1 pins s σ H { D with nx := u D } I h) fun f s1 q => ?_)
  cases f with
  | next =>
    obtain ⟨σ', H', I', q⟩ := q
    exact h2 pins s1 σ' H' D I' q
  | ret v => exact q
  | brk => exact q
  | cont => exact q
theorem pss_one (h1 : PS X st t) : PSs X [st] t := by
  intro pins s σ H D I h
  refine wpAny_execs_cons (thn (h1 pins s σ H D I h) fun f s1 q => ?_)
  cases f with
  | next => exact wpAny_execs_nil q
  | ret v => exact q
  | brk => exact q
  | cont => exact q
theorem Inv.quiet {pins : List (Addr × Obj)} {σ : St} {H : Hp} {s : Shared} (I : Inv X pins σ H s) : interactive X.env = false := by simp [interactive, I.ok.kind]
def tDrop (te : TE) : TS := fun D σ H => te σ H fun _ H1 => D.nx σ H1
theorem ps_expr (he : PE X e te) (hs : swapsWith e none pos.line X.env = pure false := by rfl) : PS X (.Expr e pos) (tDrop te) := by
  intro pins s σ H D I h
  exact wpAny_Expr_any (thn (he pins s σ H _ I h) fun v s1 ⟨x, H1, I1, r1, q1⟩ => ⟨σ, H1, I1, q1⟩) I.quiet hs
def tRet (te : TE) : TS := fun D σ H => te σ H D.rt
theorem ps_ret (he : PE X e te) : PS X (.Return (some e) pos) (tRet te) := by
  intro pins s σ H D I h
  exact wpAny_Return_some (thn (he pins s σ H _ I h) fun v s1 ⟨x, H1, I1, r1, q1⟩ => ⟨x, σ, H1, I1, r1, q1⟩)
def tIfS (c : TT) (t u : TS) : TS := fun D σ H => c σ H fun b H1 => if b = true then t D σ H1 else u D σ H1
theorem ps_if {c : Expr} {a b : List Stmt} {tc : TT} (hc : PT X c tc) (ha : PSs X a t) (hb : PSs X b u) : PS X (.If c a b pos) (tIfS tc t u) := by
  intro pins s σ H D I h
  refine wpAny_If (thn (hc pins s σ H _ I h) fun d s1 ⟨H1, I1, q1⟩ => ?_)
  cases d with
  | true => exact ha pins s1 σ H1 D I1 q1
  | false => exact hb pins s1 σ H1 D I1 q1
def tNever : TS := fun _ _ _ => False
theorem ps_never : PS X st tNever := fun _ _ _ _ _ _ h => h.elim
end
abbrev TG := V → St → Hp → (St → Hp → Prop) → Prop
abbrev TGs := List V → St → Hp → (St → Hp → Prop) → Prop
def PG (X : Cx) (target : Expr) (t : TG) : Prop :=
  ∀ (pins : List (Addr × Obj)) (s : Shared) (σ : St) (H : Hp) (v : V) (u : Value) (Q : St → Hp → Prop), Inv X pins σ H s → RelV v u → t v σ H Q →
    wpAny (model X.prog X.w) X.A (assign target X.env u) (fun _ s' => ∃ σ' H', Inv X pins σ' H' s' ∧ Q σ' H') X.xe s
def PGs (X : Cx) (ts : List Expr) (t : TGs) : Prop :=
  ∀ (pins : List (Addr × Obj)) (s : Shared) (σ : St) (H : Hp) (vs : List V) (us : List Value) (Q : St → Hp → Prop), Inv X pins σ H s → Vals vs us → t vs σ H Q →
    wpAny (model X.prog X.w) X.A (assignInOrder ((assignEach ts X.env).map (·.2)) us) (fun _ s' => ∃ σ' H', Inv X pins σ' H' s' ∧ Q σ' H') X.xe s
abbrev TSet := V → V → V → Hp → (Hp → Prop) → Prop
def PSet (X : Cx) (t : TSet) : Prop :=
  ∀ (pins : List (Addr × Obj)) (s : Shared) (σ : St) (H : Hp) (o i v : V) (ov iv u : Value) (Q : Hp → Prop), Inv X pins σ H s → RelV o ov → RelV i iv → RelV v u → t o i v H Q →
    wpAny (model X.prog X.w) X.A (setItem ov iv u) (fun _ s' => ∃ H', Inv X pins σ H' s' ∧ Q H') X.xe s
abbrev TIp := V → V → Hp → VK → Prop
def PIp (X : Cx) (op : Operator) (t : TIp) : Prop :=
  ∀ (pins : List (Addr × Obj)) (s : Shared) (σ : St) (H : Hp) (x y : V) (v u : Value) (Q : VK), Inv X pins σ H s → RelV x v → RelV y u → t x y H Q →
    wpAny (model X.prog X.w) X.A (inplaceOp op v u) (EP X pins σ Q) X.xe s
section
variable {X : Cx} {pos : Pos}
def gName (i : Nat) : TG := fun v σ H Q => Q (σ.set i (some v)) H
theorem pg_name {i : Nat} {x : Str} (hN : X.N.Nodup) (hi : X.N[i]? = some x) (hx : Loc X.env.scope x) (hf : X.fn x = true ∨ X.env.scope.names.lookup x = some .local := by first | exact .inl rfl | exact .inr rfl | assumption) : PG X (.Name x pos) (gName i) := by
  intro pins s σ H v u Q I r h
  exact wpAny_assign_Name (store_ok I hN hi hx r (fun s' I' => ⟨_, H, I', h⟩) hf)
def gNil : TGs := fun vs σ H Q => vs = [] ∧ Q σ H
def gCons (t : TG) (u : TGs) : TGs := fun vs σ H Q => ∃ v r, vs = v :: r ∧ t v σ H fun σ' H' => u r σ' H' Q
theorem pgs_nil : PGs X [] gNil := by
  intro pins s σ H vs us Q I r h
  obtain ⟨e, h⟩ := h
  subst e
  cases r
  exact assignInOrder_nil ⟨σ, H, I, h⟩
theorem pgs_cons {e : Expr} {es : List Expr} {t : TG} {u : TGs} (h1 : PG X e t) (h2 : PGs X es u)
    (hs : (assignEach (e :: es) X.env).map (·.2) = assign e X.env :: (assignEach es X.env).map (·.2) := by rfl) : PGs X (e :: es) (gCons t u) := by
  intro pins s σ H vs us Q I r h
  obtain ⟨v, vr, e1, h⟩ := h
  subst e1
  cases r with
  | cons r rr =>
    rw [hs]
    refine assignInOrder_cons (thn (h1 pins s σ H _ _ _ I r h) fun _ s1 ⟨σ1, H1, I1, q1⟩ => ?_)
    exact h2 pins s1 σ1 H1 _ _ Q I1 rr q1
def gTup (K : PySem.W.Frag) (n : Nat) (t : TGs) : TG := fun v σ H Q => ∃ a xs, v = .ref a ∧ SqT K H a xs ∧ xs.length = n ∧ t xs σ H Q
theorem pg_tup {es : List Expr} {k : Nat} {t : TGs} {n : Nat} (hc : X.calm = true) (h : PGs X es t)
    (hn : (assignEach es X.env).length = n := by rfl) (hst : (assignEach es X.env).findIdx? (·.1) = none := by rfl) : PG X (.Tuple es k pos) (gTup X.K n t) := by
  intro pins s σ H v u Q I r hw
  obtain ⟨a, xs, e1, hq, hl, hw⟩ := hw
  subst e1
  cases r
  obtain ⟨its, rv, ht, hz⟩ := I.tuple hq
  refine assign_Tuple_tuple (I.ok.hd hc) ht (by simp [hn, ← hl, rv.length]) hst fun h' hx => ?_
  have I1 : Inv X pins σ H { s with heap := h' } := I.kept (t' := s.toks) fun b o e => hx b o (Nat.ne_of_lt (Heap.lt_size e)) e
  exact h pins _ σ H xs _ Q I1 (by simpa using rv) hw
def gSub (to ti : TE) (t : TSet) : TG := fun v σ H Q => to σ H fun o H1 => ti σ H1 fun i H2 => t o i v H2 fun H3 => Q σ H3
theorem pg_sub {o i : Expr} {to ti : TE} {t : TSet} (ho : PE X o to) (hi : PE X i ti) (hs : PSet X t)
    (ha : ∀ v, assign (.Subscript o i pos) X.env v = (do
      let ov ← holding [v] (eval o X.env)
      let iv ← holding [v, ov] (eval i X.env)
      standAt pos
      holding [v, ov, iv] (setItem ov iv v)
      release [v, ov, iv] []) := by intro _; rfl) : PG X (.Subscript o i pos) (gSub to ti t) := by
  intro pins s σ H v u Q I r h
  rw [ha]
  refine wpAny_bind (wpAny_holding (thn (ho pins s σ H _ I h) fun ov s1 ⟨x, H1, I1, r1, q1⟩ => ?_))
  refine wpAny_bind (wpAny_holding (thn (hi pins s1 σ H1 _ I1 q1) fun iv s2 ⟨y, H2, I2, r2, q2⟩ => ?_))
  refine wpAny_bind (wpAny_standAt (wpAny_bind (wpAny_holding (thn (hs pins s2 σ H2 x y v ov iv u _ I2 r1 r2 r q2) fun _ s3 ⟨H3, I3, q3⟩ => ?_))))
  exact wpAny_release ⟨σ, H3, I3, q3⟩
def tAsg (te : TE) (g : TG) : TS := fun D σ H => te σ H fun x H1 => g x σ H1 D.nx
theorem ps_asg {tg e : Expr} {te : TE} {g : TG} (he : PE X e te) (hg : PG X tg g) (hs : swapsWithSole [tg] e pos.line X.env = pure false := by rfl) (hw : swappedStores [tg] e X.env = pure none := by rfl)
    (h1 : (assignEach [tg] X.env).map (·.2) = [assign tg X.env] := by rfl) : PS X (.Assign [tg] e pos) (tAsg te g) := by
  intro pins s σ H D I h
  refine wpAny_Assign_stores (thn (he pins s σ H _ I h) fun v s1 ⟨x, H1, I1, r1, q1⟩ => ?_) hs hw
  rw [h1]
  exact thn (hg pins s1 σ H1 x v _ I1 r1 q1) fun _ s2 q => q
theorem ps_set {i : Nat} {x : Str} {e : Expr} {te : TE} {pos' : Pos} (hN : X.N.Nodup) (hi : X.N[i]? = some x) (hx : Loc X.env.scope x) (he : PE X e te) (hs : swapsWith e (some (.Name x pos')) pos.line X.env = pure false := by rfl) (hf : X.fn x = true ∨ X.env.scope.names.lookup x = some .local := by first | exact .inl rfl | exact .inr rfl | assumption) :
    PS X (.Assign [.Name x pos'] e pos) (tAsg te (gName i)) := by
  intro pins s σ H D I h
  refine wpAny_Assign_Name (thn (he pins s σ H _ I h) fun v s1 ⟨y, H1, I1, r1, q1⟩ => ?_) hs
  exact store_ok I1 hN hi hx r1 (fun s2 I2 => ⟨_, H1, I2, q1⟩) hf
def tAug (i : Nat) (te : TE) (ti : TIp) : TS := fun D σ H => ∃ x, σ[i]? = some (some x) ∧ te σ H fun y H1 => ti x y H1 fun z H2 => D.nx (σ.set i (some z)) H2
theorem ps_aug {i : Nat} {x : Str} {e : Expr} {te : TE} {op : Operator} {ti : TIp} {pos' : Pos} (hN : X.N.Nodup) (hi : X.N[i]? = some x) (hx : Loc X.env.scope x) (he : PE X e te) (ho : PIp X op ti) (hf : X.fn x = true ∨ X.env.scope.names.lookup x = some .local := by first | exact .inl rfl | exact .inr rfl | assumption) :
    PS X (.AugAssign (.Name x pos') op e pos) (tAug i te ti) := by
  intro pins s σ H D I h
  obtain ⟨v, e1, h⟩ := h
  obtain ⟨m, hn, hl⟩ := I.loc
  have vis : Vis X.env.scope x := by rcases hx with k | k; exact .inl k; exact .inr (.inl k)
  obtain ⟨u, r, l⟩ := hl i x v hi e1 vis
  refine wpAny_AugAssign_Name ?_
  have go : wpAny (model X.prog X.w) X.A (eval e X.env) (fun w s₂ => wpAny (model X.prog X.w) X.A (inplaceOp op u w) (fun r s₃ => wpAny (model X.prog X.w) X.A (storeName X.env x r) (fun _ => SP X pins D .next) X.xe s₃) X.xe s₂) X.xe s := by
    refine thn (he pins s σ H _ I h) fun w s1 ⟨y, H1, I1, r1, q1⟩ => ?_
    refine thn (ho pins s1 σ H1 v y u w _ I1 r r1 q1) fun z s2 ⟨zv, H2, I2, r2, q2⟩ => ?_
    exact store_ok I2 hN hi hx r2 (fun s3 I3 => ⟨_, H2, I3, q2⟩) hf
  rcases l with ⟨hk, hm⟩ | ⟨hk, c, hc, hcell⟩
  · exact wpAny_loadName_local I.ok.kind hk hn hm go
  · rcases hk with hk | hk
    · exact wpAny_loadName_cell I.ok.kind hk hc hcell go
    · rcases hx with k | k
      · have : X.env.scope.names.lookup x = some .free := hk
        rw [k] at this; cases this
      · have : X.env.scope.names.lookup x = some .free := hk
        rw [k] at this; cases this
def ipI (f : Int → Int → Int) : TIp := fun x y H Q => ∃ i j, x = .int i ∧ y = .int j ∧ Q (.int (f i j)) H
theorem ip_add : PIp X .Add (ipI fun i j => i + j) := by
  intro pins s σ H x y v u Q I r1 r2 h
  obtain ⟨i, j, e1, e2, q⟩ := h
  subst e1; subst e2
  obtain ⟨t, rfl⟩ := r1
  obtain ⟨t', rfl⟩ := r2
  exact iadd_int ⟨.int _, H, I.tok _, ⟨_, rfl⟩, q⟩
theorem ip_sub : PIp X .Sub (ipI fun i j => i - j) := by
  intro pins s σ H x y v u Q I r1 r2 h
  obtain ⟨i, j, e1, e2, q⟩ := h
  subst e1; subst e2
  obtain ⟨t, rfl⟩ := r1
  obtain ⟨t', rfl⟩ := r2
  exact isub_int ⟨.int _, H, I.tok _, ⟨_, rfl⟩, q⟩
end
section
variable {X : Cx} {pos : Pos}
def tWhile (c : TT) (tb : TS) : TS := fun D σ H => ∃ W : Nat → St → Hp → Prop, (∃ m, W m σ H) ∧ ∀ m σ H, W m σ H →
  c σ H fun b H1 => if b = true then ∃ N : St → Hp → Prop, (∀ σ' H', N σ' H' → ∃ m', m' < m ∧ W m' σ' H') ∧ tb { D with nx := N, ct := N, bk := D.nx } σ H1 else D.nx σ H1
theorem ps_while {c : Expr} {body : List Stmt} {tc : TT} {tb : TS} (hp : PassesOwn (model X.prog X.w) X.A X.env X.xe) (hc : PT X c tc) (hb : PSs X body tb) : PS X (.While c body [] pos) (tWhile tc tb) := by
  intro pins s σ H D I h
  obtain ⟨W, ⟨m0, w0⟩, turn⟩ := h
  refine wpAny_While (codeAny_whileLoop (fun n s' => ∃ σ' H', Inv X pins σ' H' s' ∧ W n σ' H') ?_ m0 ⟨σ, H, I, w0⟩)
  rintro n s1 ⟨σ1, H1, I1, w1⟩
  refine wpAny_passesOwn hp (thn (hc pins s1 σ1 H1 _ I1 (turn n σ1 H1 w1)) fun b s2 ⟨H2, I2, q2⟩ => ?_)
  cases b with
  | true =>
    obtain ⟨N, hN, q2⟩ := q2
    rw [if_pos rfl]
    refine wpAny_passesOwn hp (thn (hb pins s2 σ1 H2 _ I2 q2) fun f s3 q3 => ?_)
    cases f with
    | next =>
      obtain ⟨σ3, H3, I3, n3⟩ := q3
      obtain ⟨m', hm, w3⟩ := hN σ3 H3 n3
      exact ⟨m', hm, σ3, H3, I3, w3⟩
    | cont =>
      obtain ⟨σ3, H3, I3, n3⟩ := q3
      obtain ⟨m', hm, w3⟩ := hN σ3 H3 n3
      exact ⟨m', hm, σ3, H3, I3, w3⟩
    | brk => exact q3
    | ret v => exact q3
  | false =>
    rw [if_neg Bool.false_ne_true]
    exact wpAny_execs_nil ⟨σ1, H2, I2, q2⟩
end
structure It where
  go : Nat → Hp → Prop
  yld : Nat → Hp → V → Hp → Prop
  stop : Nat → Hp → Prop
def FpOk (X : Cx) (pins : List (Addr × Obj)) (H : Hp) (b : Addr) : Prop :=
  H b = none ∧ b ≠ X.env.locals ∧ b ∉ X.fs ∧ (b ∈ X.ex ∨ X.s₀.heap.objs.size ≤ b) ∧ (∀ x c, X.env.cells.lookup x = some c → c ≠ b) ∧ ∀ p ∈ X.pn ++ pins, p.1 ≠ b
theorem Inv.fpOk {X : Cx} {pins : List (Addr × Obj)} {σ : St} {H H' : Hp} {s : Shared} {b : Addr} (I : Inv X pins σ H s) (hb : s.heap.objs.size ≤ b) (hn : H' b = none) : FpOk X pins H' b := by
  refine ⟨hn, Nat.ne_of_gt (Nat.lt_of_lt_of_le I.lt hb), I.nofs hb, .inr (Nat.le_trans I.sz hb), fun x c e z => ?_, fun p hp z => ?_⟩
  · obtain ⟨v, q⟩ := I.cell x c e
    exact absurd (Nat.lt_of_lt_of_le q.lt (by rw [z]; exact hb)) (Nat.lt_irrefl _)
  · exact absurd (Nat.lt_of_lt_of_le (Heap.lt_size (I.pin p hp).1) (by rw [z]; exact hb)) (Nat.lt_irrefl _)
structure Turn (P : Program) (w : World) (K : PySem.W.Frag) (tg : Expr) (J : It) (fp : List Addr) (it : Addr) (tn : Nat → Heap → Prop) : Prop where
  mem : it ∈ fp
  obj : ∀ i h, tn i h → ∀ b ∈ fp, ∃ o, h.get? b = some o ∧ ∀ v, o.data ≠ .cell v
  keep : ∀ i h h', tn i h → (∀ b ∈ fp, ∀ o, h.get? b = some o → h'.get? b = some o) → tn i h'
  item : ∀ (X : Cx), X.prog = P → X.w = w → X.K = K → X.calm = true → ∀ (i : Nat) (pins : List (Addr × Obj)) (s : Shared) (σ : St) (H : Hp) (E : Value → Shared → Prop), Inv X pins σ H s → (∀ b ∈ fp, FpOk X pins H b) → tn i s.heap → J.go i H →
    wpAny (model P w) X.A (pyNext (.ref it)) (fun r s1 => ∃ u, r = some u ∧
      wpAny (model P w) X.A (letOwnedTupleGo tg (.ref it) u) (fun _ s2 => ∃ x H', Inv X pins σ H' s2 ∧ RelV x u ∧ J.yld i H x H' ∧ tn (i + 1) s2.heap ∧ ∀ b ∈ fp, H' b = none) E s1) E s
  done : ∀ (X : Cx), X.prog = P → X.w = w → X.K = K → X.calm = true → ∀ (i : Nat) (pins : List (Addr × Obj)) (s : Shared) (σ : St) (H : Hp) (E : Value → Shared → Prop), Inv X pins σ H s → (∀ b ∈ fp, FpOk X pins H b) → tn i s.heap → J.stop i H →
    wpAny (model P w) X.A (pyNext (.ref it)) (fun r s1 => r = none ∧ Inv X pins σ H s1) E s
  self : ∀ (A : Around) (i : Nat) (s : Shared) (Q : Value → Shared → Prop) (E : Value → Shared → Prop), tn i s.heap → Q (.ref it) s → wpAny (model P w) A (pyIter (.ref it)) Q E s
abbrev TI := St → Hp → (It → Hp → Prop) → Prop
def PIE (X : Cx) (pins : List (Addr × Obj)) (σ : St) (tg : Expr) (R : It → Hp → Prop) (itv : Value) (s2 : Shared) : Prop :=
  ∃ (it : Addr) (fp : List Addr) (tn : Nat → Heap → Prop) (J : It) (H' : Hp), itv = .ref it ∧ Inv X pins σ H' s2 ∧ Turn X.prog X.w X.K tg J fp it tn ∧ tn 0 s2.heap ∧ (∀ b ∈ fp, FpOk X pins H' b) ∧ R J H'
def PI (X : Cx) (tg iter : Expr) (wi : TI) : Prop :=
  ∀ (pins : List (Addr × Obj)) (s : Shared) (σ : St) (H : Hp) (R : It → Hp → Prop), Inv X pins σ H s → wi σ H R →
    wpAny (model X.prog X.w) X.A (eval iter X.env) (fun v s1 => wpAny (model X.prog X.w) X.A (pyIter v) (PIE X pins σ tg R) X.xe s1) X.xe s
theorem go_of {M : Model} {A : Around} {E : Value → Shared → Prop} {s : Shared} {tg : Expr} {it : Addr} {u : Value} {o : Obj} {n : String} {vs : Array Value} {Q : Unit → Shared → Prop} (ho : s.heap.get? it = some o) (hc : o.cls = .type n) (hd : o.data = .fields vs)
    (hn : ["enumerate", "zip", "dict_itemiterator", "dict_reverseitemiterator", "odict_iterator", "itertools.zip_longest", "itertools.pairwise"].contains n = false) (hQ : Q () s) : wpAny M A (letOwnedTupleGo tg (.ref it) u) Q E s := by
  unfold letOwnedTupleGo
  cases tg <;> first
    | exact wpAny_pure hQ
    | (cases u <;> first
        | exact wpAny_pure hQ
        | (refine wpAny_bind (wpAny_load ho ?_)
           rw [hc, hd]
           show wpAny M A (if (["enumerate", "zip", "dict_itemiterator", "dict_reverseitemiterator", "odict_iterator", "itertools.zip_longest", "itertools.pairwise"].contains n && vs[0]? == some (rawInt _)) = true then _ else _) Q E s
           rw [if_neg (by intro h; rw [hn, Bool.false_and] at h; cases h)]
           exact wpAny_pure hQ))
def Itl (K : PySem.W.Frag) (a : Addr) : It :=
  ⟨fun i H => ∃ xs x, SqL K H a xs ∧ xs[i]? = some x, fun i H x H' => H' = H ∧ ∀ xs, SqL K H a xs → xs[i]? = some x, fun i H => ∃ xs, SqL K H a xs ∧ xs.length ≤ i⟩
def Itt (K : PySem.W.Frag) (a : Addr) : It :=
  ⟨fun i H => ∃ xs x, SqT K H a xs ∧ xs[i]? = some x, fun i H x H' => H' = H ∧ ∀ xs, SqT K H a xs → xs[i]? = some x, fun i H => ∃ xs, SqT K H a xs ∧ xs.length ≤ i⟩
def Itr (lo : Int) (n : Nat) : It := ⟨fun i _ => i < n, fun i H x H' => H' = H ∧ x = .int (lo + i), fun i _ => n ≤ i⟩
theorem turn_list {P : Program} {w : World} {K : PySem.W.Frag} {tg : Expr} (a it : Addr) : Turn P w K tg (Itl K a) [it] it (fun i h => h.IsListIter it a i) where
  mem := by simp
  obj := fun i h st b hb => by
    have e : b = it := by simpa using hb
    subst e
    obtain ⟨o, e, c, d⟩ := st
    exact ⟨o, e, fun v z => by rw [d] at z; cases z⟩
  keep := fun i h h' st k => st.at fun o e => k it (by simp) o e
  item := by
    intro X hP hw hK hc i pins s σ H E I hf st hg
    subst hP hw hK
    obtain ⟨xs, x, hq, hx⟩ := hg
    obtain ⟨its, rv, p, hz⟩ := I.list hq
    obtain ⟨u, hu, ru⟩ := rv.get hx
    obtain ⟨f0, f1, f2, f3, f4, f5⟩ := hf it (by simp)
    refine wpAny_pyNext_list_item st p.isList (x := u) (by simpa using hu) fun h' st' sb => ?_
    have I1 : Inv X pins σ H { s with heap := h' } := I.turned (t' := s.toks) (fun b o hb e => (sb.2 b hb).trans e) f0 f1 f3 f4 f5
    obtain ⟨o, e, c, d⟩ := id st'
    exact ⟨u, rfl, go_of (s := { s with heap := h' }) e c d (by decide) ⟨x, H, I1, ru, ⟨rfl, fun ys hy => by rw [I.list_inj hy hq]; exact hx⟩, st', fun b hb => (hf b hb).1⟩⟩
  done := by
    intro X hP hw hK hc i pins s σ H E I hf st hg
    subst hP hw hK
    obtain ⟨xs, hq, hx⟩ := hg
    obtain ⟨its, rv, p, hz⟩ := I.list hq
    obtain ⟨f0, f1, f2, f3, f4, f5⟩ := hf it (by simp)
    have hl := rv.length
    exact wpAny_pyNext_list_end (I.ok.hd hc) st p.isList (by simp; omega) fun h' eb => ⟨rfl, I.turned (t' := s.toks) (fun b o hb e => eb b o hb e) f0 f1 f3 f4 f5⟩
  self := fun _ _ _ _ _ st h => wpAny_pyIter_listiter st h
theorem turn_tuple {P : Program} {w : World} {K : PySem.W.Frag} {tg : Expr} (a it : Addr) : Turn P w K tg (Itt K a) [it] it (fun i h => h.IsTupleIter it a i) where
  mem := by simp
  obj := fun i h st b hb => by
    have e : b = it := by simpa using hb
    subst e
    obtain ⟨o, e, c, d⟩ := st
    exact ⟨o, e, fun v z => by rw [d] at z; cases z⟩
  keep := fun i h h' st k => st.at fun o e => k it (by simp) o e
  item := by
    intro X hP hw hK hc i pins s σ H E I hf st hg
    subst hP hw hK
    obtain ⟨xs, x, hq, hx⟩ := hg
    obtain ⟨its, rv, p, hz⟩ := I.tuple hq
    obtain ⟨u, hu, ru⟩ := rv.get hx
    obtain ⟨f0, f1, f2, f3, f4, f5⟩ := hf it (by simp)
    refine wpAny_pyNext_tuple_item st (show s.heap.IsTuple a its.toArray from p) (x := u) (by simpa using hu) fun h' st' sb => ?_
    have I1 : Inv X pins σ H { s with heap := h' } := I.turned (t' := s.toks) (fun b o hb e => (sb.2 b hb).trans e) f0 f1 f3 f4 f5
    obtain ⟨o, e, c, d⟩ := id st'
    exact ⟨u, rfl, go_of (s := { s with heap := h' }) e c d (by decide) ⟨x, H, I1, ru, ⟨rfl, fun ys hy => by rw [I.tuple_inj hy hq]; exact hx⟩, st', fun b hb => (hf b hb).1⟩⟩
  done := by
    intro X hP hw hK hc i pins s σ H E I hf st hg
    subst hP hw hK
    obtain ⟨xs, hq, hx⟩ := hg
    obtain ⟨its, rv, p, hz⟩ := I.tuple hq
    obtain ⟨f0, f1, f2, f3, f4, f5⟩ := hf it (by simp)
    have hl := rv.length
    exact wpAny_pyNext_tuple_end (I.ok.hd hc) st (show s.heap.IsTuple a its.toArray from p) (by simp; omega) fun h' eb => ⟨rfl, I.turned (t' := s.toks) (fun b o hb e => eb b o hb e) f0 f1 f3 f4 f5⟩
  self := fun _ _ _ _ _ st h => wpAny_pyIter_tupleiter st h
theorem turn_range {P : Program} {w : World} {K : PySem.W.Frag} {tg : Expr} (it : Addr) (lo : Int) (n : Nat) : Turn P w K tg (Itr lo n) [it] it (fun i h => IsRangeIter h it (lo + (i : Nat) * 1) ((n : Int) - (i : Nat)) 1) where
  mem := by simp
  obj := fun i h st b hb => by
    have e : b = it := by simpa using hb
    subst e
    exact ⟨_, st, fun v z => by
      have z' : Data.fields _ = Data.cell v := z
      cases z'⟩
  keep := fun i h h' st k => k it (by simp) _ st
  item := by
    intro X hP hw hK hc i pins s σ H E I hf st hg
    subst hP hw hK
    obtain ⟨f0, f1, f2, f3, f4, f5⟩ := hf it (by simp)
    have W := Walks.range (prog := X.prog) (w := X.w) (I.ok.hd hc) it lo 1 n
    refine W.item i s _ _ hg st fun v h' tk hv st' kk => ?_
    obtain ⟨t, rfl⟩ := hv
    have I1 : Inv X pins σ H { s with heap := h', toks := tk } := I.turned (fun b o hb e => kk b o (by simpa using hb) e) f0 f1 f3 f4 f5
    refine ⟨_, rfl, go_of (s := { s with heap := h', toks := tk }) (n := "range_iterator") st' rfl rfl (by decide) ⟨.int (lo + i), H, I1, ⟨t, ?_⟩, ⟨rfl, rfl⟩, st', fun b hb => (hf b hb).1⟩⟩
    rw [Int.mul_one]
  done := by
    intro X hP hw hK hc i pins s σ H E I hf st hg
    subst hP hw hK
    obtain ⟨f0, f1, f2, f3, f4, f5⟩ := hf it (by simp)
    exact wpAny_pyNext_range_end (I.ok.hd hc) st (by have : n ≤ i := hg; omega) fun h' eb => ⟨rfl, I.turned (t' := s.toks) (fun b o hb e => eb b o hb e) f0 f1 f3 f4 f5⟩
  self := fun _ _ _ _ _ st h => wpAny_pyIter_rangeiter st h
end L2
namespace L2
open PySem PySem.Spec PyProof.Rows
section
variable {X : Cx} {tg : Expr}
def iList (K : PySem.W.Frag) (tl : TE) : TI := fun σ H R => tl σ H fun x H1 => ∃ a, x = .ref a ∧ (∃ xs, SqL K H1 a xs) ∧ R (Itl K a) H1
def iTup (K : PySem.W.Frag) (tl : TE) : TI := fun σ H R => tl σ H fun x H1 => ∃ a, x = .ref a ∧ (∃ xs, SqT K H1 a xs) ∧ R (Itt K a) H1
theorem pi_list {l : Expr} {tl : TE} (hl : PE X l tl) : PI X tg l (iList X.K tl) := by
  intro pins s σ H R I h
  refine thn (hl pins s σ H _ I h) fun v s1 ⟨x, H1, I1, r1, q1⟩ => ?_
  obtain ⟨a, e, ⟨xs, hq⟩, q⟩ := q1
  subst e
  cases r1
  obtain ⟨its, rv, p, hz⟩ := I1.list hq
  refine wpAny_pyIter_list p.isList ?_
  refine ⟨s1.heap.objs.size, [s1.heap.objs.size], _, _, H1, rfl, I1.kept (t' := s1.toks) fun b o e => Heap.get?_push_of_some _ e, turn_list a _, ⟨_, Heap.get?_push_size _ rfl, rfl, rfl⟩, fun b hb => ?_, q⟩
  have e : b = s1.heap.objs.size := by simpa using hb
  subst e
  exact I1.fpOk (Nat.le_refl _) (I1.hok.fresh (Nat.le_refl _))
theorem pi_tup {l : Expr} {tl : TE} (hl : PE X l tl) : PI X tg l (iTup X.K tl) := by
  intro pins s σ H R I h
  refine thn (hl pins s σ H _ I h) fun v s1 ⟨x, H1, I1, r1, q1⟩ => ?_
  obtain ⟨a, e, ⟨xs, hq⟩, q⟩ := q1
  subst e
  cases r1
  obtain ⟨its, rv, p, hz⟩ := I1.tuple hq
  refine wpAny_pyIter_tuple (show s1.heap.IsTuple a its.toArray from p) ?_
  refine ⟨s1.heap.objs.size, [s1.heap.objs.size], _, _, H1, rfl, I1.kept (t' := s1.toks) fun b o e => Heap.get?_push_of_some _ e, turn_tuple a _, ⟨_, Heap.get?_push_size _ rfl, rfl, rfl⟩, fun b hb => ?_, q⟩
  have e : b = s1.heap.objs.size := by simpa using hb
  subst e
  exact I1.fpOk (Nat.le_refl _) (I1.hok.fresh (Nat.le_refl _))
theorem range_it {pins : List (Addr × Obj)} {σ : St} {H : Hp} {s : Shared} {R : It → Hp → Prop} {E : Value → Shared → Prop} {lo hi : Int} {t u v : Tok} {tk : Nat} (I : Inv X pins σ H s) (h1 : -(2 ^ 62) ≤ lo) (h2 : lo < 2 ^ 62) (h3 : -(2 ^ 62) ≤ hi) (h4 : hi < 2 ^ 62)
    (q : R (Itr lo (hi - lo).toNat) H) : wpAny (model X.prog X.w) X.A (pyIter (.ref s.heap.objs.size)) (PIE X pins σ tg R) E { s with heap := s.heap.push { cls := .type "range", data := .fields #[.int lo t, .int hi u, .int 1 v] }, toks := tk } := by
  refine wpAny_pyIter_range (IsRange.new ..) (small_one h1 h2 h3 h4) ?_
  have I1 : Inv X pins σ H { s with heap := s.heap.push { cls := .type "range", data := .fields #[.int lo t, .int hi u, .int 1 v] }, toks := tk } := I.kept fun b o e => Heap.get?_push_of_some _ e
  refine ⟨(s.heap.push { cls := .type "range", data := .fields #[.int lo t, .int hi u, .int 1 v] }).objs.size, [(s.heap.push { cls := .type "range", data := .fields #[.int lo t, .int hi u, .int 1 v] }).objs.size], _, _, H, rfl,
    I1.kept (t' := tk) fun b o e => Heap.get?_push_of_some _ e, turn_range _ lo (hi - lo).toNat, ?_, fun b hb => ?_, q⟩
  · have e1 : lo + ((0 : Nat) : Int) * 1 = lo := by simp
    have e2 : (((hi - lo).toNat : Nat) : Int) - ((0 : Nat) : Int) = Builtin.Range.rangeSize lo hi 1 := by rw [rangeSize_one]; split <;> omega
    show IsRangeIter _ _ (lo + ((0 : Nat) : Int) * 1) ((((hi - lo).toNat : Nat) : Int) - ((0 : Nat) : Int)) 1
    rw [e1, e2]
    exact Heap.get?_push_size _ rfl
  · have e : b = (s.heap.push { cls := .type "range", data := .fields #[.int lo t, .int hi u, .int 1 v] }).objs.size := by simpa using hb
    subst e
    exact I1.fpOk (Nat.le_refl _) (I1.hok.fresh (Nat.le_refl _))
def iRng1 (ta : TA) : TI := fun σ H R => ta σ H fun vs H1 => ∃ j : Int, vs = [.int j] ∧ -(2 ^ 62) ≤ j ∧ j < 2 ^ 62 ∧ R (Itr 0 j.toNat) H1
theorem pi_range1 {a : Expr} {ta : TA} {p pos : Pos} (hg : Gl X "range") (hm : X.mg "range" = none) (ha : PA X [a] ta) (hs : starEach [a] X.env = [(false, eval a X.env)] := by rfl) : PI X tg (.Call (.Name "range" p) [a] [] pos) (iRng1 ta) := by
  intro pins s σ H R I h
  refine Call_ (ld_blt I hg hm boot_range (PyProof.Rows.callWith_type1 (thn (ha pos pins s σ H _ I h) fun us s1 ⟨vs, H1, I1, r1, q1⟩ => ?_) hs rfl))
  obtain ⟨j, e, q1, q2, q⟩ := q1
  subst e
  cases r1 with
  | cons r rr =>
    cases rr
    obtain ⟨t, rfl⟩ := r
    exact call_range_1 (range_it I1 (by omega) (by omega) q1 q2 (by simpa using q))
def tFor (wi : TI) (g : TG) (tb : TS) : TS := fun D σ H => wi σ H fun J H1 => ∃ W : Nat → Nat → St → Hp → Prop, (∃ m, W 0 m σ H1) ∧ ∀ i m σ H, W i m σ H →
  (J.stop i H ∧ D.nx σ H) ∨ (J.go i H ∧ ∃ N : St → Hp → Prop, (∀ σ' H', N σ' H' → ∃ m', m' < m ∧ W (i + 1) m' σ' H') ∧ ∀ x H', J.yld i H x H' → g x σ H' fun σ2 H2 => tb { D with nx := N, ct := N, bk := D.nx } σ2 H2)
def pinsAt (fp : List Addr) (h : Heap) : List (Addr × Obj) := fp.filterMap fun b => (h.get? b).map fun o => (b, o)
theorem mem_pinsAt {fp : List Addr} {h : Heap} {b : Addr} {o : Obj} (hb : b ∈ fp) (e : h.get? b = some o) : (b, o) ∈ pinsAt fp h := List.mem_filterMap.mpr ⟨b, hb, by rw [e]; rfl⟩
theorem of_pinsAt {fp : List Addr} {h : Heap} {p : Addr × Obj} (hp : p ∈ pinsAt fp h) : p.1 ∈ fp ∧ h.get? p.1 = some p.2 := by
  obtain ⟨b, hb, e⟩ := List.mem_filterMap.mp hp
  cases q : h.get? b with
  | none => rw [q] at e; cases e
  | some o =>
    rw [q] at e
    have e' : (b, o) = p := Option.some.inj e
    subst e'
    exact ⟨hb, q⟩
theorem Inv.pinned {pins : List (Addr × Obj)} {σ : St} {H : Hp} {s : Shared} {fp : List Addr} (I : Inv X pins σ H s) (hf : ∀ b ∈ fp, FpOk X pins H b) (ho : ∀ b ∈ fp, ∃ o, s.heap.get? b = some o ∧ ∀ v, o.data ≠ .cell v) : Inv X (pins ++ pinsAt fp s.heap) σ H s :=
  I.pins_of fun p hp => (List.mem_append.mp hp).elim (fun z => I.pin p (List.mem_append_right _ z)) fun z => by
    obtain ⟨hb, e⟩ := of_pinsAt z
    obtain ⟨f0, f1, f2, _⟩ := hf p.1 hb
    obtain ⟨o, e', d⟩ := ho p.1 hb
    rw [e] at e'; cases e'
    exact ⟨e, f0, f1, f2, d⟩
theorem Inv.unpinned {pins pl : List (Addr × Obj)} {σ : St} {H : Hp} {s : Shared} (I : Inv X (pins ++ pl) σ H s) : Inv X pins σ H s := I.pins_of fun p hp => I.pin p (List.mem_append_right _ (List.mem_append_left _ hp))
theorem ps_for {iter : Expr} {body : List Stmt} {wi : TI} {g : TG} {tb : TS} {pos : Pos} (hp : PassesOwn (model X.prog X.w) X.A X.env X.xe) (hc : X.calm = true) (hi : PI X tg iter wi) (hg : PG X tg g) (hb : PSs X body tb)
    (hs : ∀ x, foldedSetIterable iter X.env x = pure x := by intro _; rfl) : PS X (.For tg iter body [] pos) (tFor wi g tb) := by
  intro pins s σ H D I h
  refine wpAny_For (thn (hi pins s σ H _ I h) fun v s1 h1 => thn h1 fun itv s2 h2 => ?_) hs
  obtain ⟨it, fp, tn, J, H2, e, I2, T, st2, f2, W, ⟨m0, w0⟩, turn⟩ := h2
  subst e
  -- what stays true of the iterator's objects through the loop
  have stat : ∀ {H' : Hp}, (∀ b ∈ fp, H' b = none) → ∀ b ∈ fp, FpOk X pins H' b := fun hn b hb => ⟨hn b hb, (f2 b hb).2⟩
  refine codeAny_forLoop_any (fun n s' => ∃ i σ' H', Inv X pins σ' H' s' ∧ tn i s'.heap ∧ (∀ b ∈ fp, H' b = none) ∧ W i n σ' H') ?_ m0 ⟨0, σ, H2, I2, st2, fun b hb => (f2 b hb).1, w0⟩
  rintro n s3 ⟨i, σ3, H3, I3, st3, fr3, w3⟩
  rcases turn i n σ3 H3 w3 with ⟨stop, qn⟩ | ⟨go, N, hN, step⟩
  · refine wpAny_passesOwn hp (thn (T.done X rfl rfl rfl hc i pins s3 σ3 H3 X.xe I3 (stat fr3) st3 stop) fun r s4 ⟨hr, I4⟩ => ?_)
    subst hr
    exact wpAny_execs_nil ⟨σ3, H3, I4, qn⟩
  · refine wpAny_passesOwn hp (thn (T.item X rfl rfl rfl hc i pins s3 σ3 H3 X.xe I3 (stat fr3) st3 go) fun r s4 ⟨u, hr, h4⟩ => ?_)
    subst hr
    refine wpAny_passesOwn hp (thn h4 fun _ s5 ⟨x, H5, I5, r5, y5, st5, fr5⟩ => ?_)
    have I5' := I5.pinned (stat fr5) (T.obj _ _ st5)
    refine wpAny_passesOwn hp (thn (hg _ s5 σ3 H5 x u _ I5' r5 (step x H5 y5)) fun _ s6 ⟨σ6, H6, I6, q6⟩ => ?_)
    refine wpAny_passesOwn hp (thn (hb _ s6 σ6 H6 _ I6 q6) fun f s7 q7 => ?_)
    have again : ∀ {σ7 : St} {H7 : Hp}, Inv X (pins ++ pinsAt fp s5.heap) σ7 H7 s7 → N σ7 H7 → ∃ m, m < n ∧ ∃ i σ' H', Inv X pins σ' H' s7 ∧ tn i s7.heap ∧ (∀ b ∈ fp, H' b = none) ∧ W i m σ' H' := fun {σ7 H7} I7 n7 => by
      obtain ⟨m', hm, w7⟩ := hN σ7 H7 n7
      refine ⟨m', hm, i + 1, σ7, H7, I7.unpinned, T.keep _ _ _ st5 fun b hb o e => (I7.pin (b, o) (List.mem_append_right _ (List.mem_append_right _ (mem_pinsAt hb e)))).1, fun b hb => ?_, w7⟩
      obtain ⟨o, e, d⟩ := T.obj _ _ st5 b hb
      exact (I7.pin (b, o) (List.mem_append_right _ (List.mem_append_right _ (mem_pinsAt hb e)))).2.1
    cases f with
    | next => obtain ⟨σ7, H7, I7, n7⟩ := q7; exact again I7 n7
    | cont => obtain ⟨σ7, H7, I7, n7⟩ := q7; exact again I7 n7
    | brk => obtain ⟨σ7, H7, I7, q7⟩ := q7; exact ⟨σ7, H7, I7.unpinned, q7⟩
    | ret v => obtain ⟨x7, σ7, H7, I7, r7, q7⟩ := q7; exact ⟨x7, σ7, H7, I7.unpinned, r7, q7⟩
end
theorem for_list {K : PySem.W.Frag} {a : Addr} {xs : List V} {g : TG} {tb : TS} {D : Ends} {σ : St} {H : Hp} (Pv : Nat → St → Hp → Prop) (h0 : Pv 0 σ H) (hl : ∀ i σ H, i ≤ xs.length → Pv i σ H → SqL K H a xs)
    (hs : ∀ i x σ H, xs[i]? = some x → Pv i σ H → g x σ H fun σ2 H2 => tb { D with nx := Pv (i + 1), ct := Pv (i + 1), bk := D.nx } σ2 H2) (hd : ∀ σ H, Pv xs.length σ H → D.nx σ H) :
    ∃ W : Nat → Nat → St → Hp → Prop, (∃ m, W 0 m σ H) ∧ ∀ i m σ H, W i m σ H →
      ((Itl K a).stop i H ∧ D.nx σ H) ∨ ((Itl K a).go i H ∧ ∃ N : St → Hp → Prop, (∀ σ' H', N σ' H' → ∃ m', m' < m ∧ W (i + 1) m' σ' H') ∧ ∀ x H', (Itl K a).yld i H x H' → g x σ H' fun σ2 H2 => tb { D with nx := N, ct := N, bk := D.nx } σ2 H2) := by
  refine ⟨fun i m σ H => m = xs.length - i ∧ i ≤ xs.length ∧ Pv i σ H, ⟨xs.length, by simp, Nat.zero_le _, h0⟩, ?_⟩
  rintro i m σ H ⟨rfl, hi, p⟩
  have q := hl i σ H hi p
  by_cases hlt : i < xs.length
  · refine .inr ⟨⟨xs, xs[i], q, by simp [hlt]⟩, Pv (i + 1), fun σ' H' p' => ⟨xs.length - (i + 1), by omega, rfl, hlt, p'⟩, fun x H' y => ?_⟩
    obtain ⟨e, y⟩ := y
    subst e
    exact hs i x σ _ (y xs q) p
  · have e : i = xs.length := by omega
    subst e
    exact .inl ⟨⟨xs, q, Nat.le_refl _⟩, hd σ H p⟩
theorem for_range {lo : Int} {n : Nat} {g : TG} {tb : TS} {D : Ends} {σ : St} {H : Hp} (Pv : Nat → St → Hp → Prop) (h0 : Pv 0 σ H)
    (hs : ∀ i σ H, i < n → Pv i σ H → g (.int (lo + i)) σ H fun σ2 H2 => tb { D with nx := Pv (i + 1), ct := Pv (i + 1), bk := D.nx } σ2 H2) (hd : ∀ σ H, Pv n σ H → D.nx σ H) :
    ∃ W : Nat → Nat → St → Hp → Prop, (∃ m, W 0 m σ H) ∧ ∀ i m σ H, W i m σ H →
      ((Itr lo n).stop i H ∧ D.nx σ H) ∨ ((Itr lo n).go i H ∧ ∃ N : St → Hp → Prop, (∀ σ' H', N σ' H' → ∃ m', m' < m ∧ W (i + 1) m' σ' H') ∧ ∀ x H', (Itr lo n).yld i H x H' → g x σ H' fun σ2 H2 => tb { D with nx := N, ct := N, bk := D.nx } σ2 H2) := by
  refine ⟨fun i m σ H => m = n - i ∧ i ≤ n ∧ Pv i σ H, ⟨n, by simp, Nat.zero_le _, h0⟩, ?_⟩
  rintro i m σ H ⟨rfl, hi, p⟩
  by_cases hlt : i < n
  · refine .inr ⟨hlt, Pv (i + 1), fun σ' H' p' => ⟨n - (i + 1), by omega, rfl, hlt, p'⟩, fun x H' y => ?_⟩
    obtain ⟨e, y⟩ := y
    subst e y
    exact hs i σ _ hlt p
  · have e : i = n := by omega
    subst e
    exact .inl ⟨Nat.le_refl _, hd σ H p⟩
end L2
namespace L2
open PySem PySem.Spec PyProof.Rows
abbrev R2 := V → V → Hp → VK → Prop
def OpR (X : Cx) (f : Value → Value → Sem Value) (r : R2) : Prop :=
  ∀ (pins : List (Addr × Obj)) (s : Shared) (σ : St) (H : Hp) (x y : V) (v u : Value) (Q : VK), Inv X pins σ H s → RelV x v → RelV y u → r x y H Q →
    wpAny (model X.prog X.w) X.A (f v u) (EP X pins σ Q) X.xe s
def UnR (X : Cx) (f : Value → Sem Value) (r : V → Hp → VK → Prop) : Prop :=
  ∀ (pins : List (Addr × Obj)) (s : Shared) (σ : St) (H : Hp) (x : V) (v : Value) (Q : VK), Inv X pins σ H s → RelV x v → r x H Q →
    wpAny (model X.prog X.w) X.A (f v) (EP X pins σ Q) X.xe s
def CallR (X : Cx) (f : Value) (r : List V → Hp → VK → Prop) : Prop :=
  ∀ (pins : List (Addr × Obj)) (s : Shared) (σ : St) (H : Hp) (xs : List V) (us : List Value) (Q : VK), Inv X pins σ H s → Vals xs us → r xs H Q →
    wpAny (model X.prog X.w) X.A (call f us) (EP X pins σ Q) X.xe s
def tOp (r : R2) (ta tb : TE) : TE := fun σ H Q => ta σ H fun x H1 => tb σ H1 fun y H2 => r x y H2 Q
def tUn (r : V → Hp → VK → Prop) (ta : TE) : TE := fun σ H Q => ta σ H fun x H1 => r x H1 Q
def rI (C : Int → Int → Prop) (g : Int → Int → V) : R2 := fun x y H Q => ∃ i j, x = .int i ∧ y = .int j ∧ C i j ∧ Q (g i j) H
def rI0 (g : Int → Int → V) : R2 := fun x y H Q => ∃ i j, x = .int i ∧ y = .int j ∧ Q (g i j) H
def rU (g : Int → V) : V → Hp → VK → Prop := fun x H Q => ∃ i, x = .int i ∧ Q (g i) H
section
variable {X : Cx} {a b c : Expr} {ta tb tc : TE} {pos : Pos}
theorem binT (ha : PE X a ta) (hb : PE X b tb) {pins : List (Addr × Obj)} {s : Shared} {σ : St} {H : Hp} {R : V → V → Hp → Prop} (I : Inv X pins σ H s)
    (h : ta σ H fun x H1 => tb σ H1 fun y H2 => R x y H2) {Q : Value → Shared → Prop} {f : Value → Value → Sem Value}
    (hf : ∀ v u s2 x y H2, Inv X pins σ H2 s2 → RelV x v → RelV y u → R x y H2 → wpAny (model X.prog X.w) X.A (f v u) Q X.xe s2) :
    wpAny (model X.prog X.w) X.A (eval a X.env) (fun v s₁ => wpAny (model X.prog X.w) X.A (eval b X.env) (fun u s₂ => wpAny (model X.prog X.w) X.A (f v u) Q X.xe s₂) X.xe s₁) X.xe s := by
  refine thn (ha pins s σ H _ I h) fun v s1 ⟨x, H1, I1, r1, q1⟩ => ?_
  refine thn (hb pins s1 σ H1 _ I1 q1) fun u s2 ⟨y, H2, I2, r2, q2⟩ => ?_
  exact hf v u s2 x y H2 I2 r1 r2 q2
theorem pe_op {op : Operator} {r : R2} (ho : OpR X (binaryOp op) r) (ha : PE X a ta) (hb : PE X b tb) : PE X (.BinOp a op b pos) (tOp r ta tb) := by
  intro pins s σ H Q I h
  exact wpAny_BinOp (binT ha hb I h fun v u s2 x y H2 I2 rx ry q => ho pins s2 σ H2 x y v u Q I2 rx ry q)
theorem pe_un {op : UnaryOp} {r : V → Hp → VK → Prop} (ho : UnR X (unaryOp op) r) (ha : PE X a ta) : PE X (.UnaryOp op a pos) (tUn r ta) := by
  intro pins s σ H Q I h
  exact UnaryOp_ (thn (ha pins s σ H _ I h) fun v s1 ⟨x, H1, I1, r1, q1⟩ => ho pins s1 σ H1 x v Q I1 r1 q1)
theorem opI {f : Value → Value → Sem Value} {C : Int → Int → Prop} {g : Int → Int → Int}
    (rule : ∀ (i j : Int) (t u : Tok) (s : Shared) (Q : Value → Shared → Prop) (E : Value → Shared → Prop), C i j → Q (.int (g i j) s.toks) { s with toks := s.toks + 1 } → wpAny (model X.prog X.w) X.A (f (.int i t) (.int j u)) Q E s) :
    OpR X f (rI C fun i j => .int (g i j)) := by
  intro pins s σ H x y v u Q I rx ry h
  obtain ⟨i, j, rfl, rfl, hc, q⟩ := h
  obtain ⟨t, rfl⟩ := rx
  obtain ⟨t', rfl⟩ := ry
  exact rule i j t t' s _ _ hc ⟨.int (g i j), H, I.tok _, ⟨_, rfl⟩, q⟩
theorem opI0 {f : Value → Value → Sem Value} {g : Int → Int → Int}
    (rule : ∀ (i j : Int) (t u : Tok) (s : Shared) (Q : Value → Shared → Prop) (E : Value → Shared → Prop), Q (.int (g i j) s.toks) { s with toks := s.toks + 1 } → wpAny (model X.prog X.w) X.A (f (.int i t) (.int j u)) Q E s) :
    OpR X f (rI0 fun i j => .int (g i j)) := by
  intro pins s σ H x y v u Q I rx ry h
  obtain ⟨i, j, rfl, rfl, q⟩ := h
  obtain ⟨t, rfl⟩ := rx
  obtain ⟨t', rfl⟩ := ry
  exact rule i j t t' s _ _ ⟨.int (g i j), H, I.tok _, ⟨_, rfl⟩, q⟩
theorem opB0 {f : Value → Value → Sem Value} {g : Int → Int → Bool}
    (rule : ∀ (i j : Int) (t u : Tok) (s : Shared) (Q : Value → Shared → Prop) (E : Value → Shared → Prop), Q (.bool (g i j)) s → wpAny (model X.prog X.w) X.A (f (.int i t) (.int j u)) Q E s) :
    OpR X f (rI0 fun i j => .bl (g i j)) := by
  intro pins s σ H x y v u Q I rx ry h
  obtain ⟨i, j, rfl, rfl, q⟩ := h
  obtain ⟨t, rfl⟩ := rx
  obtain ⟨t', rfl⟩ := ry
  exact rule i j t t' s _ _ ⟨.bl (g i j), H, I, rfl, q⟩
def CDiv (i j : Int) : Prop := 0 < j ∧ j < 1073741824
def CPow (i j : Int) : Prop := 0 ≤ j ∧ j ≤ 1000000 ∧ i.natAbs < 2 ^ 64
def CMul (i j : Int) : Prop := (-(2 ^ 64) < i ∧ i < 2 ^ 64) ∨ (-(2 ^ 64) < j ∧ j < 2 ^ 64)
theorem CMul.ok {i j : Int} (h : CMul i j) : IntMulOk i j := by
  rcases h with ⟨h1, h2⟩ | ⟨h1, h2⟩
  · exact .of_left (intBits_le_64 h1 h2)
  · exact .of_right (intBits_le_64 h1 h2)
theorem op_add : OpR X (binaryOp .Add) (rI0 fun i j => .int (i + j)) := opI0 fun _ _ _ _ _ _ _ q => add_int q
theorem op_sub : OpR X (binaryOp .Sub) (rI0 fun i j => .int (i - j)) := opI0 fun _ _ _ _ _ _ _ q => sub_int q
theorem op_mul : OpR X (binaryOp .Mult) (rI CMul fun i j => .int (i * j)) := opI fun _ _ _ _ _ _ _ hc q => mul_int q hc.ok
theorem op_fdiv : OpR X (binaryOp .FloorDiv) (rI CDiv fun i j => .int (i / j)) := opI fun i j _ _ _ _ _ hc q => by
  have h1 : (0 : Int) < j := hc.1
  have h2 : j < 1073741824 := hc.2
  exact floordiv_int (by omega) (by rw [Int.fdiv_eq_ediv_of_nonneg i (by omega)]; exact q) (.inl (PyProof.noPylong_small (by omega)))
theorem op_mod : OpR X (binaryOp .Mod) (rI (fun _ j => 0 < j) fun i j => .int (i % j)) := opI fun i j _ _ _ _ _ hc q => by
  have h1 : (0 : Int) < j := hc
  exact mod_int' (by omega) (by rw [Int.fmod_eq_emod_of_nonneg i (by omega)]; exact q)
theorem op_pow : OpR X (binaryOp .Pow) (rI CPow fun i j => .int (i ^ j.toNat)) := opI fun _ _ _ _ _ _ _ hc q => pow_int_small hc.1 hc.2.1 hc.2.2 q
theorem unI {f : Value → Sem Value} {g : Int → Int}
    (rule : ∀ (i : Int) (t : Tok) (s : Shared) (Q : Value → Shared → Prop) (E : Value → Shared → Prop), Q (.int (g i) s.toks) { s with toks := s.toks + 1 } → wpAny (model X.prog X.w) X.A (f (.int i t)) Q E s) :
    UnR X f (rU fun i => .int (g i)) := by
  intro pins s σ H x v Q I rx h
  obtain ⟨i, rfl, q⟩ := h
  obtain ⟨t, rfl⟩ := rx
  exact rule i t s _ _ ⟨.int (g i), H, I.tok _, ⟨_, rfl⟩, q⟩
theorem un_neg : UnR X (unaryOp .USub) (rU fun i => .int (-i)) := unI fun _ _ _ _ _ q => neg_int q
end
def scal : V → V → Bool
  | .non, .non => true | .non, .int _ => true | .int _, .non => true | .non, .bl _ => true | .bl _, .non => true | .non, .str _ => true | .str _, .non => true
  | .int _, .int _ => true | .bl _, .bl _ => true | .str _, .str _ => true | .byt _, .byt _ => true
  | .int _, .str _ => true | .str _, .int _ => true | .bl _, .str _ => true | .str _, .bl _ => true
  | _, _ => false
def rEq : R2 := fun x y H Q => scal x y = true ∧ Q (.bl (decide (x = y))) H
def rNe : R2 := fun x y H Q => scal x y = true ∧ Q (.bl (!decide (x = y))) H
theorem dec_int {i j : Int} : decide (V.int i = V.int j) = (i == j) := by
  rw [Bool.eq_iff_iff]
  simp
theorem dec_bl {i j : Bool} : decide (V.bl i = V.bl j) = (i == j) := by
  rw [Bool.eq_iff_iff]
  simp
theorem dec_str {i j : Str} : decide (V.str i = V.str j) = (i == j) := by
  rw [Bool.eq_iff_iff]
  simp
theorem dec_byt {i j : Array UInt8} : decide (V.byt i = V.byt j) = (i.toList == j.toList) := by
  rw [Bool.eq_iff_iff]
  cases i
  cases j
  simp
section
variable {X : Cx} {a b c : Expr} {ta tb tc : TE} {pos : Pos}
theorem fin_bl {pins : List (Addr × Obj)} {σ : St} {H : Hp} {s : Shared} {Q : VK} {k k' : Bool} (I : Inv X pins σ H s) (q : Q (.bl k) H) (e : k = k') : EP X pins σ Q (.bool k') s := by
  subst e
  exact ⟨.bl k, H, I, rfl, q⟩
theorem op_eq : OpR X (compareOp .Eq) rEq := by
  intro pins s σ H x y v u Q I rx ry h
  obtain ⟨hs, q⟩ := h
  cases x with
  | non =>
    cases rx
    cases y with
    | non => cases ry; exact PySem.EqNone.eq_none_none (fin_bl I q (by simp))
    | bl j => cases ry; exact PySem.EqNone.eq_none_bool (fin_bl I q (by simp))
    | int j => obtain ⟨t', rfl⟩ := ry; exact PySem.EqNone.eq_none_int (fin_bl I q (by simp))
    | str j => obtain ⟨t', rfl⟩ := ry; exact PySem.EqNone.eq_none_str (fin_bl I q (by simp))
    | _ => exact absurd (show false = true from hs) Bool.false_ne_true
  | bl i =>
    cases rx
    cases y with
    | non => cases ry; exact PySem.EqNone.eq_bool_none (fin_bl I q (by simp))
    | bl j => cases ry; exact eq_bool (fin_bl I q dec_bl)
    | str j => obtain ⟨t', rfl⟩ := ry; exact PySem.EqMixed.eq_bool_str (fin_bl I q (by simp))
    | _ => exact absurd (show false = true from hs) Bool.false_ne_true
  | int i =>
    obtain ⟨t, rfl⟩ := rx
    cases y with
    | non => cases ry; exact PySem.EqNone.eq_int_none (fin_bl I q (by simp))
    | int j => obtain ⟨t', rfl⟩ := ry; exact eq_int (fin_bl I q dec_int)
    | str j => obtain ⟨t', rfl⟩ := ry; exact PySem.EqMixed.eq_int_str (fin_bl I q (by simp))
    | _ => exact absurd (show false = true from hs) Bool.false_ne_true
  | str i =>
    obtain ⟨t, rfl⟩ := rx
    cases y with
    | non => cases ry; exact PySem.EqNone.eq_str_none (fin_bl I q (by simp))
    | bl j => cases ry; exact PySem.EqMixed.eq_str_bool (fin_bl I q (by simp))
    | int j => obtain ⟨t', rfl⟩ := ry; exact PySem.EqMixed.eq_str_int (fin_bl I q (by simp))
    | str j => obtain ⟨t', rfl⟩ := ry; exact eq_str (fin_bl I q dec_str)
    | _ => exact absurd (show false = true from hs) Bool.false_ne_true
  | byt i =>
    obtain ⟨t, rfl⟩ := rx
    cases y with
    | byt j => obtain ⟨t', rfl⟩ := ry; exact PySem.W.eq_bytes (fin_bl I q dec_byt)
    | _ => exact absurd (show false = true from hs) Bool.false_ne_true
  | _ => cases y <;> exact absurd (show false = true from hs) Bool.false_ne_true
theorem op_ne : OpR X (compareOp .NotEq) rNe := by
  intro pins s σ H x y v u Q I rx ry h
  obtain ⟨hs, q⟩ := h
  cases x with
  | non =>
    cases rx
    cases y with
    | non => cases ry; exact PySem.EqNone.ne_none_none (fin_bl I q (by simp))
    | bl j => cases ry; exact PySem.EqNone.ne_none_bool (fin_bl I q (by simp))
    | int j => obtain ⟨t', rfl⟩ := ry; exact PySem.EqNone.ne_none_int (fin_bl I q (by simp))
    | str j => obtain ⟨t', rfl⟩ := ry; exact PySem.EqNone.ne_none_str (fin_bl I q (by simp))
    | _ => exact absurd (show false = true from hs) Bool.false_ne_true
  | bl i =>
    cases rx
    cases y with
    | non => cases ry; exact PySem.EqNone.ne_bool_none (fin_bl I q (by simp))
    | bl j => cases ry; exact ne_bool (fin_bl I q (congrArg not dec_bl))
    | str j => obtain ⟨t', rfl⟩ := ry; exact PySem.EqMixed.ne_bool_str (fin_bl I q (by simp))
    | _ => exact absurd (show false = true from hs) Bool.false_ne_true
  | int i =>
    obtain ⟨t, rfl⟩ := rx
    cases y with
    | non => cases ry; exact PySem.EqNone.ne_int_none (fin_bl I q (by simp))
    | int j => obtain ⟨t', rfl⟩ := ry; exact ne_int (fin_bl I q (congrArg not dec_int))
    | str j => obtain ⟨t', rfl⟩ := ry; exact PySem.EqMixed.ne_int_str (fin_bl I q (by simp))
    | _ => exact absurd (show false = true from hs) Bool.false_ne_true
  | str i =>
    obtain ⟨t, rfl⟩ := rx
    cases y with
    | non => cases ry; exact PySem.EqNone.ne_str_none (fin_bl I q (by simp))
    | bl j => cases ry; exact PySem.EqMixed.ne_str_bool (fin_bl I q (by simp))
    | int j => obtain ⟨t', rfl⟩ := ry; exact PySem.EqMixed.ne_str_int (fin_bl I q (by simp))
    | str j => obtain ⟨t', rfl⟩ := ry; exact ne_str (fin_bl I q (congrArg not dec_str))
    | _ => exact absurd (show false = true from hs) Bool.false_ne_true
  | byt i =>
    obtain ⟨t, rfl⟩ := rx
    cases y with
    | byt j => obtain ⟨t', rfl⟩ := ry; exact PySem.W.ne_bytes (fin_bl I q (congrArg not dec_byt))
    | _ => exact absurd (show false = true from hs) Bool.false_ne_true
  | _ => cases y <;> exact absurd (show false = true from hs) Bool.false_ne_true
theorem op_lt : OpR X (compareOp .Lt) (rI0 fun i j => .bl (decide (i < j))) := opB0 fun _ _ _ _ _ _ _ q => lt_int q
theorem op_gt : OpR X (compareOp .Gt) (rI0 fun i j => .bl (decide (j < i))) := opB0 fun _ _ _ _ _ _ _ q => gt_int q
theorem op_ge : OpR X (compareOp .GtE) (rI0 fun i j => .bl (decide (j ≤ i))) := opB0 fun _ _ _ _ _ _ _ q => ge_int q
theorem nomark (b : Expr) {op : CmpOp} (h : op ≠ .In := by decide) (h2 : op ≠ .NotIn := by decide) : behindInMarks op b = false := by
  have e1 : (op == CmpOp.In) = false := by cases op <;> first | rfl | exact absurd rfl h
  have e2 : (op == CmpOp.NotIn) = false := by cases op <;> first | rfl | exact absurd rfl h2
  cases b <;> simp [behindInMarks, e1, e2]
theorem pe_cmpR {op : CmpOp} {r : R2} (ho : OpR X (compareOp op) r) (ha : PE X a ta) (hb : PE X b tb) (hm : behindInMarks op b = false) : PE X (.Compare a [op] [b] pos) (tOp r ta tb) := by
  intro pins s σ H Q I h
  exact wpAny_Compare1 (binT ha hb I h fun v u s2 x y H2 I2 rx ry q => ho pins s2 σ H2 x y v u Q I2 rx ry q) hm
def tTest (t : TE) : TT := fun σ H Q => t σ H fun x H' => ∃ k, x = .bl k ∧ Q k H'
theorem pt_cmpR {op : CmpOp} {r : R2} (ho : OpR X (compareOp op) r) (ha : PE X a ta) (hb : PE X b tb) (hm : behindInMarks op b = false) : PT X (.Compare a [op] [b] pos) (tTest (tOp r ta tb)) := by
  intro pins s σ H Q I h
  refine wpAny_isTrue_Compare1 (thn (ha pins s σ H _ I h) fun v s1 ⟨x, H1, I1, r1, q1⟩ => thn (hb pins s1 σ H1 _ I1 q1) fun u s2 ⟨y, H2, I2, r2, q2⟩ =>
    thn (ho pins s2 σ H2 x y v u _ I2 r1 r2 q2) fun c s3 ⟨z, H3, I3, r3, k, e, q3⟩ => ?_) hm
  subst e
  cases r3
  exact wpAny_truthy_bool ⟨H3, I3, q3⟩
theorem line63 : (sizeLine : Nat) < 2 ^ 63 := by rw [sizeLine_eq]; decide
theorem vals1 {x : V} {us : List Value} (r : Vals [x] us) : ∃ u, us = [u] ∧ RelV x u := by
  cases r with
  | cons r1 r2 => cases r2; exact ⟨_, rfl, r1⟩
theorem vals2 {x y : V} {us : List Value} (r : Vals [x, y] us) : ∃ u w', us = [u, w'] ∧ RelV x u ∧ RelV y w' := by
  cases r with
  | cons r1 r2 =>
    cases r2 with
    | cons r3 r4 => cases r4; exact ⟨_, _, rfl, r1, r3⟩
theorem call_min2 (hc : X.calm = true) : CallR X (.builtin "min") (fun xs H Q => ∃ i j, xs = [.int i, .int j] ∧ Q (.int (if j < i then j else i)) H) := by
  intro pins s σ H xs us Q I r h
  obtain ⟨i, j, rfl, q⟩ := h
  obtain ⟨u, w', rfl, ⟨t, rfl⟩, ⟨t', rfl⟩⟩ := vals2 r
  refine min_two_ints (I.ok.hd hc) fun h' tk k => ⟨_, H, I.kept k, ?_, q⟩
  by_cases hj : j < i
  · rw [if_pos hj, if_pos hj]; exact ⟨_, rfl⟩
  · rw [if_neg hj, if_neg hj]; exact ⟨_, rfl⟩
theorem call_int1 : CallR X (.type "int") (fun xs H Q => (∃ i, xs = [.int i] ∧ Q (.int i) H) ∨ ∃ k, xs = [.bl k] ∧ Q (.int (if k then 1 else 0)) H) := by
  intro pins s σ H xs us Q I r h
  rcases h with ⟨i, rfl, q⟩ | ⟨k, rfl, q⟩
  · obtain ⟨u, rfl, t, rfl⟩ := vals1 r
    exact call_int_int ⟨.int i, H, I, ⟨_, rfl⟩, q⟩
  · obtain ⟨u, rfl, r1⟩ := vals1 r
    cases r1
    exact call_int_bool ⟨.int (if k then 1 else 0), H, I.tok _, ⟨_, rfl⟩, q⟩
end
end L2
namespace L2
open PySem PySem.Spec PyProof.Rows
structure ObjM (h : Heap) (x dx C : Addr) (mA : Str → Option Value) : Prop where
  obj : h.get? x = some (PySem.W.instObj C dx)
  ns : h.Ns1 dx mA
  ne : dx ≠ x
theorem lookIn_ns {h : Heap} {dx : Addr} {mA : Str → Option Value} (n : h.Ns1 dx mA) : ∃ od, h.get? dx = some od ∧ ∀ name, PySem.W.lookIn name od = some (mA name) := by
  obtain ⟨o, es, ep, ho, hd, hk, _, hm⟩ := n
  refine ⟨o, ho, fun name => ?_⟩
  have e := hm name
  unfold nsFind findBy at e
  rw [← Array.find?_toList] at e
  unfold PySem.W.lookIn
  rw [hd]
  dsimp only
  split
  · rename_i y q
    rw [q] at e
    exact congrArg some e
  · rename_i q
    rw [q] at e
    have a : es.toList.any (·.refKey) = false := by
      rw [List.any_eq_false]
      intro y hy
      obtain ⟨z, t, hkey⟩ := hk y (Array.mem_toList_iff.mp hy)
      simp [DictEntry.refKey, hkey]
    have a' : ¬ es.toList.any (·.refKey) = true := by rw [a]; exact Bool.false_ne_true
    rw [if_neg a']
    exact congrArg some e
theorem ObjM.look {h : Heap} {x dx C : Addr} {mA : Str → Option Value} (I : ObjM h x dx C mA) : ∃ od, PySem.W.InstAt h x (PySem.W.instObj C dx) C (some od) ∧ ∀ name, PySem.W.lookIn name od = some (mA name) :=
  let ⟨od, ho, hl⟩ := lookIn_ns I.ns
  ⟨od, ⟨I.obj, rfl, rfl, ho⟩, hl⟩
theorem RelO.some_of {v : V} {o : Option Value} (r : RelO (some v) o) : ∃ u, o = some u ∧ RelV v u := by
  cases o with
  | none => exact (show False from r).elim
  | some u => exact ⟨u, rfl, r⟩
section
variable {P : Program} {w : World} {H H' : Hp} {h h' : Heap} {a C dx : Addr} {fs fs' : List (Str × V)}
theorem ins_get (hok : HOk P w H h) (e : H a = some (.ins C dx fs)) : ∃ mA, ObjM h a dx C mA ∧ (∀ f, RelO (fs.lookup f) (mA f)) ∧ PySem.Within mA (fs.map (·.1)) ∧ fs.length ≤ 1000 ∧ H dx = some (.own a) := by
  obtain ⟨d, z, ne, ob, mA, n, r, q⟩ := (show ObjOk P w H h a (.ins C dx fs) from hok a _ e)
  exact ⟨mA, ⟨ob, n, ne⟩, r, q, z, d⟩
end
structure Cls (K : PySem.W.Frag) (C : Addr) : Prop where
  pg : PySem.W.plainGet K C Str.empty = true
  hd : PySem.W.hasDictIn K C = true
  po : PySem.W.plainOver K C = true
  sa : PySem.W.findIn K (.ref C) "__setattr__" = some (some (.builtin "object.__setattr__"))
theorem Cls.get {K : PySem.W.Frag} {C : Addr} (c : Cls K C) (f : Str) : PySem.W.plainGet K C f = true := c.pg
section
variable {X : Cx} {pins : List (Addr × Obj)} {σ : St} {H : Hp} {s : Shared} {a C dx : Addr} {fs : List (Str × V)} {f : Str} {v : V} {A : Around} {E : Value → Shared → Prop}
theorem Inv.made (I : Inv X pins σ H s) : Inv X pins σ (upd (upd H s.heap.objs.size (.own (s.heap.objs.size + 1))) (s.heap.objs.size + 1) (.ins C s.heap.objs.size []))
    { s with heap := (s.heap.push PySem.W.emptyDict).push (PySem.W.instObj C s.heap.objs.size) } := by
  have e1 : (s.heap.push PySem.W.emptyDict).get? s.heap.objs.size = some PySem.W.emptyDict := Heap.get?_push_size s.heap rfl
  have e2 : ((s.heap.push PySem.W.emptyDict).push (PySem.W.instObj C s.heap.objs.size)).get? (s.heap.objs.size + 1) = some (PySem.W.instObj C s.heap.objs.size) := by
    have := Heap.get?_push_size (s.heap.push PySem.W.emptyDict) (o := PySem.W.instObj C s.heap.objs.size) rfl
    rwa [Heap.size_push] at this
  have e3 : (s.heap.push PySem.W.emptyDict).Ns s.heap.objs.size (fun _ => none) := ⟨PySem.W.emptyDict, #[], _, e1, rfl, (fun e he => absurd he (by simp)), fun _ => rfl⟩
  have I1 := I.laid (a := s.heap.objs.size) (o := .own (s.heap.objs.size + 1)) (h' := s.heap.push PySem.W.emptyDict) (t' := s.toks) (fun b u q => Heap.get?_push_of_some _ q) (Nat.le_refl _) ⟨_, e1⟩
  refine I1.laid (a := s.heap.objs.size + 1) (o := .ins C s.heap.objs.size []) (t' := s.toks) (fun b u q => Heap.get?_push_of_some _ q) (Nat.le_of_eq (Heap.size_push _ _)) ?_
  have ne : s.heap.objs.size ≠ s.heap.objs.size + 1 := Nat.ne_of_lt (Nat.lt_succ_self _)
  refine ⟨by rw [upd_ne ne, upd_same], Nat.zero_le _, ne, e2, fun _ => none, (Heap.Ns1.of_empty e3).at fun o q => Heap.get?_push_of_some _ q, fun _ => True.intro, fun y hy => absurd rfl hy⟩
end
section
variable {X : Cx} {pins : List (Addr × Obj)} {σ : St} {H : Hp} {s : Shared} {A : Around} {E : Value → Shared → Prop} {Q : Value → Shared → Prop} {c : Value} {b : Bool}
inductive TyOf (K : PySem.W.Frag) (H : Hp) : V → Value → Prop where
  | non : TyOf K H .non (.type "NoneType")
  | bl (x : Bool) : TyOf K H (.bl x) (.type "bool")
  | int (i : Int) : TyOf K H (.int i) (.type "int")
  | str (x : Str) : TyOf K H (.str x) (.type "str")
  | flt (x : UInt64) : TyOf K H (.flt x) (.type "float")
  | lst {a : Addr} {xs : List V} (e : H a = some (.lst xs)) : TyOf K H (.ref a) (.type "list")
  | frz {a : Addr} {o : Obj} {xs : List V} (e : H a = some (.frz o (.lst xs))) : TyOf K H (.ref a) (.type "list")
  | tup {a : Addr} {xs : List V} (e : H a = some (.tup xs)) : TyOf K H (.ref a) (.type "tuple")
  | dK {a : Addr} {kvs : List (Key × V)} (e : H a = some (.dK kvs)) : TyOf K H (.ref a) (.type "dict")
  | dT {a : Addr} {kvs : List (List Key × V)} (e : H a = some (.dT kvs)) : TyOf K H (.ref a) (.type "dict")
  | ins {a C dx : Addr} {fs : List (Str × V)} (e : H a = some (.ins C dx fs)) (cl : Cls K C) (ha : PySem.W.findIn K (.ref C) "__class__" = some (some (.builtin "object.__class__")))
      (hn : PySem.W.specialIn K (.builtin "object.__class__") "__get__" = some (some (.builtin "getset_descriptor.__get__"))) (htk : PySem.W.takesIn K (.builtin "object.__class__") = some true)
      (hm : PySem.W.mroIn K C (.type "object") = some true) : TyOf K H (.ref a) (.ref C)
theorem isinst_ok {x : V} {u t : Value} (I : Inv X pins σ H s) (rx : RelV x u) (ty : TyOf X.K H x t) (e : PySem.W.kitOne X.K t c = some b) (h : ∀ tk, Q (.bool b) { s with toks := tk }) :
    wpAny (model X.prog X.w) A (call (.builtin "isinstance") [u, c]) Q E s := by
  cases ty with
  | non => cases (show u = Value.none from rx); exact PySem.W.kia_one PySem.W.kitx_none I.kIn True.intro e (fun z => nomatch z) h
  | bl y => cases (show u = Value.bool y from rx); exact PySem.W.kia_one PySem.W.kitx_bool I.kIn True.intro e (fun z => nomatch z) h
  | int i => obtain ⟨t, q⟩ := (show ∃ t, u = Value.int i t from rx); cases q; exact PySem.W.kia_one PySem.W.kitx_int I.kIn True.intro e (fun z => nomatch z) h
  | str y => obtain ⟨t, q⟩ := (show ∃ t, u = Value.str y t from rx); cases q; exact PySem.W.kia_one PySem.W.kitx_str I.kIn True.intro e (fun z => nomatch z) h
  | flt y => obtain ⟨t, q⟩ := (show ∃ t, u = Value.float y t from rx); cases q; exact PySem.W.kia_one PySem.W.kitx_float I.kIn True.intro e (fun z => nomatch z) h
  | @lst a xs ea =>
    cases (show u = Value.ref a from rx)
    obtain ⟨_, _, n, _, h1⟩ := (show ObjOk X.prog X.w H s.heap a (.lst xs) from I.hok a _ ea)
    exact PySem.W.kia_one PySem.W.kitx_list I.kIn ⟨_, h1, rfl⟩ e (fun z => nomatch z) h
  | @frz a ob xs ea =>
    cases (show u = Value.ref a from rx)
    obtain ⟨_, _, _, n, _, h1⟩ := (show ObjOk X.prog X.w H s.heap a (.frz ob (.lst xs)) from I.hok a _ ea)
    exact PySem.W.kia_one PySem.W.kitx_list I.kIn ⟨_, h1, rfl⟩ e (fun z => nomatch z) h
  | @tup a xs ea =>
    cases (show u = Value.ref a from rx)
    obtain ⟨_, _, _, p⟩ := (show ObjOk X.prog X.w H s.heap a (.tup xs) from I.hok a _ ea)
    obtain ⟨o, h1, h2, _⟩ := p
    exact PySem.W.kia_one PySem.W.kitx_tuple I.kIn ⟨o, h1, h2⟩ e (fun z => nomatch z) h
  | @dK a kvs ea =>
    cases (show u = Value.ref a from rx)
    obtain ⟨_, _, vs, _, p⟩ := (show ObjOk X.prog X.w H s.heap a (.dK kvs) from I.hok a _ ea)
    obtain ⟨o, es, ep, h1, h2, _⟩ := p
    exact PySem.W.kia_one PySem.W.kitx_dict I.kIn ⟨o, h1, h2.1⟩ e (fun z => nomatch z) h
  | @dT a kvs ea =>
    cases (show u = Value.ref a from rx)
    obtain ⟨_, _, xs, _, o, es, ep, h1, h2, _⟩ := (show ObjOk X.prog X.w H s.heap a (.dT kvs) from I.hok a _ ea)
    exact PySem.W.kia_one PySem.W.kitx_dict I.kIn ⟨o, h1, h2.1⟩ e (fun z => nomatch z) h
  | @ins a C dx fs ea cl ha hn htk hm =>
    cases (show u = Value.ref a from rx)
    obtain ⟨mA, O, _⟩ := ins_get I.hok ea
    obtain ⟨od, J, _⟩ := O.look
    exact PySem.W.kia_one (PySem.W.kitx_own (cl.get _) cl.hd ha hn htk hm) I.kIn J e (fun z => nomatch z) h
end
end L2
namespace L2
open PySem PySem.Spec PyProof.Rows
structure Room (k : Nat) (A : Around) : Prop where
  hd : A.handled = none
  dp : A.depth + 3 * k + 5 < recursionLimit
  un : A.units + 16 * k + 200 < cLine
  gd : A.guards = some []
theorem Room.mono {j k : Nat} {A : Around} (r : Room k A) (h : j ≤ k) : Room j A := ⟨r.hd, by have := r.dp; omega, by have := r.un; omega, r.gd⟩
theorem Room.deeper {k : Nat} {A : Around} (r : Room (k + 1) A) (env : Env) : Room k (A.deeper env) :=
  ⟨r.hd, by have := r.dp; show A.depth + 1 + 3 * k + 5 < _; omega, by have := r.un; show A.units + 3 + 16 * k + 200 < _; omega, r.gd⟩
theorem Room.in1 {k : Nat} {A : Around} (r : Room (k + 1) A) : Room k A.in1 :=
  ⟨r.hd, by have := r.dp; show A.depth + 3 * k + 5 < _; omega, by have := r.un; show A.units + 1 + 16 * k + 200 < _; omega, r.gd⟩
theorem Room.depth {k : Nat} {A : Around} (r : Room k A) : A.depth < recursionLimit := by have := r.dp; omega
theorem Room.units {k : Nat} {A : Around} (r : Room k A) : A.units + 64 < cLine := by have := r.un; omega
def tNil : TA := fun _ H Q => Q [] H
def tCons (ta : TE) (tr : TA) : TA := fun σ H Q => ta σ H fun x H1 => tr σ H1 fun xs H2 => Q (x :: xs) H2
section
variable {X : Cx} {e : Expr} {es : List Expr} {te : TE} {t : TA} {pos : Pos}
theorem pa_nil : PA X [] tNil := fun _ _ _ _ H Q I h => Calls.spliced_nil ⟨[], H, I, .nil, h⟩
theorem pa_cons (ha : PE X e te) (hr : PA X es t) (hs : starEach (e :: es) X.env = (false, eval e X.env) :: starEach es X.env := by rfl) : PA X (e :: es) (tCons te t) := by
  intro pos pins s σ H Q I h
  rw [hs]
  show wpAny _ _ (spliced ((false, eval e X.env) :: backTo pos (starEach es X.env))) _ _ s
  refine Calls.spliced_cons (thn (ha pins s σ H _ I h) fun u s1 ⟨x, H1, I1, r1, q1⟩ => ?_)
  exact thn (hr pos pins s1 σ H1 _ I1 q1) fun us s2 ⟨xs, H2, I2, r2, q2⟩ => ⟨x :: xs, H2, I2, .cons r1 r2, q2⟩
def tTup (t : TA) : TE := fun σ H Q => t σ H fun xs H1 => xs.length ≤ sizeLine ∧ ∀ p, H1 p = none → Q (.ref p) (upd H1 p (.tup xs))
def tLst (t : TA) : TE := fun σ H Q => t σ H fun xs H1 => xs.length ≤ sizeLine ∧ ∀ p, H1 p = none → Q (.ref p) (upd H1 p (.lst xs))
theorem pe_tup {x1} (h : PA X es t) : PE X (.Tuple es x1 pos) (tTup t) := by
  intro pins s σ H Q I hq
  refine wpAny_Tuple_spliced (thn (h pos pins s σ H _ I hq) fun us s1 ⟨xs, H1, I1, r, z, q⟩ => ⟨by rw [← r.length]; exact z, ?_⟩)
  have hf : H1 s1.heap.objs.size = none := I1.hok.fresh (Nat.le_refl _)
  refine ⟨.ref s1.heap.objs.size, upd H1 s1.heap.objs.size (.tup xs), I1.laid (t' := s1.toks) (fun b u e => Heap.get?_push_of_some _ e) (Nat.le_refl _) ?_, rfl, q _ hf⟩
  exact ⟨z, us, r, ⟨_, Heap.get?_push_size _ rfl, rfl, _, rfl⟩⟩
theorem pe_lst (h : PA X es t) : PE X (.List es pos) (tLst t) := by
  intro pins s σ H Q I hq
  refine wpAny_List_spliced (thn (h pos pins s σ H _ I hq) fun us s1 ⟨xs, H1, I1, r, z, q⟩ => ⟨by rw [← r.length]; exact z, ?_⟩)
  have hf : H1 s1.heap.objs.size = none := I1.hok.fresh (Nat.le_refl _)
  refine ⟨.ref s1.heap.objs.size, upd H1 s1.heap.objs.size (.lst xs), I1.laid (t' := s1.toks) (fun b u e => Heap.get?_push_of_some _ e) (Nat.le_refl _) ?_, rfl, q _ hf⟩
  exact ⟨z, us, 0, r, Heap.get?_push_size _ rfl⟩
end
abbrev Sp := List V → Hp → VK → XK → Prop
abbrev CXT := List Env → Hp → Shared → XK → Value → Shared → Prop
structure Env0 (P : Program) (w : World) (K : PySem.W.Frag) (mg : Str → Option Value) (base : Heap) (A : Around) (outer : List Env) (s : Shared) (H : Hp) : Prop where
  frames : A.frames = some outer
  mod : Mod K mg base
  bs : ∀ b o, base.get? b = some o → s.heap.get? b = some o ∧ H b = none
  bsz : base.objs.size ≤ s.heap.objs.size
  funs : s.heap.FunFrames base outer
  frf : ∀ b ∈ frs outer, H b = none
  hok : HOk P w H s.heap
  bare : AllBare s.gens
def CE (outer : List Env) (P : Program) (w : World) (H : Hp) (s : Shared) (Q : VK) (u : Value) (s' : Shared) : Prop :=
  ∃ v H', s'.os = s.os ∧ AllBare s'.gens ∧ Un (frs outer) [] H H' s.heap s'.heap ∧ HOk P w H' s'.heap ∧ RelV v u ∧ Q v H'
def CR (CX : CXT) (outer : List Env) (P : Program) (w : World) (H : Hp) (s : Shared) (Q : VK) (E : XK) (r : Result) (s' : Shared) : Prop :=
  match r with
  | .ok (.ret u) => CE outer P w H s Q u s'
  | .ok _ => False
  | .error e => CX outer H s E e s'
structure FnOk (P : Program) (w : World) (K : PySem.W.Frag) (mg : Str → Option Value) (base : Heap) (CX : CXT) (k : Nat) (f : Addr) (fd : FuncData) (ps : List Str) (sp : Sp) : Prop where
  len : ∀ vs H Q E, sp vs H Q E → vs.length = ps.length
  run : ∀ (A : Around) (outer : List Env) (s : Shared) (H : Hp) (args : Args) (us : List Value) (vs : List V) (Q : VK) (E : XK), Room k A → Env0 P w K mg base A outer s H → BindsTo s fd args (ps.zip us) → Vals vs us → sp vs H Q E →
    codeAny (model P w) A (.call (.ref f) args) (CR CX outer P w H s Q E) s
theorem FnOk.mono {P : Program} {w : World} {K : PySem.W.Frag} {mg : Str → Option Value} {base : Heap} {CX : CXT} {j k : Nat} {f : Addr} {fd : FuncData} {ps : List Str} {sp : Sp} (F : FnOk P w K mg base CX j f fd ps sp) (h : j ≤ k) :
    FnOk P w K mg base CX k f fd ps sp := ⟨F.len, fun A outer s H args us vs Q E hr => F.run A outer s H args us vs Q E (hr.mono h)⟩
theorem FnOk.imp {P : Program} {w : World} {K : PySem.W.Frag} {mg : Str → Option Value} {base : Heap} {CX : CXT} {k : Nat} {f : Addr} {fd : FuncData} {ps : List Str} {sp sp' : Sp} (F : FnOk P w K mg base CX k f fd ps sp)
    (h : ∀ vs H Q E, sp' vs H Q E → sp vs H Q E) : FnOk P w K mg base CX k f fd ps sp' :=
  ⟨fun vs H Q E q => F.len vs H Q E (h _ _ _ _ q), fun A outer s H args us vs Q E hr he hb hv hs => F.run A outer s H args us vs Q E hr he hb hv (h _ _ _ _ hs)⟩
theorem Env0.in1 {P : Program} {w : World} {K : PySem.W.Frag} {mg : Str → Option Value} {base : Heap} {A : Around} {outer : List Env} {s : Shared} {H : Hp} (e : Env0 P w K mg base A outer s H) :
    Env0 P w K mg base A.in1 outer s H := ⟨e.frames, e.mod, e.bs, e.bsz, e.funs, e.frf, e.hok, e.bare⟩
section
variable {X : Cx} {pins : List (Addr × Obj)} {σ : St} {H : Hp} {s s' : Shared}
theorem Inv.env0 (I : Inv X pins σ H s) : Env0 X.prog X.w X.K X.mg X.base X.A X.stack s H :=
  ⟨I.ok.frames, I.ok.mod, I.bs, Nat.le_trans I.ok.bsz I.sz, I.stack, I.stkFree, I.hok, I.bare⟩
theorem Inv.after {Q : VK} {u : Value} (I : Inv X pins σ H s) (h : CE X.stack X.prog X.w H s Q u s') : EP X pins σ Q u s' := by
  obtain ⟨v, H', os, bare, un, hok, r, q⟩ := h
  obtain ⟨hh, g, d, t, os'⟩ := s'
  obtain rfl : os' = s.os := os
  exact ⟨v, H', I.call (h' := hh) (g' := g) (d' := d) (t' := t) (ch := []) un hok bare (fun b z => absurd z (by simp)), r, q⟩
end
def tCall (sp : Sp) (dvs : List V) (E : XK) (t : TA) : TE := fun σ H Q => t σ H fun vs H1 => sp (vs ++ dvs) H1 Q E
def Binds (K : PySem.W.Frag) (fd : FuncData) (ps : List Str) (ds : List Value) : Prop :=
  ∀ (s : Shared) (us : List Value), K.In s.heap → (us ++ ds).length = ps.length → BindsTo s fd ⟨us, []⟩ (ps.zip (us ++ ds))
theorem Binds.all {K : PySem.W.Frag} {fd : FuncData} {ps : List Str} (h : ∀ us : List Value, us.length = ps.length → bindArgs fd ⟨us, []⟩ = pure (ps.zip us)) : Binds K fd ps [] := fun s us _ hl => by
  rw [List.append_nil] at hl ⊢
  exact .of_eq (h us hl)
def Passes (CX : CXT) (X : Cx) (E : XK) : Prop := ∀ (pins : List (Addr × Obj)) (σ : St) (H : Hp) (s : Shared) (e : Value) (s' : Shared), Inv X pins σ H s → CX X.stack H s E e s' → X.xe e s'
section
variable {X : Cx} {CX : CXT} {k : Nat} {f C : Addr} {fd : FuncData} {ps : List Str} {sp : Sp} {dvs : List V} {ds : List Value} {E : XK} {x m : Str} {p pos apos : Pos} {e o : Expr} {es : List Expr} {ta : TE} {t : TA}
theorem run_fn {pins : List (Addr × Obj)} {σ : St} {H : Hp} {s : Shared} {Q : VK} {us : List Value} {vs : List V} (F : FnOk X.prog X.w X.K X.mg X.base CX k f fd ps sp) (hr : Room k X.A) (hb : Binds X.K fd ps ds) (hd : Vals dvs ds) (hx : Passes CX X E)
    (I : Inv X pins σ H s) (r : Vals vs us) (h : sp (vs ++ dvs) H Q E) : wpAny (model X.prog X.w) X.A (call (.ref f) us) (EP X pins σ Q) X.xe s := by
  have r2 : Vals (vs ++ dvs) (us ++ ds) := r.append hd
  have hl : (us ++ ds).length = ps.length := by rw [← r2.length]; exact F.len _ _ _ _ h
  refine wpAny_call (codeAny_mono (F.run X.A X.stack s H ⟨us, []⟩ (us ++ ds) (vs ++ dvs) Q E hr I.env0 (hb s us I.kIn hl) r2 h) fun r s' hq => ?_)
  cases r with
  | error e => exact hx pins σ H s e s' I hq
  | ok fl =>
    cases fl with
    | ret u => exact I.after hq
    | next => exact False.elim hq
    | brk => exact False.elim hq
    | cont => exact False.elim hq
theorem pe_call (F : FnOk X.prog X.w X.K X.mg X.base CX k f fd ps sp) (hr : Room k X.A) (hg : Gl X x) (hm : X.mg x = some (.ref f)) (hk : PySem.W.keepIn X.K (.ref f) = true) (hb : Binds X.K fd ps ds) (hd : Vals dvs ds) (hx : Passes CX X E)
    (ha : PA X (e :: es) t) (hdb : (x == ("__debug__" : Str)) = false := by decide) (he : starEach (e :: es) X.env = (false, eval e X.env) :: starEach es X.env := by rfl) (hpl : (backTo pos (starEach es X.env)).any (·.1) = false := by rfl) :
    PE X (.Call (.Name x p) (e :: es) [] pos) (tCall sp dvs E t) := by
  intro pins s σ H Q I h
  refine wpAny_Call_Name_kw (ld_glob I hg hm ?_ hdb)
  refine PySem.W.callWith_K (h₀ := X.base) I.ok.mod.kin hk (thn (ha pos pins s σ H _ I h) fun us s1 ⟨vs, H1, I1, r, q⟩ => ⟨I1.kIn, ?_⟩) he hpl
  exact run_fn F hr hb hd hx I1 r q
end
structure FnScope (N P : List Str) (sc : Scope) : Prop where
  kind : sc.kind = .function
  co : sc.isCoroutine = false
  gen : sc.isGenerator = false
  nd : N.Nodup
  pre : N.take P.length = P
  par : ∀ x ∈ P, sc.names.lookup x = some .local ∨ sc.names.lookup x = some .cell
  nofree : ∀ y ∈ sc.names, y.2 ≠ .free
theorem bindL_out {kindOf : Str → Option NameKind} {x : Str} : ∀ {binds : List (Str × Value)} {m : Str → Option Value}, (∀ v, (x, v) ∉ binds) → bindL kindOf binds m x = m x
  | [], _, _ => rfl
  | (n, v) :: r, m, h => by
    unfold bindL
    rw [bindL_out fun w hw => h w (List.mem_cons_of_mem _ hw)]
    split
    · have : x ≠ n := by rintro rfl; exact h v List.mem_cons_self
      simp [this]
    · rfl
theorem bindC_out {kindOf : Str → Option NameKind} {x : Str} : ∀ {binds : List (Str × Value)} {m : Str → Option Value}, (∀ v, (x, v) ∉ binds) → bindC kindOf binds m x = m x
  | [], _, _ => rfl
  | (n, v) :: r, m, h => by
    unfold bindC
    rw [bindC_out fun w hw => h w (List.mem_cons_of_mem _ hw)]
    split
    · rfl
    · have : x ≠ n := by rintro rfl; exact h v List.mem_cons_self
      simp [this]
theorem bindL_get {kindOf : Str → Option NameKind} {x : Str} {v : Value} : ∀ {P : List Str} {vs : List Value} {i : Nat} {m : Str → Option Value}, P.Nodup → P[i]? = some x → vs[i]? = some v → kindOf x = some .local →
    bindL kindOf (P.zip vs) m x = some v
  | [], _, _, _, _, h, _, _ => by simp at h
  | _ :: _, [], _, _, _, _, h, _ => by simp at h
  | p :: P, w :: vs, 0, m, nd, h1, h2, hk => by
    simp at h1 h2; subst h1; subst h2
    show bindL kindOf ((p, w) :: P.zip vs) m p = _
    unfold bindL
    rw [bindL_out fun v hv => (List.nodup_cons.mp nd).1 (List.of_mem_zip hv).1, if_pos hk]
    simp
  | p :: P, w :: vs, i + 1, m, nd, h1, h2, hk => by
    show bindL kindOf ((p, w) :: P.zip vs) m x = _
    unfold bindL
    exact bindL_get (i := i) (List.nodup_cons.mp nd).2 (by simpa using h1) (by simpa using h2) hk
theorem bindC_get {kindOf : Str → Option NameKind} {x : Str} {v : Value} : ∀ {P : List Str} {vs : List Value} {i : Nat} {m : Str → Option Value}, P.Nodup → P[i]? = some x → vs[i]? = some v → kindOf x ≠ some .local →
    bindC kindOf (P.zip vs) m x = some v
  | [], _, _, _, _, h, _, _ => by simp at h
  | _ :: _, [], _, _, _, _, h, _ => by simp at h
  | p :: P, w :: vs, 0, m, nd, h1, h2, hk => by
    simp at h1 h2; subst h1; subst h2
    show bindC kindOf ((p, w) :: P.zip vs) m p = _
    unfold bindC
    rw [bindC_out fun v hv => (List.nodup_cons.mp nd).1 (List.of_mem_zip hv).1, if_neg hk]
    simp
  | p :: P, w :: vs, i + 1, m, nd, h1, h2, hk => by
    show bindC kindOf ((p, w) :: P.zip vs) m x = _
    unfold bindC
    exact bindC_get (i := i) (List.nodup_cons.mp nd).2 (by simpa using h1) (by simpa using h2) hk
def start (N : List Str) (vs : List V) : St := vs.map some ++ List.replicate (N.length - vs.length) none
def cxOf (CX : CXT) (P : Program) (w : World) (K : PySem.W.Frag) (mg : Str → Option Value) (base : Heap) (N : List Str) (qual : Str) (scope : Scope) (f : Addr) (cd : Value) (A : Around) (outer : List Env) (s : Shared) (H : Hp) (E : XK) : Cx where
  prog := P
  w := w
  K := K
  mg := mg
  base := base
  A := A.deeper (envOfC qual scope s.heap.objs.size f cd)
  N := N
  s₀ := s
  H₀ := H
  env := envOfC qual scope s.heap.objs.size f cd
  outer := outer
  stack := envOfC qual scope s.heap.objs.size f cd :: outer
  ex := []
  calm := true
  fn := fun _ => true
  pn := []
  xe := fun e s' => wpAny (model P w) (A.deeper (envOfC qual scope s.heap.objs.size f cd)) (leaving (envOfC qual scope s.heap.objs.size f cd) e) (fun _ s'' => CX outer H s E e s'') (fun e' s'' => CX outer H s E e' s'') s'
theorem cell_has {sc : Scope} {n : Nat} {x : Str} (h : sc.names.lookup x = some .cell) : ∃ c, (cellsFrom n sc.names []).lookup x = some c := by
  have q := PySem.W.cellsFrom_some sc.names n [] (.inl h)
  exact Option.isSome_iff_exists.mp q
theorem inv_start {CX : CXT} {P : Program} {w : World} {K : PySem.W.Frag} {mg : Str → Option Value} {base : Heap} {N ps : List Str} {qual : Str} {scope : Scope} {f : Addr} {cd : Value} {A : Around} {outer : List Env} {s s1 : Shared} {H : Hp} {E : XK} {us : List Value} {vs : List V}
    (S : FnScope N ps scope) (hd : A.handled = none) (e0 : Env0 P w K mg base A outer s H) (hl : vs.length = ps.length) (r : Vals vs us)
    (x : InCallC s s.heap.objs.size (bindL (envOfC qual scope s.heap.objs.size f cd).kindOf (ps.zip us) fun _ => none) (cellsFrom (s.heap.objs.size + 1) scope.names []) (bindC (envOfC qual scope s.heap.objs.size f cd).kindOf (ps.zip us) fun _ => none) s1) :
    Inv (cxOf CX P w K mg base N qual scope f cd A outer s H E) [] (start N vs) H s1 := by
  have hpl : ps.length ≤ N.length := by have := congrArg List.length S.pre; rw [List.length_take] at this; omega
  obtain ⟨h1, tk, rfl, hk⟩ := x.done
  have noA : ∀ b : Addr, b ∉ (cxOf CX P w K mg base N qual scope f cd A outer s H E).ex := fun b z => absurd (show b ∈ ([] : List Addr) from z) (by simp)
  refine ⟨⟨e0.mod, S.kind, rfl, rfl, Nat.le_refl _, fun y z c h1 h2 => ?_, fun y hy => ?_, fun y c _ h => ?_, fun _ => hd, Around.frames_deeper e0.frames, .inr ⟨rfl, rfl⟩, fun b z => absurd z (noA b), e0.bs, e0.bsz, fun b _ _ => noA b, fun b z => absurd z (noA b), e0.funs, e0.frf⟩,
    rfl, e0.bare, Un.kept hk, ⟨_, x.toInCall.ns, fun i y v h1 h2 h3 => ?_⟩, fun y c h => ⟨_, x.cell y c h⟩, e0.hok.fresh (Nat.le_refl _), fun y c h => ?_, fun p hp => absurd (show p ∈ ([] : List (Addr × Obj)) from hp) (by simp), e0.hok.kept hk, ?_⟩
  · exact name_of_addr x.apart (PySem.mem_of_lookup h1) (PySem.mem_of_lookup h2)
  · have hy : scope.names.lookup y = some .cell ∨ scope.names.lookup y = some .free := hy
    rcases hy with hy | hy
    · exact cell_has hy
    · exact absurd rfl (S.nofree _ (PySem.mem_of_lookup hy))
  · exact Nat.le_of_lt (x.above y c (PySem.mem_of_lookup h))
  · have hi : i < vs.length := by
      unfold start at h2
      by_cases hi : i < vs.length
      · exact hi
      · rw [List.getElem?_append_right (by simpa using hi)] at h2
        rw [List.getElem?_replicate] at h2
        split at h2 <;> cases h2
    have ha : vs[i]? = some v := by
      unfold start at h2
      rw [List.getElem?_append_left (by simpa using hi), List.getElem?_map] at h2
      cases e : vs[i]? with
      | none => rw [e] at h2; cases h2
      | some a => rw [e] at h2; cases h2; rfl
    obtain ⟨u, hu, rv⟩ := r.get ha
    have hp : ps[i]? = some y := by
      rw [← S.pre, List.getElem?_take_of_lt (by omega)]; exact h1
    have ndP : ps.Nodup := by rw [← S.pre]; exact S.nd.sublist (List.take_sublist _ _)
    refine ⟨u, rv, ?_⟩
    rcases S.par y (List.mem_of_getElem? hp) with k | k
    · exact .inl ⟨k, bindL_get ndP hp hu k⟩
    · obtain ⟨c, e⟩ := cell_has (n := s.heap.objs.size + 1) k
      refine .inr ⟨.inl k, c, e, ?_⟩
      have q := x.cell y c e
      rw [bindC_get ndP hp hu (by show scope.names.lookup y ≠ _; rw [k]; decide)] at q
      exact q
  · exact e0.hok.fresh (Nat.le_of_lt (x.above y c (PySem.mem_of_lookup h)))
  · unfold start
    show _ = N.length
    rw [List.length_append, List.length_map, List.length_replicate]
    omega
theorem fn_of {CX : CXT} {P : Program} {w : World} {K : PySem.W.Frag} {mg : Str → Option Value} {base : Heap} {k : Nat} {f : Addr} {name qual : Str} {params : Arguments} {body : List Stmt} {scope : Scope} {dV kV doc pm cdv ct oc : Value} {an od : Option Addr}
    {osl : Array (Option Value)} {N ps : List Str} {sp : Sp} (lk : K.lookup f = some ⟨oc, od, .func (PySem.W.fnOf name qual params body scope dV kV doc pm an cdv ct), osl⟩) (hcd : PySem.W.codeIn K cdv qual = true) (S : FnScope N ps scope)
    (len : ∀ vs H Q E, sp vs H Q E → vs.length = ps.length)
    (hbody : ∀ (A : Around) (outer : List Env) (s : Shared) (H : Hp) (vs : List V) (Q : VK) (E : XK), Room k (A.deeper (envOfC qual scope s.heap.objs.size f cdv)) → sp vs H Q E →
      ∃ t, PSs (cxOf CX P w K mg base N qual scope f cdv A outer s H E) body t ∧ t { nx := fun _ H' => Q .non H', rt := Q } (start N vs) H) :
    FnOk P w K mg base CX (k + 1) f (PySem.W.fnOf name qual params body scope dV kV doc pm an cdv ct) ps sp := by
  refine ⟨len, fun A outer s H args us vs Q E hr e0 hb r hsp => ?_⟩
  have hl := len _ _ _ _ hsp
  have KX : K.In s.heap := e0.mod.kin.keeps fun b o e => (e0.bs b o e).1
  have lim : s.heap.NoLimit := e0.mod.nolimit.keeps fun b o e => (e0.bs b o e).1
  have hkind : ∀ y ∈ ps.zip us, scope.names.lookup y.1 = some .local ∨ (scope.names.lookup y.1 = some .cell ∧ ((cellsFrom (s.heap.objs.size + 1) scope.names []).lookup y.1).isSome = true) := fun ⟨n, v⟩ hy => by
    rcases S.par n (List.of_mem_zip hy).1 with q | q
    · exact .inl q
    · exact .inr ⟨q, PySem.W.cellsFrom_some _ _ _ (.inl q)⟩
  refine codeAny_call_function hr.depth (KX _ _ lk) rfl S.co S.gen rfl (PySem.W.codeRec_of KX hcd) (hb _ _ _ _ ?_)
  refine wpAny_newFunctionEnv_cells S.kind hkind fun env he s1 x => ?_
  subst he
  refine ⟨lim.keeps x.toInCall.keep, codeAny_func ?_⟩
  obtain ⟨t, ht, hq⟩ := hbody A outer s H vs Q E (hr.deeper _) hsp
  have I : Inv (cxOf CX P w K mg base N qual scope f cdv A outer s H E) [] (start N vs) H s1 := inv_start S hr.hd e0 hl r x
  refine wpAny_mono (ht [] s1 (start N vs) H _ I hq) (fun fl s' hs => ?_) fun e s' hs => hs
  have fin : ∀ {σ' : St} {H' : Hp} {v : V} {u : Value}, Inv (cxOf CX P w K mg base N qual scope f cdv A outer s H E) [] σ' H' s' → RelV v u → Q v H' → CE outer P w H s Q u s' :=
    fun {σ' H' v u} J rv q => ⟨v, H', J.os, J.bare, J.base, J.hok, rv, q⟩
  cases fl with
  | ret u =>
    obtain ⟨v, σ', H', J, rv, q⟩ := hs
    exact fin J rv q
  | next =>
    obtain ⟨σ', H', J, q⟩ := hs
    exact fin (v := V.non) (u := Value.none) J rfl q
  | brk =>
    obtain ⟨_, _, _, q⟩ := hs
    exact False.elim q
  | cont =>
    obtain ⟨_, _, _, q⟩ := hs
    exact False.elim q
end L2
namespace L2
open PySem PySem.Spec PyProof.Rows
section
variable {X : Cx} {x : Str} {p pos : Pos} {e : Expr} {es : List Expr} {t : TA} {id T : String} {r : List V → Hp → VK → Prop}
def tCB (r : List V → Hp → VK → Prop) (t : TA) : TE := fun σ H Q => t σ H fun vs H1 => r vs H1 Q
theorem pe_callB (hc : CallR X (.builtin id) r) (hg : Gl X x) (hm : X.mg x = none) (hv : bootBuiltins x = some (.builtin id)) (ha : PA X (e :: es) t) (hn : x ≠ "__name__" := by decide) (hdb : (x == ("__debug__" : Str)) = false := by decide)
    (he : starEach (e :: es) X.env = (false, eval e X.env) :: starEach es X.env := by rfl) (hpl : (backTo pos (starEach es X.env)).any (·.1) = false := by rfl) : PE X (.Call (.Name x p) (e :: es) [] pos) (tCB r t) := by
  intro pins s σ H Q I h
  refine wpAny_Call_Name_kw (ld_blt I hg hm hv ?_ hn hdb)
  exact PyProof.Rows.callWith_builtin1 (thn (ha pos pins s σ H _ I h) fun us s1 ⟨vs, H1, I1, r1, q1⟩ => hc pins s1 σ H1 vs us Q I1 r1 q1) he hpl
theorem pe_callTy (hc : CallR X (.type T) r) (hg : Gl X x) (hm : X.mg x = none) (hv : bootBuiltins x = some (.type T)) (ha : PA X (e :: es) t) (hn : x ≠ "__name__" := by decide) (hdb : (x == ("__debug__" : Str)) = false := by decide)
    (he : starEach (e :: es) X.env = (false, eval e X.env) :: starEach es X.env := by rfl) (hpl : (backTo pos (starEach es X.env)).any (·.1) = false := by rfl) : PE X (.Call (.Name x p) (e :: es) [] pos) (tCB r t) := by
  intro pins s σ H Q I h
  refine wpAny_Call_Name_kw (ld_blt I hg hm hv ?_ hn hdb)
  exact PyProof.Rows.callWith_type1 (thn (ha pos pins s σ H _ I h) fun us s1 ⟨vs, H1, I1, r1, q1⟩ => hc pins s1 σ H1 vs us Q I1 r1 q1) he hpl
end
end L2
namespace HT
open PySem PyProof.Rows
def lexLt : List Int → List Int → Bool
  | [], [] => false
  | [], _ :: _ => true
  | _ :: _, [] => false
  | x :: xs, y :: ys => if x = y then lexLt xs ys else decide (x < y)
theorem lexLt_cons (x y : Int) (xs ys : List Int) : lexLt (x :: xs) (y :: ys) = if x = y then lexLt xs ys else decide (x < y) := rfl
theorem lexLt_nil_nil : lexLt [] [] = false := rfl
theorem lexLt_nil_cons (y : Int) (ys : List Int) : lexLt [] (y :: ys) = true := rfl
theorem lexLt_cons_nil (x : Int) (xs : List Int) : lexLt (x :: xs) [] = false := rfl
theorem eqAt_int (A : Around) (s : Shared) (a : Int) (t : Tok) (c : Int) (u : Tok) : ∃ e, SeqAt.EqAt A s (.int a t) (.int c u) e ∧ (e = true ↔ a = c) :=
  ⟨(a == c), SeqAt.EqAt.int_int a t c u, by simp⟩
theorem rcLt_int (A : Around) (s : Shared) (a : Int) (t : Tok) (c : Int) (u : Tok) (prog : Program) (w : World) (E : Value → Shared → Prop) (Q : Value → Shared → Prop) (h : Q (.bool (decide (a < c))) s) :
    wpAny (model prog w) A (richCompare .Lt (.int a t) (.int c u)) Q E s :=
  (PyProof.Rows.lt_int h : wpAny (model prog w) A (compareOp .Lt (.int a t) (.int c u)) Q E s)
section
open PySem.SeqAt
open PySem.AutoSeq1 (wpAny_loadPart')
open PySem.MeetsSeq PySem.MeetsSeq2 PySem.MeetsSeq3
theorem tuple_lt_ints (l b : Addr) (items items2 : Array Value) (n n2 : Nat) (dd dd2 : Option Addr) (sl sl2 : Array (Option Value)) (ns ms : List Int) (hi : IntsAre items.toList ns) (hj : IntsAre items2.toList ms) :
    Meets (Builtin.«tuple.__lt__» ⟨[.ref l, .ref b], []⟩)
      (fun _ R s => s.heap.get? l = some { cls := .type "tuple", dict := dd, data := .seq items n, slots := sl } ∧ s.heap.get? b = some { cls := .type "tuple", dict := dd2, data := .seq items2 n2, slots := sl2 } ∧
        R (.ok (.ret (.bool (lexLt ns ms)))) s) :=
  .of_wp fun prog w A R s h => by
    obtain ⟨hp, g, d, tk, os⟩ := s; obtain ⟨hl, hb, h⟩ := h
    have f2 := AutoSeq1.sub_tuple_tuple
    have z1 : items.size = ns.length := by rw [← hi.length]; simp
    have z2 : items2.size = ms.length := by rw [← hj.length]; simp
    wp_walk using wpAny_loadPart' hl, wpAny_loadPart' hb, wpAny_forIn_list _ (fun rest b s' => b.1 = none ∧ s' = ⟨hp, g, d, tk, os⟩ ∧ ∃ (vs ws : List Value) (ns' ms' : List Int), rest = vs.zip ws ∧
      IntsAre vs ns' ∧ IntsAre ws ms' ∧ ns'.length + items2.size = ms'.length + items.size ∧ R (.ok (.ret (.bool (lexLt ns' ms')))) ⟨hp, g, d, tk, os⟩) _
    case turn =>
      rintro ⟨y, x⟩ rest b s' ⟨hb', rfl, vs, ws, ns', ms', hz, hvi, hwi, hlen, hR⟩
      cases hvi with
      | nil => rw [List.zip_nil_left] at hz; cases hz
      | cons a t hvi' =>
        cases hwi with
        | nil => rw [List.zip_nil_right] at hz; cases hz
        | cons c u hwi' =>
          rw [List.zip_cons_cons] at hz
          injection hz with hyx hrest
          injection hyx with hy hx
          subst hy hx
          rw [lexLt_cons] at hR
          simp only [List.length_cons] at hlen
          obtain ⟨e, he, hiff⟩ := eqAt_int A.in1 ⟨hp, g, d, tk, os⟩ a t c u
          refine wpAny_bind (he prog w _ _ ?_)
          cases e with
          | true =>
            rw [if_pos (hiff.mp rfl)] at hR
            wp_walk
            exact ⟨rfl, rfl, _, _, _, _, hrest, hvi', hwi', by omega, hR⟩
          | false =>
            rw [if_neg (fun q => absurd (hiff.mpr q) Bool.false_ne_true)] at hR
            have hri := rcLt_int A.in1 ⟨hp, g, d, tk, os⟩ a t c u prog w
            wp_walk using hri
            exact ⟨_, rfl, by simpa using hR⟩
    case fin =>
      rintro ⟨b1, b2⟩ s' ⟨hb', rfl, vs, ws, ns', ms', hz, hvi, hwi, hlen, hR⟩
      simp only at hb'
      subst hb'
      have hv : lexLt ns' ms' = decide (items.size < items2.size) := by
        cases hvi with
        | nil =>
          cases hwi with
          | nil =>
            simp only [List.length_nil] at hlen
            rw [lexLt_nil_nil]
            exact (decide_eq_false (by omega)).symm
          | cons c u hw =>
            simp only [List.length_nil, List.length_cons] at hlen
            rw [lexLt_nil_cons]
            exact (decide_eq_true (by omega)).symm
        | cons a t hv =>
          cases hwi with
          | nil =>
            simp only [List.length_nil, List.length_cons] at hlen
            rw [lexLt_cons_nil]
            exact (decide_eq_false (by omega)).symm
          | cons c u hw =>
            rw [List.zip_cons_cons] at hz
            cases hz
      rw [hv] at hR
      wp_walk
      exact ⟨_, rfl, by simpa [Builtin.Tuple.tupleCompareSizes] using hR⟩
    case h =>
      exact ⟨rfl, rfl, items.toList, items2.toList, ns, ms, rfl, hi, hj, by omega, h⟩
end
section
variable {prog : Program} {w : World} {A : Around} {E : Value → Shared → Prop} {s : Shared}
theorem lt_tupInts {l b : Addr} {items items2 : Array Value} {ns ms : List Int} {Q : Value → Shared → Prop} (hl : IsTup s.heap l items) (hb : IsTup s.heap b items2) (hi : IntsAre items.toList ns) (hj : IntsAre items2.toList ms)
    (hu : A.units < cLine) (h : Q (.bool (lexLt ns ms)) s) : wpAny (model prog w) A (compareOp .Lt (.ref l) (.ref b)) Q E s := by
  obtain ⟨⟨cls, dd, data, sl⟩, ho, hc, n, hd⟩ := id hl
  obtain ⟨⟨cls2, dd2, data2, sl2⟩, ho2, hc2, n2, hd2⟩ := id hb
  simp only at hc hd hc2 hd2
  subst hc hd hc2 hd2
  exact richCompare_meets_room (op := .Lt) ⟨_, ho, rfl⟩ ⟨_, ho2, rfl⟩ PySem.F.slot_tuple_lt PySem.F.entry_tuple_lt (PySem.F.args_tuple_lt_2 _ _) (tuple_lt_ints l b items items2 n n2 dd dd2 sl sl2 ns ms hi hj)
    ⟨ho, ho2, show Value.bool (lexLt ns ms) ≠ Value.notImplemented ∧ Q (.bool (lexLt ns ms)) s from ⟨(fun x => nomatch x), h⟩⟩ hu
theorem cat_tup {t b : Addr} {vs ws : List Value} {Q : Value → Shared → Prop} (ht : IsTup s.heap t vs.toArray) (hb : IsTup s.heap b ws.toArray) (hv : vs ≠ [])
    (h1 : ws = [] → Q (.ref t) s) (h2 : ws ≠ [] → Q (.ref s.heap.objs.size) { s with heap := s.heap.push { cls := .type "tuple", data := .seq (vs ++ ws).toArray } })
    (hsz : vs.length + ws.length ≤ sizeLine) : wpAny (model prog w) A (binaryOp .Add (.ref t) (.ref b)) Q E s := by
  obtain ⟨⟨cls, dd, data, sl⟩, ho, hc, n, hd⟩ := id ht
  obtain ⟨⟨cls2, dd2, data2, sl2⟩, ho2, hc2, n2, hd2⟩ := id hb
  simp only at hc hd hc2 hd2
  subst hc hd hc2 hd2
  have e : vs.toArray ++ ws.toArray = (vs ++ ws).toArray := by simp
  by_cases hw : ws = []
  · exact concat_meets ⟨_, ho, rfl⟩ ⟨_, ho2, rfl⟩ noFill_tuple_add seq_tuple_add PySem.F.slot_tuple_add PySem.F.entry_tuple_add (PySem.F.args_tuple_add_2 _ _)
      (tuple_addW1 t b vs.toArray ws.toArray n n2 dd dd2 sl sl2 (by simpa using hv) (by simp [hw])) ⟨ho, ho2, h1 hw⟩
  · refine concat_meets ⟨_, ho, rfl⟩ ⟨_, ho2, rfl⟩ noFill_tuple_add seq_tuple_add PySem.F.slot_tuple_add PySem.F.entry_tuple_add (PySem.F.args_tuple_add_2 _ _)
      (tuple_addW2 t b vs.toArray ws.toArray n n2 dd dd2 sl sl2 (by simpa using hv) (by simpa using hw) (by rw [List.size_toArray, List.size_toArray]; exact hsz)) ⟨ho, ho2, ?_⟩
    rw [e]
    exact h2 hw
def sIx (n d : Nat) : Option Int → Nat
  | none => d
  | some v => if v < 0 then (v + (n : Int)).toNat else min v.toNat n
theorem sIx_none (n d : Nat) : sIx n d none = d := rfl
theorem sIx_nat (n d k : Nat) : sIx n d (some (k : Int)) = min k n := by
  show (if (k : Int) < 0 then ((k : Int) + (n : Int)).toNat else min (k : Int).toNat n) = min k n
  rw [if_neg (by omega), Int.toNat_natCast]
theorem sIx_le (n d : Nat) (hd : d ≤ n) (o : Option Int) : sIx n d o ≤ n := by
  cases o with
  | none => exact hd
  | some v =>
    show (if v < 0 then (v + (n : Int)).toNat else min v.toNat n) ≤ n
    by_cases hv : v < 0
    · rw [if_pos hv]; omega
    · rw [if_neg hv]; exact Nat.min_le_right _ _
theorem clip_eq (v : Int) (n d : Nat) : (if v < 0 then max (v + (n : Int)) 0 else min v (n : Int)) = ((sIx n d (some v) : Nat) : Int) := by
  show (if v < 0 then max (v + (n : Int)) 0 else min v (n : Int)) = (((if v < 0 then (v + (n : Int)).toNat else min v.toNat n) : Nat) : Int)
  by_cases hv : v < 0
  · simp only [if_pos hv]; omega
  · simp only [if_neg hv]; omega
theorem adjust_gen (lo hi : Option Int) (n : Nat) : Builtin.Slice.sliceAdjust lo hi 1 (n : Int) = (((sIx n 0 lo : Nat) : Int), ((sIx n n hi : Nat) : Int)) := by
  have h1 : ¬ ((1 : Int) < 0) := by omega
  unfold Builtin.Slice.sliceAdjust
  simp only [h1, if_false]
  refine Prod.ext ?_ ?_
  · cases lo with
    | none => rfl
    | some v => exact clip_eq v n 0
  · cases hi with
    | none => rfl
    | some v => exact clip_eq v n n
theorem places_gen (i j : Nat) : Builtin.Slice.slicePlaces (i : Int) (j : Int) 1 = j - i := by
  unfold Builtin.Slice.slicePlaces
  have h1 : (1 : Int) > 0 := by omega
  simp only [h1, if_true, Int.ediv_one]
  split <;> omega
theorem slicePart_ {v : Value} {o : Option Int} {Q : Option Int → Shared → Prop} (p : IsPart v o) (h : Q o s) : wpAny (model prog w) A (Builtin.Slice.slicePartIndex v) Q E s := by
  cases p with
  | none => exact slicePart_none h
  | int i t => exact slicePart_int h
theorem sliceApplied_gen {sl : Addr} {vl vu : Value} {lo hi : Option Int} {n : Nat} {Q : Int × Int × Nat → Shared → Prop} (hs : s.heap.IsSliceOf sl vl vu .none) (pl : IsPart vl lo) (pu : IsPart vu hi)
    (h : Q (((sIx n 0 lo : Nat) : Int), 1, sIx n n hi - sIx n 0 lo) s) : wpAny (model prog w) A (Builtin.Slice.sliceApplied (.ref sl) (pure (n : Int))) Q E s := by
  obtain ⟨os, hos, hcs, hds⟩ := id hs
  unfold Builtin.Slice.sliceApplied Builtin.Slice.sliceFields
  refine wpAny_bind (wpAny_bind (wpAny_field hos hds (x := vl) rfl (wpAny_bind (wpAny_field hos hds (x := vu) rfl (wpAny_bind (wpAny_field hos hds (x := .none) rfl (wpAny_pure ?_)))))))
  refine wpAny_bind (slicePart_none ?_)
  show wpAny _ _ (if ((1 : Int) == 0) = true then _ else _) _ _ s
  rw [if_neg (by decide)]
  refine wpAny_bind (slicePart_ pl (wpAny_bind (slicePart_ pu (wpAny_bind (wpAny_pure ?_)))))
  show wpAny _ _ (match Builtin.Slice.sliceAdjust lo hi 1 (n : Int) with | (lo, hi) => pure (lo, (1 : Int), Builtin.Slice.slicePlaces lo hi 1)) _ _ s
  rw [adjust_gen lo hi n]
  show wpAny _ _ (pure (((sIx n 0 lo : Nat) : Int), (1 : Int), Builtin.Slice.slicePlaces ((sIx n 0 lo : Nat) : Int) ((sIx n n hi : Nat) : Int) 1)) _ _ s
  rw [places_gen]
  exact wpAny_pure h
theorem pick_gen (xs : Array Value) (i k : Nat) : ((List.range k).filterMap fun (m : Nat) => xs[((i : Int) + (m : Int) * 1).toNat]?).toArray = ((xs.toList.drop i).take k).toArray := by
  have e : (fun (m : Nat) => xs[((i : Int) + (m : Int) * 1).toNat]?) = fun m => xs[i + m]? := by
    funext m
    have : ((i : Int) + (m : Int) * 1).toNat = i + m := by omega
    rw [this]
  rw [e]
  have := pick_run xs i k
  rw [List.filterMap_map] at this
  have e2 : ((fun x => xs[x]?) ∘ fun x => i + x) = fun m => xs[i + m]? := rfl
  rw [e2] at this
  rw [this]
theorem getItem_tuple_cut {t sl : Addr} {items : Array Value} {vl vu : Value} {lo hi : Option Int} {Q : Value → Shared → Prop} (ht : IsTup s.heap t items) (hs : s.heap.IsSliceOf sl vl vu .none) (pl : IsPart vl lo) (pu : IsPart vu hi)
    (hw : ¬ (sIx items.size 0 lo = 0 ∧ sIx items.size items.size hi = items.size))
    (h : Q (.ref s.heap.objs.size) { s with heap := s.heap.push { cls := .type "tuple", data := .seq ((items.toList.drop (sIx items.size 0 lo)).take (sIx items.size items.size hi - sIx items.size 0 lo)).toArray } })
    (hsz : items.size ≤ sizeLine) : wpAny (model prog w) A (getItem (.ref t) (.ref sl)) Q E s := by
  have htake : sizeOk (.seq ((items.toList.drop (sIx items.size 0 lo)).take (sIx items.size items.size hi - sIx items.size 0 lo)).toArray) := by
    show ((items.toList.drop (sIx items.size 0 lo)).take (sIx items.size items.size hi - sIx items.size 0 lo)).toArray.size ≤ sizeLine
    rw [List.size_toArray, List.length_take, List.length_drop, Array.length_toList]
    omega
  have hj : sIx items.size items.size hi ≤ items.size := sIx_le _ _ (Nat.le_refl _) hi
  obtain ⟨os, hos, hcs, hds⟩ := id hs
  have hTs : s.TypeIs (.ref sl) "slice" := ⟨os, hos, hcs⟩
  unfold getItem
  try with_reducible refine wpAny_holding ?_
  first | refine wpAny_bind (wpAny_pure ?_) | skip
  refine wpAny_bind (wpAny_sequenceKey ht.typeIs (by decide) ?_)
  refine wpAny_bind (wpAny_callSpecial?_slot (name := Str.ofString "__getitem__") ht.typeIs PyProof.Rows.slot_tuple_getitem
    (wpAny_call_entry PyProof.Rows.slot_tuple_getitem ht.typeIs entry_tuple_getitem ?_ (args_tuple_getitem _ _)))
  show wpAny _ _ (Builtin.Tuple.tupleItemsOf (.ref t) >>= _) _ _ s
  refine wpAny_bind (tupleItemsOf_ ht ?_)
  refine wpAny_bind (wpAny_typeOf hTs ?_)
  rw [if_pos (by decide)]
  refine wpAny_bind (sliceApplied_gen hs pl pu ?_)
  have hno : ¬ ((((sIx items.size 0 lo : Nat) : Int) == 0 && (1 : Int) == 1 && (sIx items.size items.size hi - sIx items.size 0 lo) == items.size) = true) := by
    intro q
    rw [Bool.and_eq_true, Bool.and_eq_true] at q
    have q1 : ((sIx items.size 0 lo : Nat) : Int) = 0 := eq_of_beq q.1.1
    have q2 : sIx items.size items.size hi - sIx items.size 0 lo = items.size := eq_of_beq q.2
    exact hw ⟨by omega, by omega⟩
  show wpAny _ _ (if (((sIx items.size 0 lo : Nat) : Int) == 0 && (1 : Int) == 1 && (sIx items.size items.size hi - sIx items.size 0 lo) == items.size) = true then _ else _) _ _ s
  rw [if_neg hno, pick_gen]
  first
    | exact wpAny_bind (m := Builtin.Tuple.tupleExact _) (wpAny_newObj_type (wpAny_pure ⟨_, rfl, wpAny_pure h⟩) htake)
    | exact wpAny_bind (m := Builtin.Tuple.tupleExact _) (wpAny_newObj_type (wpAny_bind (wpAny_pure (wpAny_pure ⟨_, rfl, wpAny_pure h⟩))) htake)
    | exact wpAny_bind (wpAny_bind (m := Builtin.Tuple.tupleExact _) (wpAny_newObj_type (wpAny_pure (wpAny_pure ⟨_, rfl, wpAny_pure h⟩)) htake))
    | exact wpAny_bind (wpAny_bind (m := Builtin.Tuple.tupleExact _) (wpAny_newObj_type (wpAny_pure ⟨_, rfl, wpAny_pure h⟩) htake))
end
end HT
namespace L2
open PySem PySem.Spec PyProof.Rows
abbrev TO := St → Hp → (Option Int → Hp → Prop) → Prop
def PO (X : Cx) (e : Option Expr) (t : TO) : Prop :=
  ∀ (pins : List (Addr × Obj)) (s : Shared) (σ : St) (H : Hp) (Q : Option Int → Hp → Prop), Inv X pins σ H s → t σ H Q →
    wpAny (model X.prog X.w) X.A (evalPart e X.env) (fun u s' => ∃ o H', Inv X pins σ H' s' ∧ IsPart u o ∧ Q o H') X.xe s
def tNoPart : TO := fun _ H Q => Q none H
def tPart (t : TE) : TO := fun σ H Q => t σ H fun x H1 => ∃ i, x = .int i ∧ Q (some i) H1
theorem intsAre_of {ns : List Int} : ∀ {us : List Value}, Vals (ns.map V.int) us → IntsAre us ns := by
  induction ns with
  | nil => intro us r; rw [List.map_nil] at r; cases r; exact .nil
  | cons n ns ih =>
    intro us r
    rw [List.map_cons] at r
    cases r with
    | cons r1 r2 =>
      obtain ⟨t, e⟩ := r1
      subst e
      exact .cons n t (ih r2)
section
variable {X : Cx} {e : Expr} {te : TE} {lo hi : Option Expr} {tl th : TO} {pos p2 : Pos}
theorem po_none : PO X none tNoPart := by
  intro pins s σ H Q I h
  rw [evalPart_none]
  exact wpAny_pure ⟨none, H, I, .none, h⟩
theorem po_some (h : PE X e te) : PO X (some e) (tPart te) := by
  intro pins s σ H Q I hw
  rw [evalPart_some]
  refine thn (h pins s σ H _ I hw) fun u s1 ⟨x, H1, I1, r1, q1⟩ => ?_
  obtain ⟨i, rfl, q⟩ := q1
  obtain ⟨t, rfl⟩ := r1
  exact ⟨some i, H1, I1, .int i t, q⟩
def SlR (X : Cx) (r : V → Option Int → Option Int → Hp → VK → Prop) : Prop :=
  ∀ (pins : List (Addr × Obj)) (s : Shared) (σ : St) (H : Hp) (x : V) (v vl vu : Value) (lo hi : Option Int) (sl : Addr) (Q : VK), Inv X pins σ H s → RelV x v → s.heap.IsSliceOf sl vl vu .none → IsPart vl lo → IsPart vu hi → r x lo hi H Q →
    ∃ T id, typeLookup (.type T) "__getitem__" = pure (some (.builtin id)) ∧ s.TypeIs v T ∧ wpAny (model X.prog X.w) X.A (getItem v (.ref sl)) (EP X pins σ Q) X.xe s
def tSl (r : V → Option Int → Option Int → Hp → VK → Prop) (te : TE) (tl th : TO) : TE := fun σ H Q => te σ H fun x H1 => tl σ H1 fun l H2 => th σ H2 fun u H3 => r x l u H3 Q
theorem pe_slice {r : V → Option Int → Option Int → Hp → VK → Prop} (hr : SlR X r) (he : PE X e te) (hl : PO X lo tl) (hu : PO X hi th) : PE X (.Subscript e (.Slice lo hi none p2) pos) (tSl r te tl th) := by
  intro pins s σ H Q I h
  refine Subscript_ (thn (he pins s σ H _ I h) fun v s1 ⟨x, H1, I1, r1, q1⟩ => ?_)
  refine wpAny_Slice (thn (hl pins s1 σ H1 _ I1 q1) fun vl s2 ⟨l, H2, I2, pl, q2⟩ => thn (hu pins s2 σ H2 _ I2 q2) fun vu s3 ⟨u, H3, I3, pu, q3⟩ => ?_)
  rw [evalPart_none]
  refine wpAny_pure ?_
  have I4 : Inv X pins σ H3 { s3 with heap := s3.heap.push { cls := .type "slice", data := .fields #[vl, vu, .none] } } := I3.kept (t' := s3.toks) fun b ob q => Heap.get?_push_of_some _ q
  obtain ⟨T, id, hT, ht, hg⟩ := hr pins { s3 with heap := s3.heap.push { cls := .type "slice", data := .fields #[vl, vu, .none] } } σ H3 x v vl vu l u s3.heap.objs.size Q I4 r1 (Heap.IsSliceOf.new ..) pl pu q3
  show wpAny (model X.prog X.w) X.A (subscriptTail e (.Slice lo hi none p2) v (.ref s3.heap.objs.size)) (EP X pins σ Q) X.xe { s3 with heap := s3.heap.push { cls := .type "slice", data := .fields #[vl, vu, .none] } }
  exact tail_any (ops := [.ref s3.heap.objs.size, v]) ht hT hg (by with_unfolding_all rfl)
def cutV (xs : List V) (lo hi : Option Int) : List V := (xs.drop (HT.sIx xs.length 0 lo)).take (HT.sIx xs.length xs.length hi - HT.sIx xs.length 0 lo)
theorem cutV_length (xs : List V) (lo hi : Option Int) : (cutV xs lo hi).length ≤ xs.length := by
  unfold cutV
  rw [List.length_take, List.length_drop]
  omega
def rSlT (K : PySem.W.Frag) : V → Option Int → Option Int → Hp → VK → Prop := fun x lo hi H Q => ∃ a xs, x = .ref a ∧ SqT K H a xs ∧
  ¬ (HT.sIx xs.length 0 lo = 0 ∧ HT.sIx xs.length xs.length hi = xs.length) ∧ ∀ p, H p = none → Q (.ref p) (upd H p (.tup (cutV xs lo hi)))
theorem sl_tup : SlR X (rSlT X.K) := by
  intro pins s σ H x v vl vu lo hi sl Q I rx hs pl pu h
  obtain ⟨a, xs, rfl, hx, hw, q⟩ := h
  cases rx
  obtain ⟨its, r, ht, hz⟩ := I.tuple hx
  have hlen : its.toArray.size = xs.length := by rw [List.size_toArray]; exact r.length.symm
  refine ⟨"tuple", _, PyProof.Rows.slot_tuple_getitem.lookup, ht.typeIs, ?_⟩
  refine HT.getItem_tuple_cut ht hs pl pu (by rw [hlen]; exact hw) ?_ (by rw [hlen]; exact hz)
  rw [hlen]
  refine ⟨.ref s.heap.objs.size, _, I.laid (t' := s.toks) (o := .tup (cutV xs lo hi)) (fun b ob q => Heap.get?_push_of_some _ q) (Nat.le_refl _) ?_, rfl, q _ (I.hok.fresh (Nat.le_refl _))⟩
  exact ⟨Nat.le_trans (cutV_length xs lo hi) hz, _, (r.drop (HT.sIx xs.length 0 lo)).take (HT.sIx xs.length xs.length hi - HT.sIx xs.length 0 lo), IsTup.new _ _⟩
def rCatT (K : PySem.W.Frag) : R2 := fun x y H Q => ∃ a b xs ys, x = .ref a ∧ y = .ref b ∧ SqT K H a xs ∧ SqT K H b ys ∧ xs ≠ [] ∧ xs.length + ys.length ≤ sizeLine ∧
  (ys = [] → Q (.ref a) H) ∧ (ys ≠ [] → ∀ p, H p = none → Q (.ref p) (upd H p (.tup (xs ++ ys))))
theorem Vals.nil_iff {xs : List V} {us : List Value} (r : Vals xs us) : us = [] ↔ xs = [] := by
  cases r with
  | nil => simp
  | cons _ _ => simp
theorem op_catT : OpR X (binaryOp .Add) (rCatT X.K) := by
  intro pins s σ H x y v u Q I rx ry h
  obtain ⟨a, b, xs, ys, rfl, rfl, ha, hb, hx, hz, q1, q2⟩ := h
  cases rx
  cases ry
  obtain ⟨its, r1, p1, _⟩ := I.tuple ha
  obtain ⟨its2, r2, p2, _⟩ := I.tuple hb
  refine HT.cat_tup p1 p2 (fun z => hx (r1.nil_iff.mp z)) (fun z => ⟨.ref a, H, I, rfl, q1 (r2.nil_iff.mp z)⟩) (fun z => ?_) (by rw [← r1.length, ← r2.length]; exact hz)
  refine ⟨.ref s.heap.objs.size, _, I.laid (t' := s.toks) (o := .tup (xs ++ ys)) (fun b ob q => Heap.get?_push_of_some _ q) (Nat.le_refl _) ?_, rfl, q2 (fun w => z (r2.nil_iff.mpr w)) _ (I.hok.fresh (Nat.le_refl _))⟩
  exact ⟨by rw [List.length_append]; exact hz, _, r1.append r2, IsTup.new _ _⟩
end
end L2
namespace L2
open PySem PySem.Spec PyProof.Rows
def ixN (n : Nat) (i : Int) : Option Nat := if 0 ≤ i then (if i < n then some i.toNat else none) else if -(n : Int) ≤ i then some (i + n).toNat else none
def atI {α : Type} (xs : List α) (i : Int) : Option α := (ixN xs.length i).bind fun j => xs[j]?
theorem ixN_seq {n : Nat} {i : Int} {j : Nat} (h : ixN n i = some j) : seqIndex? i n = some j ∧ j < n ∧ -(n : Int) ≤ i ∧ i < n := by
  unfold ixN at h
  by_cases h0 : 0 ≤ i
  · rw [if_pos h0] at h
    by_cases h1 : i < n
    · rw [if_pos h1] at h
      have e : i.toNat = j := Option.some.inj h
      exact ⟨by rw [seqIndex_of h0 h1, e], by omega, by omega, h1⟩
    · rw [if_neg h1] at h; cases h
  · rw [if_neg h0] at h
    by_cases h1 : -(n : Int) ≤ i
    · rw [if_pos h1] at h
      have e : (i + n).toNat = j := Option.some.inj h
      exact ⟨by rw [seqIndex_neg (by omega) h1, e], by omega, h1, by omega⟩
    · rw [if_neg h1] at h; cases h
theorem atI_get {α : Type} {xs : List α} {i : Int} {v : α} (h : atI xs i = some v) : ∃ j, seqIndex? i xs.length = some j ∧ xs[j]? = some v ∧ j < xs.length ∧ -(xs.length : Int) ≤ i ∧ i < xs.length := by
  unfold atI at h
  cases e : ixN xs.length i with
  | none => rw [e] at h; cases h
  | some j =>
    rw [e] at h
    obtain ⟨h1, h2, h3, h4⟩ := ixN_seq e
    exact ⟨j, h1, h, h2, h3, h4⟩
theorem atI_nat {α : Type} {xs : List α} {j : Nat} {v : α} (h : xs[j]? = some v) : atI xs (j : Int) = some v := by
  have hj : j < xs.length := (List.getElem?_eq_some_iff.mp h).1
  have e : ixN xs.length (j : Int) = some j := by
    unfold ixN
    rw [if_pos (by omega), if_pos (by omega)]; simp
  unfold atI; rw [e]; exact h
def PlainIx (b : Expr) : Prop := ∀ o i, subscripted b false o i = operate [o, i] (getItem o i)
def IxR (X : Cx) (r : R2) : Prop :=
  ∀ (value slice : Expr) (pins : List (Addr × Obj)) (s : Shared) (σ : St) (H : Hp) (x y : V) (v u : Value) (Q : VK), Inv X pins σ H s → RelV x v → RelV y u → r x y H Q →
    subscripted slice false v u = operate [v, u] (getItem v u) → wpAny (model X.prog X.w) X.A (subscriptTail value slice v u) (EP X pins σ Q) X.xe s
def MtR (X : Cx) (id : String) (r : V → List V → Hp → VK → Prop) : Prop :=
  ∀ (pins : List (Addr × Obj)) (s : Shared) (σ : St) (H : Hp) (x : V) (xs : List V) (v : Value) (us : List Value) (Q : VK), Inv X pins σ H s → RelV x v → Vals xs us → r x xs H Q →
    wpAny (model X.prog X.w) X.A (call (.builtin id) (v :: us)) (EP X pins σ Q) X.xe s
section
variable {X : Cx} {a b : Expr} {ta tb : TE} {pos : Pos}
theorem pe_ix {r : R2} (hr : IxR X r) (ha : PE X a ta) (hb : PE X b tb) (hs : PlainIx b) : PE X (.Subscript a b pos) (tOp r ta tb) := by
  intro pins s σ H Q I h
  exact Subscript_ (binT ha hb I h fun v u s2 x y H2 I2 rx ry q => hr a b pins s2 σ H2 x y v u Q I2 rx ry q (hs _ _))
def rIxL (K : PySem.W.Frag) : R2 := fun x y H Q => ∃ p xs i v, x = .ref p ∧ y = .int i ∧ SqL K H p xs ∧ atI xs i = some v ∧ Q v H
def rIxT (K : PySem.W.Frag) : R2 := fun x y H Q => ∃ p xs i v, x = .ref p ∧ y = .int i ∧ SqT K H p xs ∧ atI xs i = some v ∧ Q v H
theorem ix_list : IxR X (rIxL X.K) := by
  intro value slice pins s σ H x y v u Q I rx ry h hs
  obtain ⟨p, xs, i, z, rfl, rfl, hq, he, q⟩ := h
  cases rx
  obtain ⟨t, rfl⟩ := ry
  obtain ⟨its, r, pl, hz⟩ := I.list hq
  obtain ⟨j, h1, h2, h3, h4, h5⟩ := atI_get he
  obtain ⟨w, ew, rw'⟩ := r.get h2
  have hl := r.length
  have hn := line63
  have fin : EP X pins σ Q w s := ⟨z, H, I, rw', q⟩
  by_cases h0 : 0 ≤ i
  · have hj : i.toNat = j := by
      rw [seqIndex_of h0 h5] at h1
      exact Option.some.inj h1
    exact item_listR pl.isList h0 (by omega) (by rw [hj]; simpa using ew) fin hs
  · have hj : (i + (its.toArray.size : Int)).toNat = j := by
      rw [seqIndex_neg (by omega) h4] at h1
      rw [List.size_toArray, ← hl]
      exact Option.some.inj h1
    exact subscriptTail_builtinR (x := w) pl.isList.typeIs slot_list_getitem.lookup
      (wpAny_getItem_list_neg (Q := fun r s' => r = w ∧ EP X pins σ Q r s') pl.isList (by omega) (by rw [List.size_toArray] <;> omega) (by omega) (by rw [hj]; simpa using ew) ⟨rfl, fin⟩) hs
theorem ix_tup : IxR X (rIxT X.K) := by
  intro value slice pins s σ H x y v u Q I rx ry h hs
  obtain ⟨p, xs, i, z, rfl, rfl, hq, he, q⟩ := h
  cases rx
  obtain ⟨t, rfl⟩ := ry
  obtain ⟨its, r, pl, hz⟩ := I.tuple hq
  obtain ⟨j, h1, h2, h3, h4, h5⟩ := atI_get he
  obtain ⟨w, ew, rw'⟩ := r.get h2
  have hl := r.length
  have hn := line63
  have fin : EP X pins σ Q w s := ⟨z, H, I, rw', q⟩
  exact subscriptTail_builtinR (x := w) pl.typeIs slot_tuple_getitem.lookup
    (getItem_tuple (j := j) (Q := fun r s' => r = w ∧ EP X pins σ Q r s') pl (by omega) (by omega) (by rw [List.size_toArray, ← hl]; exact h1) (by simpa using ew) ⟨rfl, fin⟩) hs
theorem mapSeq_set (its : List Value) (n j : Nat) (u : Value) : Obj.mapSeq (·.setIfInBounds j u) { cls := .type "list", data := .seq its.toArray n } = { cls := .type "list", data := .seq (its.set j u).toArray n } := by
  simp [Obj.mapSeq]
theorem Inv.lst {pins : List (Addr × Obj)} {σ : St} {H : Hp} {s : Shared} {p : Addr} {xs : List V} (I : Inv X pins σ H s) (h : H p = some (.lst xs)) :
    ∃ (its : List Value) (n : Nat), Vals xs its ∧ s.heap.get? p = some { cls := .type "list", data := .seq its.toArray n } ∧ xs.length ≤ sizeLine := by
  obtain ⟨z, its, n, r, e⟩ := I.hok p _ h
  exact ⟨its, n, r, e, z⟩
theorem Inv.lstUpd {pins : List (Addr × Obj)} {σ : St} {H : Hp} {s : Shared} {p : Addr} {xs ys : List V} {its its' : List Value} {n n' : Nat} {f : Obj → Obj} (I : Inv X pins σ H s) (h : H p = some (.lst xs))
    (ho : s.heap.get? p = some { cls := .type "list", data := .seq its.toArray n }) (hf : f { cls := .type "list", data := .seq its.toArray n } = { cls := .type "list", data := .seq its'.toArray n' }) (r : Vals ys its') (hz : ys.length ≤ sizeLine) (t : Nat) :
    Inv X pins σ (upd H p (.lst ys)) { s with heap := s.heap.update p f, toks := t } := by
  have e : (s.heap.update p f).get? p = some { cls := .type "list", data := .seq its'.toArray n' } := by
    rw [Heap.get?_update_self f ho (by rw [hf] <;> rfl), hf]
  refine I.write (x := p) (e := p) (by rw [h]; trivial) (.inl rfl) (fun b u hb q => (Heap.get?_update_other _ _ (Ne.symm hb)).trans q) ⟨_, e⟩ ?_
  exact ⟨hz, its', n', r, e⟩
def rSetL : V → V → V → Hp → (Hp → Prop) → Prop := fun o i v H Q => ∃ p xs k j, o = .ref p ∧ i = .int k ∧ H p = some (.lst xs) ∧ ixN xs.length k = some j ∧ Q (upd H p (.lst (xs.set j v)))
theorem set_list : PSet X rSetL := by
  intro pins s σ H o i v ov iv u Q I ro ri rv h
  obtain ⟨p, xs, k, j, rfl, rfl, hp, hj, q⟩ := h
  cases ro
  obtain ⟨t, rfl⟩ := ri
  obtain ⟨its, n, r, ho, hz⟩ := I.lst hp
  obtain ⟨h1, h2, h3, h4⟩ := ixN_seq hj
  have hl := r.length
  have hn := line63
  have I' : Inv X pins σ (upd H p (.lst (xs.set j v))) { s with heap := s.heap.update p (Obj.mapSeq (·.setIfInBounds j u)) } :=
    I.lstUpd hp ho (mapSeq_set its n j u) (r.set rv j) (by rw [List.length_set]; exact hz) s.toks
  by_cases h0 : 0 ≤ k
  · have hk : k.toNat = j := by
      rw [seqIndex_of h0 h4] at h1
      exact Option.some.inj h1
    exact PySem.W.ki_setAt ho h0 (by omega) (by rw [List.size_toArray, ← hl]; exact h4) (by rw [hk]; exact ⟨_, I', q⟩)
  · have hk : (k + (its.toArray.size : Int)).toNat = j := by
      rw [seqIndex_neg (by omega) h3] at h1
      rw [List.size_toArray, ← hl]
      exact Option.some.inj h1
    exact PySem.W.ki_setBack ho (by omega) (by rw [List.size_toArray, ← hl]; exact h3) (by omega) (by rw [hk]; exact ⟨_, I', q⟩)
theorem slice_bounds (lo hi : Option Int) (n : Nat) : (sliceBounds lo hi none n).1 = ((HT.sIx n 0 lo : Nat) : Int) ∧ (sliceBounds lo hi none n).2.1 = ((HT.sIx n n hi : Nat) : Int) ∧ (sliceBounds lo hi none n).2.2 = 1 := by
  refine ⟨?_, ?_, rfl⟩
  · cases lo with
    | none => simp [sliceBounds, HT.sIx]
    | some i =>
      simp only [sliceBounds, HT.sIx, Option.getD_none, show (1 : Int) > 0 by decide, if_true]
      by_cases h : i < 0
      · simp only [h, if_true] <;> omega
      · simp only [h, if_false] <;> omega
  · cases hi with
    | none => simp [sliceBounds, HT.sIx]
    | some i =>
      simp only [sliceBounds, HT.sIx, Option.getD_none, show (1 : Int) > 0 by decide, if_true]
      by_cases h : i < 0
      · simp only [h, if_true] <;> omega
      · simp only [h, if_false] <;> omega
theorem slicePick_cut (its : List Value) (lo hi : Option Int) : slicePick its.toArray lo hi none = ((its.drop (HT.sIx its.length 0 lo)).take (HT.sIx its.length its.length hi - HT.sIx its.length 0 lo)).toArray := by
  obtain ⟨h1, h2, h3⟩ := slice_bounds lo hi its.toArray.size
  unfold slicePick
  rw [h1, h2, h3]
  simp only [sliceRange_one, pick_run, List.size_toArray] <;> rfl
def rSlL (K : PySem.W.Frag) : V → Option Int → Option Int → Hp → VK → Prop := fun x lo hi H Q => ∃ a xs, x = .ref a ∧ SqL K H a xs ∧ ∀ p, H p = none → Q (.ref p) (upd H p (.lst (cutV xs lo hi)))
theorem sl_list : SlR X (rSlL X.K) := by
  intro pins s σ H x v vl vu lo hi sl Q I rx hs pl pu h
  obtain ⟨a, xs, rfl, hx, q⟩ := h
  cases rx
  obtain ⟨its, r, ht, hz⟩ := I.list hx
  have hlen := r.length
  refine ⟨"list", _, slot_list_getitem.lookup, ht.isList.typeIs, ?_⟩
  refine wpAny_getItem_list_slice ht.isList hs pl pu .none (by simp) ?_ (by rw [List.size_toArray] <;> omega)
  rw [slicePick_cut, ← hlen]
  refine ⟨.ref s.heap.objs.size, _, I.laid (t' := s.toks) (o := .lst (cutV xs lo hi)) (fun b ob q => Heap.get?_push_of_some _ q) (Nat.le_refl _) ?_, rfl, q _ (I.hok.fresh (Nat.le_refl _))⟩
  exact ⟨Nat.le_trans (cutV_length xs lo hi) hz, _, 0, (r.drop (HT.sIx xs.length 0 lo)).take (HT.sIx xs.length xs.length hi - HT.sIx xs.length 0 lo), Heap.get?_push_size _ rfl⟩
def flatV : V → Bool
  | .non => true
  | .bl _ => true
  | .int _ => true
  | .str _ => true
  | _ => false
def eqV : V → V → Bool
  | .non, .non => true
  | .bl a, .bl b => a == b
  | .bl a, .int b => (if a then 1 else 0) == b
  | .int a, .bl b => a == (if b then 1 else 0)
  | .int a, .int b => a == b
  | .str a, .str b => a == b
  | _, _ => false
theorem eqAt_V {A : Around} {s : Shared} {y x : V} {u v : Value} (ry : RelV y u) (rx : RelV x v) (fy : flatV y = true) (fx : flatV x = true) : SeqAt.EqAt A s u v (eqV y x) := by
  cases y with
  | non =>
    cases ry
    cases x with
    | non => cases rx; exact SeqAt.EqAt.same _
    | bl b => cases rx; exact SeqAt.EqAt.none_bool b
    | int b => obtain ⟨t, rfl⟩ := rx; exact SeqAt.EqAt.none_int b t
    | str b => obtain ⟨t, rfl⟩ := rx; exact SeqAt.EqAt.none_str b t
    | _ => exact absurd (show false = true from fx) Bool.false_ne_true
  | bl a =>
    cases ry
    cases x with
    | non => cases rx; exact SeqAt.EqAt.bool_none a
    | bl b => cases rx; exact SeqAt.EqAt.bool_bool a b
    | int b => obtain ⟨t, rfl⟩ := rx; exact SeqAt.EqAt.bool_int a b t
    | str b => obtain ⟨t, rfl⟩ := rx; exact SeqAt.EqAt.bool_str a b t
    | _ => exact absurd (show false = true from fx) Bool.false_ne_true
  | int a =>
    obtain ⟨t', rfl⟩ := ry
    cases x with
    | non => cases rx; exact SeqAt.EqAt.int_none a t'
    | bl b => cases rx; exact SeqAt.EqAt.int_bool a t' b
    | int b => obtain ⟨t, rfl⟩ := rx; exact SeqAt.EqAt.int_int a t' b t
    | str b => obtain ⟨t, rfl⟩ := rx; exact SeqAt.EqAt.int_str a t' b t
    | _ => exact absurd (show false = true from fx) Bool.false_ne_true
  | str a =>
    obtain ⟨t', rfl⟩ := ry
    cases x with
    | non => cases rx; exact SeqAt.EqAt.str_none a t'
    | bl b => cases rx; exact SeqAt.EqAt.str_bool a t' b
    | int b => obtain ⟨t, rfl⟩ := rx; exact SeqAt.EqAt.str_int a t' b t
    | str b => obtain ⟨t, rfl⟩ := rx; exact SeqAt.EqAt.str_str a t' b t
    | _ => exact absurd (show false = true from fx) Bool.false_ne_true
  | _ => exact absurd (show false = true from fy) Bool.false_ne_true
def eqU (x : V) (u : Value) : Bool := match u with
  | .none => eqV .non x
  | .bool b => eqV (.bl b) x
  | .int i _ => eqV (.int i) x
  | .str z _ => eqV (.str z) x
  | _ => false
theorem eqU_of {x y : V} {u : Value} (r : RelV y u) (f : flatV y = true) : eqU x u = eqV y x := by
  cases y with
  | non => cases r; rfl
  | bl b => cases r; rfl
  | int i => obtain ⟨t, rfl⟩ := r; rfl
  | str z => obtain ⟨t, rfl⟩ := r; rfl
  | _ => exact absurd (show false = true from f) Bool.false_ne_true
theorem any_eqU {x : V} : ∀ {xs : List V} {us : List Value}, Vals xs us → xs.all flatV = true → us.any (eqU x) = xs.any fun y => eqV y x
  | _, _, .nil, _ => rfl
  | y :: xs, u :: us, .cons r t, f => by
    rw [List.all_cons, Bool.and_eq_true] at f
    rw [List.any_cons, List.any_cons, eqU_of r f.1, any_eqU t f.2]
theorem mem_eqAt {A : Around} {s : Shared} {x : V} {v : Value} (rx : RelV x v) (fx : flatV x = true) : ∀ {xs : List V} {us : List Value}, Vals xs us → xs.all flatV = true → ∀ u ∈ us, SeqAt.EqAt A s u v (eqU x u)
  | _, _, .nil, _ => fun u hu => by cases hu
  | y :: xs, u :: us, .cons r t, f => fun u' hu => by
    rw [List.all_cons, Bool.and_eq_true] at f
    rcases List.mem_cons.mp hu with rfl | hu
    · rw [eqU_of r f.1]; exact eqAt_V r rx f.1 fx
    · exact mem_eqAt rx fx t f.2 u' hu
def inV (x : V) (xs : List V) : Bool := xs.any fun y => eqV y x
def rIn (K : PySem.W.Frag) (neg : Bool) : R2 := fun x y H Q => ∃ p xs, y = .ref p ∧ (SqL K H p xs ∨ SqT K H p xs) ∧ flatV x = true ∧ xs.all flatV = true ∧ Q (.bl (if neg then !inV x xs else inV x xs)) H
theorem op_notIn_seq : OpR X (compareOp .NotIn) (rIn X.K true) := by
  intro pins s σ H x y v u Q I rx ry h
  obtain ⟨p, xs, rfl, hq, fx, fs, q⟩ := h
  cases ry
  rcases hq with hq | hq
  · obtain ⟨its, r, pl, hz⟩ := I.list hq
    refine SeqAt.notIn_listAt (eqU x) pl.isList (fun w hw => mem_eqAt rx fx r fs w (by simpa using hw)) ⟨.bl _, H, I, rfl, ?_⟩
    rw [show its.toArray.any (eqU x) = its.any (eqU x) by simp, any_eqU r fs]
    exact q
  · obtain ⟨its, r, pl, hz⟩ := I.tuple hq
    refine SeqAt.notIn_tupleAt (eqU x) pl (fun w hw => mem_eqAt rx fx r fs w (by simpa using hw)) ⟨.bl _, H, I, rfl, ?_⟩
    rw [show its.toArray.any (eqU x) = its.any (eqU x) by simp, any_eqU r fs]
    exact q
theorem call_len_seq : CallR X (.builtin "len") (fun xs H Q => ∃ p ys, xs = [.ref p] ∧ (SqL X.K H p ys ∨ SqT X.K H p ys) ∧ Q (.int ys.length) H) := by
  intro pins s σ H xs us Q I r h
  obtain ⟨p, ys, rfl, hq, q⟩ := h
  obtain ⟨u, rfl, rx⟩ := vals1 r
  cases rx
  have hn := line63
  rcases hq with hq | hq
  · obtain ⟨its, r', pl, hz⟩ := I.list hq
    have hlen := r'.length
    exact Calls.call_len_list pl.isList (by simp only [List.size_toArray] <;> omega) ⟨.int ys.length, H, I.tok _, ⟨s.toks + 1, by rw [List.size_toArray, hlen]⟩, q⟩
  · obtain ⟨its, r', pl, hz⟩ := I.tuple hq
    have hlen := r'.length
    exact len_tuple pl (by simp only [List.size_toArray] <;> omega) ⟨.int ys.length, H, I.tok _, ⟨s.toks + 1, by rw [List.size_toArray, hlen]⟩, q⟩
theorem call_list_of : CallR X (.type "list") (fun xs H Q => ∃ p ys, xs = [.ref p] ∧ (SqL X.K H p ys ∨ SqT X.K H p ys) ∧ ∀ l, H l = none → Q (.ref l) (upd H l (.lst ys))) := by
  intro pins s σ H xs us Q I r h
  obtain ⟨p, ys, rfl, hq, q⟩ := h
  obtain ⟨u, rfl, rx⟩ := vals1 r
  cases rx
  have fin : ∀ (its : List Value), Vals ys its → ys.length ≤ sizeLine → ∀ (h' : Heap) (c' : Nat), (∀ b o', s.heap.get? b = some o' → h'.get? b = some o') →
      h'.get? s.heap.objs.size = some { cls := .type "list", dict := none, data := .seq its.toArray c', slots := #[] } → EP X pins σ Q (.ref s.heap.objs.size) { s with heap := h' } := fun its r' hz h' c' kp e =>
    ⟨.ref s.heap.objs.size, _, I.laid (t' := s.toks) kp (Nat.le_refl _) (show ObjOk X.prog X.w _ h' _ (.lst ys) from ⟨hz, its, c', r', e⟩), rfl, q _ (I.hok.fresh (Nat.le_refl _))⟩
  rcases hq with hq | hq
  · obtain ⟨its, r', pl, hz⟩ := I.list hq
    have hlen := r'.length
    obtain ⟨o, ho, hc, n, hd⟩ := pl.isList
    exact call_list_seq p (.inl rfl) ho hc hd (fun h' c' kp e => fin its r' hz h' c' kp e) (by simp only [List.size_toArray] <;> omega)
  · obtain ⟨its, r', pl, hz⟩ := I.tuple hq
    have hlen := r'.length
    obtain ⟨o, ho, hc, n, hd⟩ := pl
    exact call_list_seq p (.inr rfl) ho hc hd (fun h' c' kp e => fin its r' hz h' c' kp e) (by simp only [List.size_toArray] <;> omega)
theorem call_tuple_of : CallR X (.type "tuple") (fun xs H Q => ∃ p ys, xs = [.ref p] ∧ ((SqL X.K H p ys ∧ ∀ l, H l = none → Q (.ref l) (upd H l (.tup ys))) ∨ (SqT X.K H p ys ∧ Q (.ref p) H))) := by
  intro pins s σ H xs us Q I r h
  obtain ⟨p, ys, rfl, h⟩ := h
  obtain ⟨u, rfl, rx⟩ := vals1 r
  cases rx
  rcases h with ⟨hq, q⟩ | ⟨hq, q⟩
  · obtain ⟨its, r', pl, hz⟩ := I.list hq
    have hlen := r'.length
    refine call_tuple_list pl.isList (fun h' kp => ?_) (by simp only [List.size_toArray] <;> omega)
    have I1 : Inv X pins σ H { s with heap := h' } := I.kept (t' := s.toks) kp
    have I2 : Inv X pins σ (upd H h'.objs.size (.tup ys)) { s with heap := h'.push { cls := .type "tuple", data := .seq its.toArray } } :=
      I1.laid (t' := s.toks) (fun b o e => Heap.get?_push_of_some _ e) (Nat.le_refl _) (show ObjOk X.prog X.w _ _ _ (.tup ys) from ⟨hz, its, r', IsTup.new _ _⟩)
    exact ⟨.ref h'.objs.size, _, I2, rfl, q _ (I1.hok.fresh (Nat.le_refl _))⟩
  · obtain ⟨its, r', pl, hz⟩ := I.tuple hq
    exact call_tuple_same pl ⟨.ref p, H, I, rfl, q⟩
def tyV (K : PySem.W.Frag) (T : String) (x : V) (H : Hp) : Prop := match x with
  | .str _ => T = "str"
  | .int _ => T = "int"
  | .ref p => (T = "list" ∧ ∃ xs, SqL K H p xs) ∨ (T = "tuple" ∧ ∃ o, K.lookup p = some o ∧ o.cls = .type "tuple" ∧ o.dict = none) ∨
      (T = "dict" ∧ ((∃ kvs, H p = some (.dK kvs)) ∨ ∃ kvs, H p = some (.dT kvs))) ∨ (T = "set" ∧ ∃ S n, H p = some (.set S n))
  | _ => False
theorem tyV_is {pins : List (Addr × Obj)} {σ : St} {H : Hp} {s : Shared} {T : String} {x : V} {v : Value} (I : Inv X pins σ H s) (r : RelV x v) (ty : tyV X.K T x H) :
    s.TypeIs v T ∧ ∀ a, v = .ref a → ∃ ob, s.heap.get? a = some ob ∧ ob.dict = none := by
  cases x with
  | str z =>
    obtain ⟨t, rfl⟩ := r
    cases (show T = "str" from ty)
    exact ⟨typeIs_str s z t, fun _ e => nomatch e⟩
  | int i =>
    obtain ⟨t, rfl⟩ := r
    cases (show T = "int" from ty)
    exact ⟨typeIs_int s i t, fun _ e => nomatch e⟩
  | ref p =>
    cases r
    rcases ty with ⟨rfl, xs, hq⟩ | ⟨rfl, o, hk, hc, hd⟩ | ⟨rfl, hk⟩ | ⟨rfl, S, n, hk⟩
    · obtain ⟨its, _, pl, _⟩ := I.list hq
      refine ⟨pl.isList.typeIs, fun a e => ?_⟩
      cases e
      obtain ⟨o, n, e, c, hd, _⟩ := pl
      exact ⟨o, e, hd⟩
    · refine ⟨⟨o, I.kIn p o hk, hc⟩, fun a e => ?_⟩
      cases e
      exact ⟨o, I.kIn _ o hk, hd⟩
    · have z : ∃ o, s.heap.get? p = some o ∧ o.ExactDict := by
        rcases hk with ⟨kvs, hk⟩ | ⟨kvs, hk⟩
        · obtain ⟨_, _, _, _, o, _, _, e, ex, _⟩ := I.hok p _ hk
          exact ⟨o, e, ex⟩
        · obtain ⟨_, _, _, _, o, _, _, e, ex, _⟩ := I.hok p _ hk
          exact ⟨o, e, ex⟩
      obtain ⟨o, e, ex⟩ := z
      refine ⟨⟨o, e, ex.1⟩, fun a e2 => ?_⟩
      cases e2
      exact ⟨o, e, ex.2.1⟩
    · obtain ⟨o, _, _, _, e, ex, _⟩ := I.hok p _ hk
      refine ⟨⟨o, e, ex.1⟩, fun a e2 => ?_⟩
      cases e2
      exact ⟨o, e, ex.2.1⟩
  | _ => exact False.elim ty
def tBM (K : PySem.W.Frag) (T : String) (r : V → List V → Hp → VK → Prop) (to : TE) (t : TA) : TE := fun σ H Q => to σ H fun x H1 => tyV K T x H1 ∧ t σ H1 fun xs H2 => r x xs H2 Q
variable {o e : Expr} {es : List Expr} {to : TE} {t : TA} {name : Str} {apos cpos : Pos} {T id : String} {r : V → List V → Hp → VK → Prop}
theorem pe_bm (pa : PlainAttrs T) (slot : Slot T name id) (hty : typeOf (.builtin id) = pure (.type "method_descriptor")) (hm : MtR X id r) (ho : PE X o to) (ha : PA X (e :: es) t)
    (hbase : attributeBase o name X.env (eval o X.env) = eval o X.env := by rfl)
    (hfew : ((backTo cpos (starEach (e :: es) X.env)).all (fun x => !x.1) && (backToKw cpos (keywordEach [] X.env)).all (fun x => x.1.isSome)
      && decide ((e :: es).length + ([] : List Keyword).length + (if ([] : List Keyword).isEmpty then 0 else 1) < 30)) = true := by rfl)
    (hline : (apos.endLine == cpos.line) = true := by rfl) (hs : starEach (e :: es) X.env = (false, eval e X.env) :: starEach es X.env := by rfl) (hplain : (backTo cpos (starEach es X.env)).any (·.1) = false := by rfl) :
    PE X (.Call (.Attribute o name apos) (e :: es) [] cpos) (tBM X.K T r to t) := by
  intro pins s σ H Q I h
  refine wpAny_Call_method_late hbase hfew hline rfl (thn (ho pins s σ H _ I h) fun v s1 ⟨x, H1, I1, r1, ty, q1⟩ => ?_)
  obtain ⟨h1, h2⟩ := tyV_is I1 r1 ty
  refine ⟨T, id, pa, slot, hty, h1, h2, ?_⟩
  have hA := ha cpos pins s1 σ H1 _ I1 q1
  rw [hs] at hA ⊢
  refine Calls.callWith_builtin (by show (false || (backTo cpos (starEach es X.env)).any (·.1)) = false; rw [hplain] <;> rfl) (Calls.evalArgs_plain ?_)
  exact thn hA fun us s2 ⟨vs, H2, I2, r2, q2⟩ => hm pins s2 σ H2 x vs v us Q I2 r1 r2 q2
end
end L2
namespace L2
open PySem PySem.Spec PyProof.Rows
def MtM (X : Cx) (id : String) (r : V → List V → Hp → VK → Prop) : Prop :=
  ∀ (pins : List (Addr × Obj)) (s : Shared) (σ : St) (H : Hp) (x : V) (xs : List V) (v : Value) (us : List Value) (Q : VK), Inv X pins σ H s → RelV x v → Vals xs us → r x xs H Q →
    wpAny (model X.prog X.w) X.A (call (.builtin id) (v :: us)) (EP X pins σ Q) X.xe s
theorem Vals.one : ∀ {x : V} {us : List Value}, Vals [x] us → ∃ u, us = [u] ∧ RelV x u
  | _, _, .cons r .nil => ⟨_, rfl, r⟩
theorem Vals.two : ∀ {x y : V} {us : List Value}, Vals [x, y] us → ∃ u v, us = [u, v] ∧ RelV x u ∧ RelV y v
  | _, _, _, .cons r (.cons q .nil) => ⟨_, _, rfl, r, q⟩
theorem Vals.zero : ∀ {us : List Value}, Vals [] us → us = []
  | _, .nil => rfl
theorem Vals.dropLast {xs : List V} {us : List Value} (h : Vals xs us) : Vals xs.dropLast us.dropLast := by
  induction h with
  | nil => exact .nil
  | cons r t ih =>
    cases t with
    | nil => exact .nil
    | cons q t' => exact .cons r ih
theorem Vals.eraseIdx : ∀ {xs : List V} {us : List Value} (i : Nat), Vals xs us → Vals (xs.eraseIdx i) (us.eraseIdx i)
  | _, _, _, .nil => .nil
  | _, _, 0, .cons _ t => t
  | _, _, i + 1, .cons r t => .cons r (Vals.eraseIdx i t)
theorem Vals.reverse {xs : List V} {us : List Value} (h : Vals xs us) : Vals xs.reverse us.reverse := by
  induction h with
  | nil => exact .nil
  | cons r t ih => rw [List.reverse_cons, List.reverse_cons]; exact Vals.append ih (.cons r .nil)
section
variable {X : Cx} {pins : List (Addr × Obj)} {σ : St} {H : Hp} {s : Shared} {l b : Addr} {xs ys zs : List V}
theorem Inv.lset {its its' : List Value} {n : Nat} {f : Array Value → Array Value} {t' : Nat} (I : Inv X pins σ H s) (hH : H l = some (.lst xs))
    (e : s.heap.get? l = some { cls := .type "list", data := .seq its.toArray n }) (hf : f its.toArray = its'.toArray) (hv : Vals ys its') (hz : ys.length ≤ sizeLine) :
    Inv X pins σ (upd H l (.lst ys)) { s with heap := s.heap.update l (Obj.mapSeq f), toks := t' } := by
  have q := PySem.IsL.update e f
  rw [hf] at q
  refine I.write (x := l) (e := l) (by rw [hH]; exact trivial) (.inl rfl) (fun b' u hb hu => (Heap.get?_update_other s.heap (Obj.mapSeq f) (Ne.symm hb)).trans hu) ⟨_, q⟩ ?_
  exact ⟨hz, its', _, hv, q⟩
theorem Inv.lnew {its : List Value} {t' : Nat} (I : Inv X pins σ H s) (hv : Vals ys its) (hz : ys.length ≤ sizeLine) :
    Inv X pins σ (upd H s.heap.objs.size (.lst ys)) { s with heap := s.heap.push { cls := .type "list", data := .seq its.toArray }, toks := t' } :=
  I.laid (fun _ _ q => Heap.get?_push_of_some _ q) (Nat.le_refl _) ⟨hz, its, 0, hv, Heap.get?_push_size _ rfl⟩
theorem Inv.fresh (I : Inv X pins σ H s) : H s.heap.objs.size = none := I.hok.fresh (Nat.le_refl _)
theorem Inv.lstM (I : Inv X pins σ H s) (hH : H l = some (.lst xs)) : xs.length ≤ sizeLine ∧ ∃ (its : List Value) (n : Nat), Vals xs its ∧ xs.length = its.length ∧ s.heap.get? l = some { cls := .type "list", data := .seq its.toArray n } := by
  obtain ⟨z, its, n, r, e⟩ := I.hok l _ hH
  exact ⟨z, its, n, r, r.length, e⟩
end
section
variable {X : Cx}
def rAppend : V → List V → Hp → VK → Prop := fun x vs H Q => ∃ l xs y, x = .ref l ∧ vs = [y] ∧ H l = some (.lst xs) ∧ xs.length < sizeLine ∧ Q .non (upd H l (.lst (xs ++ [y])))
theorem mt_append : MtM X "list.append" rAppend := by
  intro pins s σ H x vs v us Q I rx rv h
  obtain ⟨l, xs, y, rfl, rfl, hH, hz, q⟩ := h
  cases rx
  obtain ⟨u, rfl, ru⟩ := rv.one
  obtain ⟨z, its, n, r, hl, e⟩ := I.lstM hH
  refine call_meets F.slot_list_append ⟨_, e, rfl⟩ F.entry_list_append (F.args_list_append_2 _ _) (PySem.list_append l its.toArray n u (by rw [List.size_toArray]; omega)) ⟨e, ?_⟩
  refine ⟨.non, _, I.lset (its' := its ++ [u]) hH e (by simp) (r.append (.cons ru .nil)) ?_, rfl, q⟩
  rw [List.length_append, List.length_singleton]
  omega
def rCat : R2 := fun x y H Q => ∃ l b xs zs, x = .ref l ∧ y = .ref b ∧ H l = some (.lst xs) ∧ H b = some (.lst zs) ∧ xs.length + zs.length ≤ sizeLine ∧ ∀ p, H p = none → Q (.ref p) (upd H p (.lst (xs ++ zs)))
theorem op_cat : OpR X (binaryOp .Add) rCat := by
  intro pins s σ H x y v u Q I rx ry h
  obtain ⟨l, b, xs, zs, rfl, rfl, hH, hB, hz, q⟩ := h
  cases rx
  cases ry
  obtain ⟨z, its, n, r, hl, e⟩ := I.lstM hH
  obtain ⟨z2, its2, n2, r2, hl2, e2⟩ := I.lstM hB
  refine PySem.P.add_list e e2 ?_ (by rw [List.size_toArray, List.size_toArray]; omega)
  have ea : its.toArray ++ its2.toArray = (its ++ its2).toArray := by simp
  rw [ea]
  exact ⟨.ref _, _, I.lnew (t' := s.toks) (r.append r2) (by rw [List.length_append]; omega), rfl, q _ I.fresh⟩
end
end L2
namespace Att
open PySem PySem.W PySem.Calls PyProof.Rows
theorem ints_of_wellAll {P : Params} {h : Heap} : ∀ (ns : List Int) (vs : List Value), WellAll P h vs (ns.map WData.int) → IntsAre vs ns := by
  intro ns
  induction ns with
  | nil =>
    intro vs w
    rw [List.map_nil] at w
    cases w
    exact .nil
  | cons n ns ih =>
    intro vs w
    rw [List.map_cons] at w
    cases w with
    | cons a b =>
      cases a
      exact .cons _ _ (ih _ b)
theorem script_of {l : OpenLaw} {n : Nat} (hn : l.most = some n) {P : Params} {h : Heap} {args : List WData} {vals : List Value}
    (hpre : l.row.toRowW.claim.pre args = true) (hwl : WellAll P h vals args) :
    ∃ a vs ns, vals = [Value.ref a] ∧ args = [WData.list (ns.map WData.int)] ∧ h.get? a = some { cls := .type "list", data := .seq vs.toArray } ∧ IntsAre vs ns ∧ ns.length ≤ n := by
  have hsh : WShape.hasAll [] args [.list .int] = true := (pre_splitW hpre).1
  have hc : l.pre.holds [] { args := args } = true := (pre_splitW hpre).2
  obtain ⟨d, r, rfl, h1, h2⟩ := hasAllW_cons hsh
  obtain rfl := hasAllW_nil h2
  obtain ⟨xs, rfl, h3⟩ := hasW_list h1
  obtain ⟨ns, rfl⟩ := items_int h3
  have hlen : ns.length ≤ n := by
    unfold OpenLaw.pre at hc
    have h4 : (WTm.not (.lt (.lit (.int (n : Int))) (.len (.arg 0)))).holds [] { args := [.list (ns.map .int)] } = true := by
      have h4 := (holds_andW hc).1
      rw [hn] at h4
      exact h4
    have h5 := condW_of h4 (w_not (w_lt w_lit (w_len_list (w_arg rfl))))
    rw [List.length_map] at h5
    refine Nat.le_of_not_lt fun q => ?_
    have q' : (n : Int) < ((ns.length : Nat) : Int) := by omega
    first
      | (rw [decide_eq_true q'] at h5; exact absurd h5 (by decide))
      | (simp at h5; omega)
  cases hwl with
  | cons w1 w2 =>
    cases w2
    cases w1 with
    | list ho hall => exact ⟨_, _, ns, rfl, rfl, ho, ints_of_wellAll ns _ hall, hlen⟩
theorem post_true (l : OpenLaw) (args : List WData) : l.row.toRowW.claim.post args (.bool true) args = true :=
  postW_of (r := l.row.toRowW) (X := (true == true))
    (show WShape.has [] (.bool true) .bool = true by first | rfl | decide | simp [WShape.has, WShape.arms, WShape.armsAll])
    (show (WTm.eq .res (.lit (.bool true))).value [] { args := args, res := some (.bool true), after := args } = some (.bool (true == true)) from w_eq_bool (w_res rfl) w_lit) rfl
theorem attach_call {l : OpenLaw} {n : Nat} {q : Program} {loose : List Str} {XP : (Str → Option Value) → Heap → Prop} {YP : World → Heap → Prop} {d : DefRec}
    (hn : l.most = some n) (hdf : d.params.defaults = [])
    (call : ∀ (w : World) (s₀ s₁ : Shared) (mg mb : Str → Option Value) (fa : Addr) (o : Obj) (pm cd doc : Value) (a : Addr) (vs : List Value) (ns : List Int),
      Ground q loose [] XP w s₀ mg mb s₁.heap → YP w s₁.heap →
      s₁.heap.get? fa = some o → o.data = .func (docDef d.name d.params d.body d.scope pm cd doc) → s₁.heap.CodeRec cd d.name → mg d.name = some (.ref fa) →
      s₁.heap.get? a = some { cls := .type "list", data := .seq vs.toArray } → IntsAre vs ns → ns.length ≤ n → s₁.gens = #[] →
      codeAny (model l.prog w) callerA (.call (.ref fa) ⟨[.ref a], []⟩) (fun r s' => r = .ok (.ret (.bool true)) ∧ OldK s₁.heap s'.heap ∧ s'.os = s₁.os ∧ AllBare s'.gens) s₁) :
    WalkO q loose XP YP l.row.toRowW d [] (fun f vs => PySem.call f vs) := by
  intro w s₀ s₁ mg mb G Y fa o pm cd doc dV kV ho hd hcd hD hmg hg args vals as hpre hlay hrd hwl hlo
  obtain rfl : dV = .none := Dflts.none hD hdf
  obtain rfl : kV = .none := Dflts.noKw hD
  obtain ⟨a, vs, ns, rfl, rfl, hobj, hints, hlen⟩ := script_of hn hpre hwl
  refine enter_call (codeAny_mono (call w s₀ s₁ mg mb fa o pm cd doc a vs ns G Y ho (fd_plain hd) hcd hmg hobj hints hlen hg) fun r s' hq => ?_)
  obtain ⟨rfl, h2, h3, h4⟩ := hq
  exact ⟨.inl ⟨.bool true, .bool true, [], rfl, fun _ => rfl, .bool true, post_true l _, fun _ => ⟨List.Pairwise.nil, fun _ hm => (nomatch hm)⟩⟩, h2, h3, h4⟩
end Att
namespace L2
open PySem PySem.Spec PyProof.Rows
theorem vals_ints : ∀ {vs : List Value} {ns : List Int}, IntsAre vs ns → Vals (ns.map V.int) vs
  | _, _, .nil => .nil
  | _, _, .cons n t h => .cons ⟨t, rfl⟩ (vals_ints h)
def Only (H : Hp) : Prop := ∀ b, H b = none ∨ ∃ o xs, H b = some (.frz o (.lst xs))
theorem law_call {P : Program} {w : World} {K : PySem.W.Frag} {mg mb : Str → Option Value} {CX : CXT} {k : Nat} {fa a : Addr} {fd : FuncData} {x : Str} {sp : Sp} {s₁ : Shared} {vs : List Value} {ns : List Int}
    (KX : K.In s₁.heap) (hns : s₁.heap.Ns mainGlobals mg) (hb : s₁.heap.Ns builtinsNs mb) (hbb : ∀ x : Str, x ≠ "__name__" → mb x = bootBuiltins x) (hlim : s₁.heap.NoLimit) (hg : s₁.gens = #[])
    (ha : s₁.heap.get? a = some { cls := .type "list", data := .seq vs.toArray }) (hi : IntsAre vs ns) (hl : ns.length ≤ sizeLine) (hr : Room k callerA)
    (F : ∀ base : Heap, K.In base → base.Ns mainGlobals mg → FnOk P w K mg base CX k fa fd [x] sp) (hbind : ∀ (s : Shared) (u : Value), BindsTo s fd ⟨[u], []⟩ [(x, u)])
    (hsp : ∀ H : Hp, Only H → SqL K H a (ns.map V.int) → sp [.ref a] H (fun v _ => v = .bl true) fun _ _ _ => False)
    (hCX : ∀ H e s', CX [] H s₁ (fun _ _ _ => False) e s' → False) :
    codeAny (model P w) callerA (.call (.ref fa) ⟨[.ref a], []⟩) (fun r s' => r = .ok (.ret (.bool true)) ∧ OldK s₁.heap s'.heap ∧ s'.os = s₁.os ∧ AllBare s'.gens) s₁ := by
  have rv := vals_ints hi
  have lenV := hi.length
  -- from an abstract heap in which nothing but the script may be tracked
  have core : ∀ H : Hp, Only H → SqL K H a (ns.map V.int) → HOk P w H s₁.heap → (∀ b, H b ≠ none → b = a) → (H a ≠ none → K.lookup a = none) →
      codeAny (model P w) callerA (.call (.ref fa) ⟨[.ref a], []⟩) (fun r s' => r = .ok (.ret (.bool true)) ∧ OldK s₁.heap s'.heap ∧ s'.os = s₁.os ∧ AllBare s'.gens) s₁ := by
    intro H hO hS hok hA hK
    have base_of : ∀ {b : Addr} {o : Obj}, s₁.heap.get? b = some o → H b = none → (hidT s₁.heap H).get? b = some o := fun e n => hidT_get e n
    have noA : ∀ {b : Addr} {o : Obj} {es : Array DictEntry} {ep : Nat}, s₁.heap.get? b = some o → o.data = .dict es ep → H b = none := fun {b o es ep} e d => by
      cases q : H b with
      | none => rfl
      | some u =>
        have e' : b = a := hA b (by rw [q]; simp)
        subst e'
        rw [ha] at e; cases e
        have d' : Data.seq vs.toArray _ = Data.dict es ep := d
        cases d'
    have nsK : ∀ {b : Addr} {m : Str → Option Value}, s₁.heap.Ns b m → (hidT s₁.heap H).Ns b m := fun {b m} ⟨o, es, ep, e, d, r⟩ => ⟨o, es, ep, base_of e (noA e d), d, r⟩
    have hKb : K.In (hidT s₁.heap H) := fun b o e => base_of (KX b o e) (by
      cases q : H b with
      | none => rfl
      | some u =>
        have e' : b = a := hA b (by rw [q]; simp)
        subst e'
        rw [hK (by rw [q]; simp)] at e; cases e)
    have hM : Mod K mg (hidT s₁.heap H) := ⟨hKb, nsK hns, ⟨mb, nsK hb, hbb⟩, let ⟨mc, h1, h2⟩ := hlim; ⟨mc, nsK h1, h2⟩⟩
    have e0 : Env0 P w K mg (hidT s₁.heap H) callerA [] s₁ H := ⟨rfl, hM, fun b o e => of_hidT e, Nat.le_of_eq (hidT_size _ _), trivial, fun b hb => absurd (show b ∈ ([] : List Addr) from hb) (by simp), hok, .of_eq hg⟩
    refine codeAny_mono ((F _ hKb (nsK hns)).run callerA [] s₁ H ⟨[.ref a], []⟩ [.ref a] [.ref a] _ _ hr e0 (hbind s₁ (.ref a)) (.cons rfl .nil) (hsp H hO hS)) fun r s' h => ?_
    cases r with
    | error e => exact (hCX H e s' h).elim
    | ok fl =>
      cases fl with
      | next => exact False.elim h
      | brk => exact False.elim h
      | cont => exact False.elim h
      | ret u =>
        obtain ⟨v, H', os, bare, un, hok', r', q⟩ := h
        have q' : v = .bl true := q
        subst q'
        obtain rfl : u = Value.bool true := r'
        refine ⟨rfl, OldK.of_keep fun b o e => ?_, os, bare⟩
        cases q : H b with
        | none => exact un.keep b o e q (by intro z; exact absurd (show b ∈ ([] : List Addr) from z) (by simp)) (by simp)
        | some u =>
          rcases hO b with z | ⟨ob, xs, z⟩
          · rw [q] at z; cases z
          · have z2 := un.frzs b ob _ z
            obtain ⟨e1, _⟩ := hok b _ z
            obtain ⟨e2, _⟩ := hok' b _ z2
            rw [e] at e1; cases e1
            exact e2
  cases hk : K.lookup a with
  | some o =>
    -- the script is one of the module's own objects
    have e := KX a o hk
    rw [ha] at e
    cases e
    refine core (fun _ => none) (fun _ => .inl rfl) (.inr ⟨_, vs.toArray, _, hk, rfl, rfl, rfl, by rw [List.size_toArray, lenV]; exact hl, by simpa using rv⟩) (fun b u z => by have z' : (none : Option HO) = some u := z; cases z') (fun b z => absurd rfl z) fun z => absurd rfl z
  | none =>
    refine core (fun b => if b = a then some (.frz { cls := .type "list", data := .seq vs.toArray } (.lst (ns.map V.int))) else none) (fun b => ?_) (.inl (.inr ⟨{ cls := .type "list", data := .seq vs.toArray }, if_pos rfl⟩)) (fun b u z => ?_) (fun b z => ?_) fun _ => hk
    · by_cases hb : b = a
      · exact .inr ⟨_, _, if_pos hb⟩
      · exact .inl (if_neg hb)
    · by_cases hb : b = a
      · have z' := (if_pos hb).symm.trans z
        cases z'
        subst hb
        exact ⟨ha, by rw [List.length_map]; exact hl, vs, _, rv, ha⟩
      · have z' := (if_neg hb).symm.trans z
        cases z'
    · by_cases hb : b = a
      · exact hb
      · exact absurd (if_neg hb) z
end L2
namespace L2
open PySem PySem.Spec PyProof.Rows
theorem walk_of {l : PySem.W.OpenLaw} {n k : Nat} {q : Program} {loose : List Str} {XP : (Str → Option Value) → Heap → Prop} {YP : World → Heap → Prop} {d : DefRec} {K : Params → PySem.W.Frag} {CX : World → CXT} {sp : World → Sp} {x : Str}
    (hn : l.most = some n) (hn2 : n ≤ sizeLine) (hdf : d.params.defaults = []) (hr : Room k callerA)
    (hY : ∀ (w : World) (h : Heap), YP w h → (K w.params).In h)
    (F : ∀ (w : World) (mg : Str → Option Value) (fa : Addr) (h : Heap), (K w.params).In h → h.Ns mainGlobals mg → mg d.name = some (.ref fa) →
      ∃ fd : FuncData, (∀ (s : Shared) (u : Value), BindsTo s fd ⟨[u], []⟩ [(x, u)]) ∧
        ∀ base : Heap, (K w.params).In base → base.Ns mainGlobals mg → FnOk l.prog w (K w.params) mg base (CX w) k fa fd [x] (sp w))
    (hsp : ∀ (w : World) (H : Hp) (a : Addr) (ns : List Int), ns.length ≤ n → Only H → SqL (K w.params) H a (ns.map V.int) → sp w [.ref a] H (fun v _ => v = .bl true) fun _ _ _ => False)
    (hCX : ∀ (w : World) (H : Hp) (s : Shared) (e : Value) (s' : Shared), CX w [] H s (fun _ _ _ => False) e s' → False) :
    PySem.W.WalkO q loose XP YP l.row.toRowW d [] (fun f vs => PySem.call f vs) := by
  refine Att.attach_call hn hdf fun w s₀ s₁ mg mb fa o pm cd doc a vs ns G Y ho hd hcd hmg hobj hints hlen hg => ?_
  have KX := hY w _ Y
  obtain ⟨fd, hb, hF⟩ := F w mg fa _ KX G.T.g hmg
  exact law_call KX G.T.g G.T.b G.T.builtins G.T.nolimit hg hobj hints (Nat.le_trans hlen hn2) hr hF hb (fun H hO hS => hsp w H a ns hlen hO hS) fun H e s' => hCX w H s₁ e s'
end L2
namespace L2
open PySem PySem.Spec PyProof.Rows
def defArgs (s : Stmt) : Arguments := match s with
  | .FunctionDef _ a _ _ _ _ _ _ _ _ => a
  | _ => { posonlyargs := [], args := [], vararg := none, kwonlyargs := [], kw_defaults := [], kwarg := none, defaults := [] }
def defBody (s : Stmt) : List Stmt := match s with
  | .FunctionDef _ _ b _ _ _ _ _ _ _ => b
  | _ => []
def defScope (s : Stmt) : Scope := match s with
  | .FunctionDef _ _ _ _ _ _ sc _ _ _ => sc
  | _ => { kind := .function, names := [], isGenerator := false, isCoroutine := false }
abbrev CX0 : CXT := fun _ _ _ _ _ _ => False
abbrev E0 : XK := fun _ _ _ => False
theorem pass0 {X : Cx} : Passes CX0 X E0 := fun _ _ _ _ _ _ _ h => h.elim
structure Fun (K : PySem.W.Frag) (x qual : Str) (st : Stmt) (f : Addr) (fd : FuncData) : Prop where
  ex : ∃ (oc : Value) (od : Option Addr) (kV doc pm : Value) (an : Option Addr) (cdv ct : Value) (osl : Array (Option Value)),
    fd = PySem.W.fnOf x qual (defArgs st) (defBody st) (defScope st) .none kV doc pm an cdv ct ∧ K.lookup f = some ⟨oc, od, .func fd, osl⟩ ∧ PySem.W.codeIn K cdv qual = true
  kp : PySem.W.keepIn K (.ref f) = true
section
variable {P : Program} {w : World} {K : PySem.W.Frag} {mg : Str → Option Value} {base : Heap}
theorem Fun.ok {x qual : Str} {st : Stmt} {f : Addr} {fd : FuncData} {N ps : List Str} {k : Nat} {sp : Sp} (F : Fun K x qual st f fd) (S : FnScope N ps (defScope st)) (len : ∀ vs H Q E, sp vs H Q E → vs.length = ps.length)
    (hbody : ∀ (cdv : Value) (A : Around) (outer : List Env) (s : Shared) (H : Hp) (vs : List V) (Q : VK) (E : XK), Room k (A.deeper (envOfC qual (defScope st) s.heap.objs.size f cdv)) → sp vs H Q E →
      ∃ t, PSs (cxOf CX0 P w K mg base N qual (defScope st) f cdv A outer s H E).nox (defBody st) t ∧ t { nx := fun _ H' => Q .non H', rt := Q } (start N vs) H) : FnOk P w K mg base CX0 (k + 1) f fd ps sp := by
  obtain ⟨oc, od, kV, doc, pm, an, cdv, ct, osl, rfl, lk, hcd⟩ := F.ex
  refine fn_of lk hcd S len fun A outer s H vs Q E hr hsp => ?_
  obtain ⟨t, h, q⟩ := hbody cdv A outer s H vs Q E hr hsp
  exact ⟨t, h.nox, q⟩
theorem Fun.binds {x qual : Str} {st : Stmt} {f : Addr} {fd : FuncData} {ps : List Str} (F : Fun K x qual st f fd)
    (h : ∀ (kV doc pm : Value) (an : Option Addr) (cdv ct : Value) (us : List Value), us.length = ps.length → bindArgs (PySem.W.fnOf x qual (defArgs st) (defBody st) (defScope st) .none kV doc pm an cdv ct) ⟨us, []⟩ = pure (ps.zip us)) : Binds K fd ps [] := by
  obtain ⟨oc, od, kV, doc, pm, an, cdv, ct, osl, rfl, lk, hcd⟩ := F.ex
  exact .all (h kV doc pm an cdv ct)
theorem fun_mk {x qual : Str} {st : Stmt} {f : Addr} {oc : Value} {od an : Option Addr} {osl : Array (Option Value)} {kV doc pm cdv ct : Value} (l : K.lookup f = some ⟨oc, od, .func (PySem.W.fnOf x qual (defArgs st) (defBody st) (defScope st) .none kV doc pm an cdv ct), osl⟩)
    (c : PySem.W.codeIn K cdv qual = true) (k : PySem.W.keepIn K (.ref f) = true) : Fun K x qual st f (PySem.W.fnOf x qual (defArgs st) (defBody st) (defScope st) .none kV doc pm an cdv ct) := ⟨⟨oc, od, kV, doc, pm, an, cdv, ct, osl, rfl, l, c⟩, k⟩
end
theorem hu_of {A : Around} {k : Nat} (hr : Room k A) : A.units + 1 < cLine := Nat.lt_of_le_of_lt (Nat.add_le_add_left (by decide : 1 ≤ 64) _) hr.units
theorem small1000 {n : Nat} (h : n ≤ 1000) : n < sizeLine := Nat.lt_of_le_of_lt h (by decide)
section
variable {X : Cx}
theorem pv (i : Nat) {x : Str} {pos : Pos} (hN : X.N[i]? = some x := by rfl) (hv : Vis X.env.scope x := by first | exact Or.inl rfl | exact Or.inr (Or.inl rfl) | exact Or.inr (Or.inr rfl)) (hd : (x == ("__debug__" : Str)) = false := by decide)
    (hcd : (x == ("__classdict__" : Str)) = false := by decide) : PE X (.Name x pos) (tVar i) := pe_var hN hv hd hcd
end
theorem iteF {A B : Prop} (h : B) : if false = true then A else B := by
  rw [if_neg Bool.false_ne_true]
  exact h
theorem iteT {A B : Prop} (h : A) : if true = true then A else B := by
  rw [if_pos rfl]
  exact h
theorem ite2 {c A B : Prop} [Decidable c] (h1 : c → A) (h2 : ¬ c → B) : if c then A else B := by
  by_cases h : c
  · rw [if_pos h]
    exact h1 h
  · rw [if_neg h]
    exact h2 h
def Same (H H' : Hp) : Prop := ∀ b o, H b = some o → H' b = some o
theorem Same.refl (H : Hp) : Same H H := fun _ _ h => h
theorem Same.trans {H H1 H2 : Hp} (a : Same H H1) (b : Same H1 H2) : Same H H2 := fun c o h => b c o (a c o h)
theorem Same.free {H H' : Hp} (e : Same H H') {l : Addr} (h : H' l = Option.none) : H l = Option.none := by
  cases q : H l with
  | none => rfl
  | some o =>
    rw [e l o q] at h
    cases h
theorem Same.seq {K : PySem.W.Frag} {H H' : Hp} {a : Addr} {xs : List V} (e : Same H H') (h : SqL K H a xs) : SqL K H' a xs := by
  rcases h with (h | ⟨o, h⟩) | h
  · exact .inl (.inl (e _ _ h))
  · exact .inl (.inr ⟨o, e _ _ h⟩)
  · exact .inr h
end L2
namespace Nd
open PySem PySem.Spec PyProof.Rows L2
def cxComp (X : Cx) (scope : Scope) (cl : List (Str × Addr)) (N : List Str) (fp : List Addr) (s : Shared) (H : Hp) : Cx where
  prog := X.prog
  w := X.w
  K := X.K
  mg := X.mg
  base := X.base
  A := X.A
  N := N
  s₀ := s
  H₀ := H
  env := compEnvC scope cl s.heap.objs.size X.env
  outer := X.stack
  stack := X.stack
  ex := fp
  fn := fun _ => false
  calm := X.calm
  pn := []
  xe := fun _ _ => False
section
variable {prog : Program} {w : World} {A : Around} {R : Result → Shared → Prop} {s : Shared}
theorem comp_turns {elt tg iter : Expr} {ifs : List Expr} {scope : Scope} {pos : Pos} {it acc : Value} {env : Env} (J : Nat → Shared → Prop)
    (turn : ∀ n s, J n s → wpAny (model prog w) A (pyNext it) (fun r s1 => match r with
        | none => R (.ok .next) s1
        | some v => wpAny (model prog w) A (letOwnedTupleGo tg it v) (fun _ s2 => wpAny (model prog w) A (assign tg env v) (fun _ s3 =>
            wpAny (model prog w) A (forIn ifs true fun c r => if r = true then (do
                let ok ← isTrue c env (eval c env)
                pure (ForInStep.yield ok)) else pure (ForInStep.yield r)) (fun ok s4 =>
              if ok = true then
                wpAny (model prog w) A (eval elt env) (fun x s5 => wpAny (model prog w) A (call (.builtin "list.append") [acc, x]) (fun _ s6 => ∃ m, m < n ∧ J m s6) (fun _ _ => False) s5) (fun _ _ => False) s4
              else ∃ m, m < n ∧ J m s4) (fun _ _ => False) s3) (fun _ _ => False) s2) (fun _ _ => False) s1) (fun _ _ => False) s)
    (n : Nat) (h : J n s) : codeAny (model prog w) A (.compLoop (.ListComp elt [⟨tg, iter, ifs, 0⟩] scope pos) 0 it acc env) R s := by
  refine codeAny_loop rfl J (fun n s hJ => ?_) n h
  show wpAny _ A (Sem.onRaise (compTurn (.ListComp elt [⟨tg, iter, ifs, 0⟩] scope pos) 0 it acc env) (fun x => do noteFrame x env; theTreesLotGoes x)) _ _ s
  refine wpAny_noted ?_
  rw [compTurn_list]
  refine wpAny_bind (wpAny_standAt (wpAny_bind (wpAny_mono (turn n s hJ) (fun r s1 h1 => ?_) fun _ _ z => z.elim)))
  cases r with
  | none => exact wpAny_pure h1
  | some v =>
    refine wpAny_bind (wpAny_mono h1 (fun _ s2 h2 => ?_) fun _ _ z => z.elim)
    refine wpAny_bind (wpAny_mono h2 (fun _ s3 h3 => ?_) fun _ _ z => z.elim)
    refine wpAny_bind (wpAny_mono h3 (fun ok s4 h4 => ?_) fun _ _ z => z.elim)
    cases ok with
    | false => exact wpAny_pure ⟨rfl, h4⟩
    | true =>
      refine wpAny_bind (wpAny_bind (wpAny_mono h4 (fun x s5 h5 => ?_) fun _ _ z => z.elim))
      exact wpAny_bind (wpAny_mono h5 (fun _ s6 h6 => wpAny_pure (wpAny_pure ⟨rfl, h6⟩)) fun _ _ z => z.elim)
end
section
variable {X : Cx} {pins : List (Addr × Obj)} {σ : L2.St} {H : Hp} {s : Shared} {scope : Scope} {cl : List (Str × Addr)} {fp : List Addr} {N : List Str}
structure CompScope (X : Cx) (scope : Scope) (cl : List (Str × Addr)) (x : Str) (ys : List Str) (js : List Nat) : Prop where
  clos : closureFor scope X.env = pure cl
  nocell : ∀ y ∈ scope.names, y.2 ≠ .cell
  kind : scope.kind = .function
  locs : ∀ y ∈ scope.names, y.2 = .local → scope.names.lookup y.1 = some .local
  own : scope.names.lookup x = some .local
  sub : ∀ y c, cl.lookup y = some c → X.env.cells.lookup y = some c
  has_ : (scope.names.all fun y => !(y.2 == NameKind.free) || (cl.lookup y.1).isSome) = true
  nd : (x :: ys).Nodup
  len : ys.length = js.length
  at_ : ∀ (k : Nat) (y : Str) (j : Nat), ys[k]? = some y → js[k]? = some j → X.N[j]? = some y ∧ scope.names.lookup y = some .free ∧ (X.env.kindOf y = some .cell ∨ X.env.kindOf y = some .free)
theorem CompScope.has {x : Str} {ys : List Str} {js : List Nat} (C : CompScope X scope cl x ys js) : ∀ y ∈ scope.names, y.2 = .free → (cl.lookup y.1).isSome = true := fun y hy e => by
  have h := List.all_eq_true.mp C.has_ y hy
  rw [e] at h
  simpa using h
theorem relabel_lookup {env : Env} {y : Str} {k : NameKind} : ∀ {names : List (Str × NameKind)},
    (names.map fun (n, k) => if (k == NameKind.free && env.scope.kind == .function && env.kindOf n == some .cell) then (n, NameKind.cell) else (n, k)).lookup y = some k →
    ∃ k0, names.lookup y = some k0 ∧ (k = k0 ∨ (k0 = .free ∧ k = .cell))
  | [], h => by simp at h
  | (n, k0) :: r, h => by
    have ih := @relabel_lookup env y k r
    rw [List.map_cons] at h
    by_cases hc : (k0 == NameKind.free && env.scope.kind == .function && env.kindOf n == some .cell) = true
    · have h' : List.lookup y ((n, NameKind.cell) :: (r.map fun (n, k) => if (k == NameKind.free && env.scope.kind == .function && env.kindOf n == some .cell) then (n, NameKind.cell) else (n, k))) = some k := by
        simpa [hc] using h
      cases hy : y == n with
      | true =>
        rw [List.lookup_cons, hy] at h'
        have e : k = NameKind.cell := by simpa using h'.symm
        refine ⟨k0, by rw [List.lookup_cons, hy], .inr ⟨?_, e⟩⟩
        rw [Bool.and_eq_true, Bool.and_eq_true] at hc
        exact eq_of_beq hc.1.1
      | false =>
        rw [List.lookup_cons, hy] at h'
        obtain ⟨q, e1, e2⟩ := ih h'
        exact ⟨q, by rw [List.lookup_cons, hy]; exact e1, e2⟩
    · have h' : List.lookup y ((n, k0) :: (r.map fun (n, k) => if (k == NameKind.free && env.scope.kind == .function && env.kindOf n == some .cell) then (n, NameKind.cell) else (n, k))) = some k := by
        simpa [hc] using h
      cases hy : y == n with
      | true =>
        rw [List.lookup_cons, hy] at h'
        exact ⟨k0, by rw [List.lookup_cons, hy], .inl (by simpa using h'.symm)⟩
      | false =>
        rw [List.lookup_cons, hy] at h'
        obtain ⟨q, e1, e2⟩ := ih h'
        exact ⟨q, by rw [List.lookup_cons, hy]; exact e1, e2⟩
theorem relabel_free {env : Env} {y : Str} : ∀ {names : List (Str × NameKind)}, names.lookup y = some .free →
    (names.map fun (n, k) => if (k == NameKind.free && env.scope.kind == .function && env.kindOf n == some .cell) then (n, NameKind.cell) else (n, k)).lookup y = some .cell ∨
    (names.map fun (n, k) => if (k == NameKind.free && env.scope.kind == .function && env.kindOf n == some .cell) then (n, NameKind.cell) else (n, k)).lookup y = some .free
  | [], h => by simp at h
  | (n, k0) :: r, h => by
    have ih := @relabel_free env y r
    show List.lookup y ((if (k0 == NameKind.free && env.scope.kind == .function && env.kindOf n == some .cell) = true then (n, NameKind.cell) else (n, k0)) :: _) = _ ∨ List.lookup y ((if (k0 == NameKind.free && env.scope.kind == .function && env.kindOf n == some .cell) = true then (n, NameKind.cell) else (n, k0)) :: _) = _
    by_cases hc : (k0 == NameKind.free && env.scope.kind == .function && env.kindOf n == some .cell) = true
    · rw [if_pos hc]
      cases hy : y == n with
      | true => exact .inl (by rw [List.lookup_cons, hy])
      | false =>
        rw [List.lookup_cons, hy] at h
        simp only [List.lookup_cons, hy]
        exact ih h
    · rw [if_neg hc]
      cases hy : y == n with
      | true =>
        rw [List.lookup_cons, hy] at h
        exact .inr (by rw [List.lookup_cons, hy]; exact h)
      | false =>
        rw [List.lookup_cons, hy] at h
        simp only [List.lookup_cons, hy]
        exact ih h
theorem lookup_mem {α β : Type} [BEq α] [LawfulBEq α] {y : α} {k : β} : ∀ {l : List (α × β)}, l.lookup y = some k → (y, k) ∈ l
  | [], h => by simp at h
  | (n, v) :: r, h => by
    cases hy : y == n with
    | true =>
      rw [List.lookup_cons, hy] at h
      have e := eq_of_beq hy
      subst e
      have : v = k := by simpa using h
      subst this
      exact List.mem_cons_self
    | false =>
      rw [List.lookup_cons, hy] at h
      exact List.mem_cons_of_mem _ (lookup_mem h)
theorem comp_ok {x : Str} {ys : List Str} {js : List Nat} (C : CompScope X scope cl x ys js) (I : Inv X pins σ H s) (hf : ∀ b ∈ fp, FpOk X pins H b) (ho : ∀ b ∈ fp, ∃ o, s.heap.get? b = some o) :
    (cxComp X scope cl N fp s H).Ok where
  mod := I.ok.mod
  kind := C.kind
  glob := I.ok.glob
  blt := I.ok.blt
  above := Nat.le_refl _
  inj := fun y z c h1 h2 => I.ok.inj y z c (C.sub y c h1) (C.sub z c h2)
  has := fun y hy => by
    have key : ∀ k, (k = NameKind.cell ∨ k = NameKind.free) → (compEnvC scope cl s.heap.objs.size X.env).kindOf y = some k → ∃ c, cl.lookup y = some c := by
      intro k hk e
      obtain ⟨k0, e0, e1⟩ := relabel_lookup (names := scope.names) (env := X.env) (y := y) (k := k) e
      have m := lookup_mem e0
      have hfree : k0 = .free := by
        rcases e1 with e1 | e1
        · subst e1
          rcases hk with hk | hk
          · exact absurd hk (C.nocell _ m)
          · exact hk
        · exact e1.1
      have h := C.has _ m hfree
      exact Option.isSome_iff_exists.mp h
    rcases hy with hy | hy
    · exact key _ (.inl rfl) hy
    · exact key _ (.inr rfl) hy
  cab := fun _ _ h _ => by cases h
  hd := I.ok.hd
  frames := I.ok.frames
  stk := .inl rfl
  exf := fun b hb => by
    obtain ⟨o, e⟩ := ho b hb
    refine ⟨Nat.ne_of_lt (Heap.lt_size e), fun y c hc => (hf b hb).2.2.2.2.1 y c (C.sub y c hc)⟩
  bs := I.bs
  bsz := Nat.le_trans I.ok.bsz I.sz
  noex := fun b o e hb => by
    rcases (hf b hb).2.2.2.1 with z | z
    · exact I.ok.noex b o e z
    · exact absurd (Nat.lt_of_lt_of_le (Heap.lt_size (I.ok.bs b o e).1) z) (Nat.lt_irrefl _)
  exfs := fun b hb z => by
    rcases List.mem_cons.mp (I.stkSub b z) with e | e
    · exact (hf b hb).2.1 e
    · exact (hf b hb).2.2.1 e
  funs := I.stack
  frf := I.stkFree
def frees (σ : L2.St) (js : List Nat) : L2.St := js.map fun j => (σ[j]?).join
theorem comp_start {x : Str} {ys : List Str} {js : List Nat} {h1 : Heap} {tk : Nat} {m1 : Str → Option Value} (C : CompScope X scope cl x ys js) (I : Inv X pins σ H s) (hf : ∀ b ∈ fp, FpOk X pins H b) (ho : ∀ b ∈ fp, ∃ o, s.heap.get? b = some o)
    (hns : h1.Ns s.heap.objs.size m1) (keep : ∀ b u, s.heap.get? b = some u → h1.get? b = some u) :
    Inv (cxComp X scope cl (x :: ys) fp s H) [] (none :: frees σ js) H { s with heap := h1, toks := tk } := by
  have cellK : ∀ y c, cl.lookup y = some c → ∃ v, s.heap.IsCell c v ∧ h1.IsCell c v := fun y c e => by
    obtain ⟨v, o, q, d⟩ := I.cell y c (C.sub y c e)
    exact ⟨v, ⟨o, q, d⟩, o, keep c o q, d⟩
  refine ⟨comp_ok C I hf ho, rfl, I.bare, Un.kept keep, ⟨m1, hns, fun i y v e1 e2 _ => ?_⟩, fun y c e => ?_, I.hok.fresh (Nat.le_refl _), fun y c e => I.freeC y c (C.sub y c e), fun p hp => ?_, I.hok.kept keep, ?_⟩
  · cases i with
    | zero => simp at e2
    | succ k =>
      have e1' : ys[k]? = some y := by
        have z : (x :: ys)[k + 1]? = some y := e1
        simpa using z
      have e2' : (frees σ js)[k]? = some (some v) := by simpa using e2
      unfold frees at e2'
      rw [List.getElem?_map] at e2'
      cases ej : js[k]? with
      | none => rw [ej] at e2'; simp at e2'
      | some j =>
        rw [ej] at e2'
        have e3 : (σ[j]?).join = some v := by simpa using e2'
        have e4 : σ[j]? = some (some v) := by
          cases q : σ[j]? with
          | none => rw [q] at e3; simp at e3
          | some z => rw [q] at e3; simp at e3; rw [e3]
        obtain ⟨a1, a2, a3⟩ := C.at_ k y j e1' ej
        obtain ⟨m0, _, hl⟩ := I.loc
        have vis : Vis X.env.scope y := by
          rcases a3 with a3 | a3
          · exact .inr (.inl a3)
          · exact .inr (.inr a3)
        obtain ⟨u, r, l⟩ := hl j y v a1 e4 vis
        refine ⟨u, r, ?_⟩
        rcases l with ⟨k1, _⟩ | ⟨_, c, hc, hv⟩
        · rcases a3 with a3 | a3 <;> rw [k1] at a3 <;> cases a3
        · have m := lookup_mem a2
          have hs := C.has _ m rfl
          obtain ⟨c', hc'⟩ := Option.isSome_iff_exists.mp hs
          have ec : c' = c := by
            have := C.sub y c' hc'
            rw [hc] at this
            exact (Option.some.inj this).symm
          subst ec
          refine .inr ⟨?_, c', hc', ?_⟩
          · show (relabel scope X.env).names.lookup y = some .cell ∨ (relabel scope X.env).names.lookup y = some .free
            exact relabel_free a2
          · obtain ⟨o, q, d⟩ := hv
            exact ⟨o, keep c' o q, d⟩
  · obtain ⟨v, _, z⟩ := cellK y c e
    exact ⟨v, z⟩
  · have : p ∈ ([] : List (Addr × Obj)) := hp
    cases this
  · show (none :: frees σ js).length = (x :: ys).length
    simp [frees, C.len]
end
section
variable {X : Cx}
def CompW (J : It) (js : List Nat) (tc : TT) (te : TE) (σ : L2.St) (H1 : Hp) (Q : VK) : Prop := ∀ D, H1 D = none → ∃ W : Nat → Nat → Hp → Prop, (∃ m, W 0 m (upd H1 D (.lst []))) ∧ ∀ i m H, W i m H →
  (J.stop i H ∧ Q (.ref D) H) ∨ (J.go i H ∧ ∀ x H', J.yld i H x H' → ∃ (N1 : Hp → Prop) (N2 : VK), (∀ H2, N1 H2 → ∃ m', m' < m ∧ W (i + 1) m' H2) ∧
    (∀ y H3, N2 y H3 → ∃ acc, H3 D = some (.lst acc) ∧ acc.length < sizeLine ∧ ∃ m', m' < m ∧ W (i + 1) m' (upd H3 D (.lst (acc ++ [y])))) ∧
    tc (some x :: frees σ js) H' fun c H2 => if c = true then te (some x :: frees σ js) H2 N2 else N1 H2)
def tComp (wi : TI) (js : List Nat) (tc : TT) (te : TE) : TE := fun σ H Q => wi σ H fun J H1 => CompW J js tc te σ H1 Q
def tNoTest : TT := fun _ H Q => Q true H
theorem noTest {σ : L2.St} {H : Hp} {te : TE} {N1 : Hp → Prop} {N2 : VK} {σ' : L2.St} (h : te σ' H N2) : tNoTest σ H fun c H2 => if c = true then te σ' H2 N2 else N1 H2 := by
  show if true = true then te σ' H N2 else N1 H
  exact iteT h
def PTs (X : Cx) (ifs : List Expr) (t : TT) : Prop :=
  ∀ (pins : List (Addr × Obj)) (s : Shared) (σ : L2.St) (H : Hp) (Q : Bool → Hp → Prop), Inv X pins σ H s → t σ H Q →
    wpAny (model X.prog X.w) X.A (forIn ifs true fun c r => if r = true then (do
      let ok ← isTrue c X.env (eval c X.env)
      pure (ForInStep.yield ok)) else pure (ForInStep.yield r)) (TP X pins σ Q) X.xe s
theorem pts_none : PTs X [] tNoTest := fun pins s σ H Q I h => wpAny_tests_nil ⟨H, I, h⟩
theorem pts_one {c : Expr} {t : TT} (h : PT X c t) : PTs X [c] t := fun pins s σ H Q I q => wpAny_tests_one (h pins s σ H Q I q)
theorem pe_comp {elt iter : Expr} {x : Str} {px pos : Pos} {ifs : List Expr} {scope : Scope} {cl : List (Str × Addr)} {ys : List Str} {js : List Nat} {wi : TI} {tc : TT} {te : TE} (C : CompScope X scope cl x ys js) (hc : X.calm = true)
    (hi : PI X (.Name x px) iter wi) (ht : ∀ fp s H, PTs (cxComp X scope cl (x :: ys) fp s H) ifs tc) (he : ∀ fp s H, PE (cxComp X scope cl (x :: ys) fp s H) elt te)
    (hs : ∀ x, foldedSetIterable iter X.env x = pure x := by intro _; rfl) :
    PE X (.ListComp elt [⟨.Name x px, iter, ifs, 0⟩] scope pos) (tComp wi js tc te) := by
  intro pins s σ H Q I h
  rw [eval_ListComp]
  refine wpAny_comprehension_free (use := none) rfl hs C.clos C.kind C.locs (thn (hi pins s σ H _ I h) fun v s1 h1 => thn h1 fun itv s2 h2 => ?_)
  obtain ⟨it, fp, tn, J, H2, e, I2, T, st2, f2, q2⟩ := h2
  subst e
  have fD : H2 s2.heap.objs.size = none := I2.hok.fresh (Nat.le_refl _)
  obtain ⟨W, ⟨m0, w0⟩, turn⟩ := q2 s2.heap.objs.size fD
  refine wpAny_newObj_type ?_
  have I3 : Inv X pins σ (upd H2 s2.heap.objs.size (.lst [])) { s2 with heap := s2.heap.push { cls := .type "list", dict := none, data := .seq ([] : List Value).toArray } } :=
    I2.laid (t' := s2.toks) (fun b u q => Heap.get?_push_of_some _ q) (Nat.le_refl _) ⟨Nat.zero_le _, [], 0, .nil, Heap.get?_push_size _ rfl⟩
  have nfp : ∀ b ∈ fp, b ≠ s2.heap.objs.size := fun b hb z => by
    obtain ⟨o, q, _⟩ := T.obj _ _ st2 b hb
    have := Heap.lt_size q
    rw [z] at this
    exact absurd this (Nat.lt_irrefl _)
  have f3 : ∀ b ∈ fp, FpOk X pins (upd H2 s2.heap.objs.size (.lst [])) b := fun b hb => ⟨by rw [upd_ne (nfp b hb)]; exact (f2 b hb).1, (f2 b hb).2⟩
  generalize hS3 : ({ s2 with heap := s2.heap.push { cls := .type "list", dict := none, data := .seq ([] : List Value).toArray } } : Shared) = s3 at I3
  have st3 : tn 0 s3.heap := T.keep 0 _ _ st2 fun b hb o q => by rw [← hS3]; exact Heap.get?_push_of_some _ q
  have o3 : ∀ b ∈ fp, ∃ o, s3.heap.get? b = some o := fun b hb => let ⟨o, q, _⟩ := T.obj _ _ st3 b hb; ⟨o, q⟩
  show wpAny _ _ (newFunctionEnv scope X.env.globals cl [] X.env.qual none .none (some X.env)) _ _ _
  refine wpAny_newFunctionEnv C.nocell (by intro y hy; simp at hy) (fun h4 hns4 hsb4 => ?_) C.kind
  have keep4 : ∀ b u, s3.heap.get? b = some u → h4.get? b = some u := fun b u q => (hsb4.2 b (Nat.ne_of_lt (Heap.lt_size q))).trans (Heap.get?_push_of_some _ q)
  have I4 : ∀ tk, Inv (cxComp X scope cl (x :: ys) fp s3 (upd H2 s2.heap.objs.size (.lst []))) [] (none :: frees σ js) (upd H2 s2.heap.objs.size (.lst [])) { s3 with heap := h4, toks := tk } := fun tk => comp_start C I3 f3 o3 hns4 keep4
  have st4 : tn 0 h4 := T.keep 0 _ _ st3 fun b hb o q => keep4 b o q
  generalize hX' : cxComp X scope cl (x :: ys) fp s3 (upd H2 s2.heap.objs.size (.lst [])) = X' at I4
  have eP : X'.prog = X.prog := by rw [← hX']; rfl
  have eW : X'.w = X.w := by rw [← hX']; rfl
  have eK : X'.K = X.K := by rw [← hX']; rfl
  have eA : X'.A = X.A := by rw [← hX']; rfl
  have eC : X'.calm = true := by rw [← hX']; exact hc
  have stat : ∀ {H' : Hp}, (∀ b ∈ fp, H' b = none) → ∀ b ∈ fp, FpOk X' [] H' b := fun {H'} hn b hb => by
    have ok := (I4 0).ok
    have hex : b ∈ X'.ex := by rw [← hX']; exact hb
    exact ⟨hn b hb, (ok.exf b hex).1, ok.exfs b hex, .inl hex, (ok.exf b hex).2, fun p hp => by rw [← hX'] at hp; cases (show p ∈ ([] : List (Addr × Obj)) from hp)⟩
  have loop : ∀ s5 : Shared, s5 = { s3 with heap := h4, toks := s3.toks + ([] : List (Str × Value)).length } →
      codeAny (model X.prog X.w) X.A (.compLoop (.ListComp elt [⟨.Name x px, iter, ifs, 0⟩] scope pos) 0 (.ref it) (.ref s2.heap.objs.size) (compEnvC scope cl s3.heap.objs.size X.env))
        (compPost (model X.prog X.w) X.A X.xe none (EP X pins σ Q) (.ref s2.heap.objs.size) s3.heap.objs.size) s5 := by
    rintro s5 rfl
    refine comp_turns (fun n s' => ∃ i o H', Inv X' [] (o :: frees σ js) H' s' ∧ tn i s'.heap ∧ (∀ b ∈ fp, H' b = none) ∧ W i n H') ?_ m0
      ⟨0, none, _, I4 _, st4, fun b hb => (f3 b hb).1, w0⟩
    rintro n s6 ⟨i, o, H6, I6, st6, fr6, w6⟩
    rcases turn i n H6 w6 with ⟨stop, qn⟩ | ⟨go, step⟩
    · have hd := T.done X' eP eW eK eC i [] s6 _ H6 (fun _ _ => False) I6 (stat fr6) st6 stop
      rw [eA] at hd
      refine thn hd fun r s7 ⟨hr, I7⟩ => ?_
      subst hr
      obtain ⟨m7, hn7, _⟩ := I7.loc
      have hn7' : s7.heap.Ns s3.heap.objs.size m7 := by rw [← hX'] at hn7; exact hn7
      refine ⟨m7, hn7', fun h8 hs8 => ?_⟩
      have I7f : H6 s3.heap.objs.size = none := by have := I7.free; rw [← hX'] at this; exact this
      have b7 : Un (frs X.stack) fp (upd H2 s2.heap.objs.size (.lst [])) H6 s3.heap s7.heap := by have := I7.base; rw [← hX'] at this; exact this
      have ne8 : ∀ b o, s3.heap.get? b = some o → b ≠ s3.heap.objs.size := fun b o q => Nat.ne_of_lt (Heap.lt_size q)
      have u8 : Un (frs X.stack) fp (upd H2 s2.heap.objs.size (.lst [])) H6 s3.heap h8 := by
        refine ⟨fun b o q n hb hx => (hs8.2 b (ne8 b o q)).trans (b7.keep b o q n hb hx), fun b o q n hb hx => ?_, b7.free, fun b o q hx => ?_, b7.tups, b7.frzs, b7.tbls⟩
        · obtain ⟨sl, z⟩ := b7.slot b o q n hb hx
          exact ⟨sl, (hs8.2 b (ne8 b o q)).trans z⟩
        · obtain ⟨o', z⟩ := b7.there b o q hx
          exact ⟨o', (hs8.2 b (ne8 b o q)).trans z⟩
      have hok8 : HOk X.prog X.w H6 h8 := fun b ob e => by
        have hk7 := I7.hok
        rw [eP, eW] at hk7
        refine (hk7 b ob e).stay (fun c w' hcc q => (hs8.2 c ?_).trans q) (fun _ q => q) fun _ _ q => q
        rintro rfl
        rcases hcc with rfl | hcc
        · rw [I7f] at e; cases e
        · rw [I7f] at hcc; cases hcc
      have os7 : s7.os = s3.os := by have := I7.os; rw [← hX'] at this; exact this
      exact ⟨.ref s2.heap.objs.size, H6, I3.call' (s' := { s7 with heap := h8 }) (ch := fp) os7 u8 hok8 I7.bare (fun b hb => ⟨(f3 b hb).2.2.2.1, (f3 b hb).2.1, (f3 b hb).2.2.2.2.1, (f3 b hb).2.2.2.2.2⟩), rfl, qn⟩
    · have hit := T.item X' eP eW eK eC i [] s6 _ H6 (fun _ _ => False) I6 (stat fr6) st6 go
      rw [eA] at hit
      refine thn hit fun r s7 ⟨u, hr, h7⟩ => ?_
      subst hr
      refine thn h7 fun _ s8 ⟨y, H8, I8, r8, y8, st8, fr8⟩ => ?_
      have I8' := I8.pinned (stat fr8) (T.obj _ _ st8)
      obtain ⟨N1, N2, hN1, hN2, hst⟩ := step y H8 y8
      have again : ∀ {H9 : Hp} {s9 : Shared} {m' : Nat}, Inv X' ([] ++ pinsAt fp s8.heap) (some y :: frees σ js) H9 s9 → m' < n → W (i + 1) m' H9 → ∃ m, m < n ∧ ∃ i o H', Inv X' [] (o :: frees σ js) H' s9 ∧ tn i s9.heap ∧ (∀ b ∈ fp, H' b = none) ∧ W i m H' := fun {H9 s9 m'} I9 hm w9 => by
        refine ⟨m', hm, i + 1, some y, H9, I9.unpinned, T.keep _ _ _ st8 fun b hb o e => (I9.pin (b, o) (List.mem_append_right _ (List.mem_append_right _ (mem_pinsAt hb e)))).1, fun b hb => ?_, w9⟩
        obtain ⟨o, e, _⟩ := T.obj _ _ st8 b hb
        exact (I9.pin (b, o) (List.mem_append_right _ (List.mem_append_right _ (mem_pinsAt hb e)))).2.1
      subst hX'
      refine thn (pg_name (i := 0) (x := x) (pos := px) C.nd rfl (.inl (lookup_relabel_local C.own)) (.inr (lookup_relabel_local C.own)) _ s8 _ H8 y u (fun σ' H' => σ' = some y :: frees σ js ∧ H' = H8) I8' r8 ⟨rfl, rfl⟩) fun _ s9 ⟨σ9, H9, I9, e9, e9'⟩ => ?_
      subst e9 e9'
      refine thn (ht fp s3 _ _ s9 _ _ _ I9 hst) fun ok s10 ⟨H10, I10, q10⟩ => ?_
      cases ok with
      | false =>
        rw [if_neg Bool.false_ne_true] at q10 ⊢
        obtain ⟨m', hm, w10⟩ := hN1 _ q10
        exact again I10 hm w10
      | true =>
        rw [if_pos rfl] at q10 ⊢
        refine thn (he fp s3 _ _ s10 _ _ _ I10 q10) fun z s11 ⟨vz, H11, I11, r11, q11⟩ => ?_
        obtain ⟨acc, ha, hz, m', hm, w11⟩ := hN2 _ _ q11
        refine thn (mt_append _ s11 _ H11 (.ref s2.heap.objs.size) [vz] (.ref s2.heap.objs.size) [z] (fun _ H' => H' = upd H11 s2.heap.objs.size (.lst (acc ++ [vz]))) I11 rfl (.cons r11 .nil) ⟨_, acc, vz, rfl, rfl, ha, hz, rfl⟩) fun _ s12 ⟨_, H12, I12, _, e12⟩ => ?_
        subst e12
        exact again I12 hm w11
  exact codeAny_compStart_list (loop _ rfl) (T.self X.A 0 _ _ _ st4 (loop _ rfl))
end
structure Walked (J : It) (G : Hp → Prop) (xs : List V) : Prop where
  go : ∀ i H, i < xs.length → G H → J.go i H
  yld : ∀ i H x H', i < xs.length → G H → J.yld i H x H' → H' = H ∧ xs[i]? = some x
  stop : ∀ H, G H → J.stop xs.length H
theorem walked_list {K : PySem.W.Frag} {a : Addr} {xs : List V} : Walked (Itl K a) (fun H => SqL K H a xs) xs where
  go := fun i H h q => ⟨xs, xs[i], q, by simp [h]⟩
  yld := fun i H x H' _ q y => ⟨y.1, y.2 xs q⟩
  stop := fun H q => ⟨xs, q, Nat.le_refl _⟩
theorem walked_tup {K : PySem.W.Frag} {a : Addr} {xs : List V} : Walked (Itt K a) (fun H => SqT K H a xs) xs where
  go := fun i H h q => ⟨xs, xs[i], q, by simp [h]⟩
  yld := fun i H x H' _ q y => ⟨y.1, y.2 xs q⟩
  stop := fun H q => ⟨xs, q, Nat.le_refl _⟩
theorem walked_range {lo : Int} {n : Nat} : Walked (Itr lo n) (fun _ => True) ((List.range n).map fun i : Nat => V.int (lo + i)) where
  go := fun i H h _ => by
    rw [List.length_map, List.length_range] at h
    exact h
  yld := fun i H x H' h _ y => by
    obtain ⟨e, y⟩ := y
    rw [List.length_map, List.length_range] at h
    refine ⟨e, ?_⟩
    rw [List.getElem?_map, List.getElem?_range h, y]
    rfl
  stop := fun H _ => by
    rw [List.length_map, List.length_range]
    exact Nat.le_refl n
theorem comp_by {J : It} {G : Hp → Prop} {xs : List V} {js : List Nat} {tc : TT} {te : TE} {σ : L2.St} {H1 : Hp} {Q : VK} (wk : Walked J G xs) (hz : xs.length ≤ sizeLine) (Pv : Addr → Nat → List V → Hp → Prop)
    (h0 : ∀ D, H1 D = none → Pv D 0 [] (upd H1 D (.lst []))) (hg : ∀ D i acc H, Pv D i acc H → G H)
    (hs : ∀ D i x acc H, H1 D = none → xs[i]? = some x → H D = some (.lst acc) → Pv D i acc H → tc (some x :: frees σ js) H fun c H2 => if c = true then te (some x :: frees σ js) H2 fun y H3 => H3 D = some (.lst acc) ∧ Pv D (i + 1) (acc ++ [y]) (upd H3 D (.lst (acc ++ [y])))
      else H2 D = some (.lst acc) ∧ Pv D (i + 1) acc H2)
    (hd : ∀ D acc H, H1 D = none → H D = some (.lst acc) → Pv D xs.length acc H → Q (.ref D) H) : CompW J js tc te σ H1 Q := by
  intro D nD
  refine ⟨fun i m H => m = xs.length - i ∧ i ≤ xs.length ∧ ∃ acc, H D = some (.lst acc) ∧ acc.length ≤ i ∧ Pv D i acc H, ⟨xs.length, by simp, Nat.zero_le _, [], upd_same, Nat.le_refl _, h0 D nD⟩, ?_⟩
  rintro i m H ⟨rfl, hi, acc, ha, hl, p⟩
  have g := hg D i acc H p
  by_cases hlt : i < xs.length
  · refine .inr ⟨wk.go i H hlt g, fun x H' y => ?_⟩
    obtain ⟨e, hx⟩ := wk.yld i H x H' hlt g y
    subst e
    refine ⟨fun H2 => H2 D = some (.lst acc) ∧ Pv D (i + 1) acc H2, fun y H3 => H3 D = some (.lst acc) ∧ Pv D (i + 1) (acc ++ [y]) (upd H3 D (.lst (acc ++ [y]))), fun H2 q => ?_, fun z H3 q => ?_, hs D i x acc _ nD hx ha p⟩
    · exact ⟨xs.length - (i + 1), by omega, rfl, hlt, acc, q.1, by omega, q.2⟩
    · exact ⟨acc, q.1, by omega, xs.length - (i + 1), by omega, rfl, hlt, acc ++ [z], upd_same, by rw [List.length_append, List.length_singleton]; omega, q.2⟩
  · have e : i = xs.length := by omega
    subst e
    exact .inl ⟨wk.stop H g, hd D acc H nD ha p⟩
theorem same_new {H : Hp} {p : Addr} (h : H p = none) (o : HO) : Same H (upd H p o) := fun b u q => by rw [upd_ne (ne_of_none q h)]; exact q
theorem take_more {α : Type} {xs : List α} {i : Nat} {x : α} (h : xs[i]? = some x) : xs.take (i + 1) = xs.take i ++ [x] := by
  rw [List.take_succ, h]; rfl
theorem comp_pure {J : It} {G : Hp → Prop} {xs : List V} {js : List Nat} {tc : TT} {te : TE} {σ : L2.St} {H1 : Hp} {Q : VK} (wk : Walked J G xs) (hz : xs.length ≤ sizeLine) (p : V → Bool) (f : V → V)
    (hg : ∀ H, Same H1 H → G H)
    (htc : ∀ x ∈ xs, ∀ H, Same H1 H → ∀ Q' : Bool → Hp → Prop, (∀ H2, Same H H2 → Q' (p x) H2) → tc (some x :: frees σ js) H Q')
    (hte : ∀ x ∈ xs, p x = true → ∀ H, Same H1 H → ∀ Q' : VK, (∀ H2, Same H H2 → Q' (f x) H2) → te (some x :: frees σ js) H Q')
    (hd : ∀ D H, H1 D = none → H D = some (.lst ((xs.filter p).map f)) → Same H1 H → Q (.ref D) H) : CompW J js tc te σ H1 Q := by
  refine comp_by wk hz (fun _ i acc H => acc = ((xs.take i).filter p).map f ∧ Same H1 H) (fun D nD => ⟨by simp, same_new nD _⟩) (fun D i acc H h => hg H h.2) (fun D i x acc H nD hx ha ⟨e, sm⟩ => ?_) (fun D acc H nD ha ⟨e, sm⟩ => ?_)
  · have mx : x ∈ xs := List.mem_of_getElem? hx
    refine htc x mx H sm _ fun H2 s2 => ?_
    cases hp : p x with
    | false =>
      rw [if_neg Bool.false_ne_true]
      refine ⟨s2 _ _ ha, ?_, sm.trans s2⟩
      rw [take_more hx, List.filter_append, e]
      simp [hp]
    | true =>
      rw [if_pos rfl]
      refine hte x mx hp H2 (sm.trans s2) _ fun H3 s3 => ?_
      refine ⟨s3 _ _ (s2 _ _ ha), ?_, ?_⟩
      · rw [take_more hx, List.filter_append, e]
        simp [hp]
      · intro b o q
        have nb : b ≠ D := ne_of_none q nD
        rw [upd_ne nb]
        exact s3 _ _ (s2 _ _ (sm _ _ q))
  · rw [List.take_length] at e
    subst e
    exact hd D H nD ha sm
end Nd
namespace Nd
open PySem PySem.Spec PyProof.Rows L2
mutual
inductive RdV (K : PySem.W.Frag) (H : Hp) : V → PyData → Prop
  | non : RdV K H .non .none
  | bl (b : Bool) : RdV K H (.bl b) (.bool b)
  | int (i : Int) : RdV K H (.int i) (.int i)
  | str (x : Str) : RdV K H (.str x) (.str x)
  | lst {a : Addr} {xs : List V} {ds : List PyData} : SqL K H a xs → RdVs K H xs ds → RdV K H (.ref a) (.list ds)
  | tup {a : Addr} {xs : List V} {ds : List PyData} : SqT K H a xs → RdVs K H xs ds → RdV K H (.ref a) (.tuple ds)
inductive RdVs (K : PySem.W.Frag) (H : Hp) : List V → List PyData → Prop
  | nil : RdVs K H [] []
  | cons {x : V} {d : PyData} {xs : List V} {ds : List PyData} : RdV K H x d → RdVs K H xs ds → RdVs K H (x :: xs) (d :: ds)
end
section
variable {X : Cx} {pins : List (Addr × Obj)} {σ : L2.St} {H H' : Hp} {s : Shared} {K : PySem.W.Frag}
theorem Same.tup' {a : Addr} {xs : List V} (e : Same H H') (h : SqT K H a xs) : SqT K H' a xs := by
  rcases h with (h | ⟨o, h⟩) | h
  · exact .inl (.inl (e _ _ h))
  · exact .inl (.inr ⟨o, e _ _ h⟩)
  · exact .inr h
mutual
theorem RdV.same (e : Same H H') : ∀ {v : V} {d : PyData}, RdV K H v d → RdV K H' v d
  | _, _, .non => .non
  | _, _, .bl b => .bl b
  | _, _, .int i => .int i
  | _, _, .str x => .str x
  | _, _, .lst h hs => .lst (e.seq h) (RdVs.same e hs)
  | _, _, .tup h hs => .tup (Same.tup' e h) (RdVs.same e hs)
theorem RdVs.same (e : Same H H') : ∀ {vs : List V} {ds : List PyData}, RdVs K H vs ds → RdVs K H' vs ds
  | _, _, .nil => .nil
  | _, _, .cons h hs => .cons (RdV.same e h) (RdVs.same e hs)
end
theorem RdVs.ints : ∀ ns : List Int, RdVs K H (ns.map V.int) (ns.map PyData.int)
  | [] => .nil
  | n :: ns => .cons (.int n) (RdVs.ints ns)
theorem RdVs.of_map {α : Type} {f : α → V} {g : α → PyData} : ∀ (l : List α), (∀ a ∈ l, RdV K H (f a) (g a)) → RdVs K H (l.map f) (l.map g)
  | [], _ => .nil
  | a :: l, h => .cons (h a (List.mem_cons_self ..)) (RdVs.of_map l fun b hb => h b (List.mem_cons_of_mem _ hb))
end
mutual
def Fits (b : Nat) : PyData → Prop
  | .none => True
  | .bool _ => True
  | .int i => i.natAbs < 10 ^ b
  | .str x => (reprText x).length ≤ b
  | .list xs => FitsAll b xs
  | .tuple xs => FitsAll b xs
  | .dict _ => False
def FitsAll (b : Nat) : List PyData → Prop
  | [] => True
  | x :: xs => Fits b x ∧ FitsAll b xs
end
mutual
def nodes : PyData → Nat
  | .list xs => nodesAll xs + 1
  | .tuple xs => nodesAll xs + 1
  | _ => 1
def nodesAll : List PyData → Nat
  | [] => 0
  | x :: xs => nodes x + nodesAll xs
end
theorem depth_ints (ns : List Int) : PyData.depthAll (ns.map PyData.int) = 0 := by
  induction ns with
  | nil => rfl
  | cons n ns ih => simp only [List.map_cons, PyData.depthAll, PyData.depth, ih, Nat.max_self]
theorem depthAll_le {m : Nat} : ∀ {xs : List PyData}, (∀ x ∈ xs, x.depth ≤ m) → PyData.depthAll xs ≤ m
  | [], _ => by simp [PyData.depthAll]
  | x :: xs, h => by
    have h1 := h x (List.mem_cons_self ..)
    have h2 := depthAll_le (xs := xs) fun y hy => h y (List.mem_cons_of_mem _ hy)
    simp only [PyData.depthAll]
    omega
structure Tells (K : PySem.W.Frag) (H : Hp) (x : V) (d : PyData) : Prop where
  rd : RdV K H x d
  fits : ∃ b, b ≤ 400 ∧ Fits b d ∧ (b + 12) * nodes d ≤ sizeLine
  depth : d.depth ≤ 90
theorem Tells.same {K : PySem.W.Frag} {H H' : Hp} {x : V} {d : PyData} (e : Same H H') (t : Tells K H x d) : Tells K H' x d := ⟨t.rd.same e, t.fits, t.depth⟩
theorem fits_int {i : Int} {b : Nat} (h : i.natAbs < 10 ^ b) : Fits b (.int i) := by simpa only [Fits] using h
end Nd
namespace Nd
open PySem PySem.Spec PyProof.Rows L2
def okV : V → Bool
  | .byt _ => false
  | .flt _ => false
  | _ => true
theorem eqAt_self {A : Around} {s : Shared} {x : V} {u v : Value} (hx : okV x = true) (ru : RelV x u) (rv : RelV x v) : SeqAt.EqAt A s u v true := by
  cases x with
  | non => cases ru; cases rv; exact SeqAt.EqAt.same _
  | bl b => cases ru; cases rv; exact SeqAt.EqAt.same _
  | int i =>
    obtain ⟨t, rfl⟩ := ru
    obtain ⟨t', rfl⟩ := rv
    have h := SeqAt.EqAt.int_int (A := A) (s := s) i t i t'
    rw [beq_self_eq_true] at h
    exact h
  | str y =>
    obtain ⟨t, rfl⟩ := ru
    obtain ⟨t', rfl⟩ := rv
    have h := SeqAt.EqAt.str_str (A := A) (s := s) y t y t'
    rw [beq_self_eq_true] at h
    exact h
  | byt _ => cases hx
  | flt _ => cases hx
  | ref a => cases ru; cases rv; exact SeqAt.EqAt.same _
  | ty n => cases ru; cases rv; exact SeqAt.EqAt.same _
theorem Vals.at' {xs : List V} {us : List Value} (r : Vals xs us) {j : Nat} (h : j < us.length) : ∃ x, xs[j]? = some x ∧ RelV x us[j] := by
  have hl := r.length
  have hj : j < xs.length := by omega
  obtain ⟨u, hu, ru⟩ := r.get (i := j) (x := xs[j]) (by simp [hj])
  rw [List.getElem?_eq_getElem h] at hu
  cases hu
  exact ⟨xs[j], by simp [hj], ru⟩
def EqV1 (K : PySem.W.Frag) (H : Hp) (x y : V) : Prop :=
  (x = y ∧ okV x = true) ∨ ∃ (p q : Addr) (zs : List V), x = .ref p ∧ y = .ref q ∧ zs.all okV = true ∧ ((SqL K H p zs ∧ SqL K H q zs) ∨ (SqT K H p zs ∧ SqT K H q zs))
section
variable {X : Cx} {pins : List (Addr × Obj)} {σ : L2.St} {H : Hp} {s : Shared} {A : Around}
theorem all_true (n : Nat) : ((List.range n).all fun _ => true) = true := by simp
theorem eqAt_items {zs : List V} {us vs : List Value} (hz : zs.all okV = true) (r1 : Vals zs us) (r2 : Vals zs vs) (j : Nat) (h1 : j < us.toArray.size) (h2 : j < vs.toArray.size) : SeqAt.EqAt A s us.toArray[j] vs.toArray[j] true := by
  have h1' : j < us.length := by simpa using h1
  have h2' : j < vs.length := by simpa using h2
  obtain ⟨x, e1, q1⟩ := Vals.at' r1 h1'
  obtain ⟨y, e2, q2⟩ := Vals.at' r2 h2'
  rw [e1] at e2
  cases e2
  have ok : okV x = true := List.all_eq_true.mp hz x (List.mem_of_getElem? e1)
  simpa using eqAt_self ok q1 q2
theorem eqAt_1 {x y : V} {u v : Value} (I : Inv X pins σ H s) (h : EqV1 X.K H x y) (ru : RelV x u) (rv : RelV y v) (hu : A.units < cLine) : SeqAt.EqAt A s u v true := by
  rcases h with ⟨rfl, ok⟩ | ⟨p, q, zs, rfl, rfl, hz, h⟩
  · exact eqAt_self ok ru rv
  · cases ru
    cases rv
    by_cases hpq : p = q
    · subst hpq
      exact SeqAt.EqAt.same _
    · refine SeqAt.EqAt.of_refs hpq ?_
      rcases h with ⟨h1, h2⟩ | ⟨h1, h2⟩
      · obtain ⟨us, r1, p1, _⟩ := I.list h1
        obtain ⟨vs, r2, p2, _⟩ := I.list h2
        have hs : us.toArray.size = vs.toArray.size := by
          rw [List.size_toArray, List.size_toArray, ← r1.length, ← r2.length]
        have h := SeqAt.RcAt.lists (A := A) (e := fun _ => true) p1.isList p2.isList hs hu (fun j h1 h2 => eqAt_items hz r1 r2 j h1 h2)
        rw [all_true] at h
        exact h
      · obtain ⟨us, r1, p1, _⟩ := I.tuple h1
        obtain ⟨vs, r2, p2, _⟩ := I.tuple h2
        have hs : us.toArray.size = vs.toArray.size := by
          rw [List.size_toArray, List.size_toArray, ← r1.length, ← r2.length]
        have h := SeqAt.RcAt.tuples (A := A) (e := fun _ => true) (show s.heap.IsTuple p us.toArray from p1) (show s.heap.IsTuple q vs.toArray from p2) hu (fun j h1 h2 => eqAt_items hz r1 r2 j h1 h2)
        rw [all_true, hs, beq_self_eq_true] at h
        exact h
def EqVs (K : PySem.W.Frag) (H : Hp) (xs ys : List V) : Prop := xs.length = ys.length ∧ ∀ (i : Nat) x y, xs[i]? = some x → ys[i]? = some y → EqV1 K H x y
theorem EqVs.same {K : PySem.W.Frag} {xs : List V} (h : xs.all okV = true) : EqVs K H xs xs := ⟨rfl, fun i x y e1 e2 => by
  rw [e1] at e2
  cases e2
  exact .inl ⟨rfl, List.all_eq_true.mp h x (List.mem_of_getElem? e1)⟩⟩
theorem eqAt_all {xs ys : List V} {us vs : List Value} (I : Inv X pins σ H s) (h : EqVs X.K H xs ys) (r1 : Vals xs us) (r2 : Vals ys vs) (hu : A.units < cLine) (j : Nat) (h1 : j < us.toArray.size) (h2 : j < vs.toArray.size) : SeqAt.EqAt A s us.toArray[j] vs.toArray[j] true := by
  have h1' : j < us.length := by simpa using h1
  have h2' : j < vs.length := by simpa using h2
  obtain ⟨x, e1, q1⟩ := Vals.at' r1 h1'
  obtain ⟨y, e2, q2⟩ := Vals.at' r2 h2'
  simpa using eqAt_1 I (h.2 j x y e1 e2) q1 q2 hu
def rCmpL (K : PySem.W.Frag) (ne : Bool) : R2 := fun x y H Q => ∃ a b xs ys, x = .ref a ∧ y = .ref b ∧ SqL K H a xs ∧ SqL K H b ys ∧ ((EqVs K H xs ys ∧ Q (.bl (!ne)) H) ∨ (xs.length ≠ ys.length ∧ Q (.bl ne) H))
theorem in1_units (A : Around) : A.in1.units ≤ A.units + 1 := by
  first | exact Nat.le_refl _ | (simp [Around.in1]; done) | (unfold Around.in1; simp)
theorem op_neL (hu : X.A.units + 1 < cLine) : OpR X (compareOp .NotEq) (rCmpL X.K true) := by
  intro pins s σ H x y v u Q I rx ry h
  obtain ⟨a, b, xs, ys, rfl, rfl, ha, hb, h⟩ := h
  cases rx
  cases ry
  obtain ⟨us, r1, p1, _⟩ := I.list ha
  obtain ⟨vs, r2, p2, _⟩ := I.list hb
  have l1 := r1.length
  have l2 := r2.length
  rcases h with ⟨h, q⟩ | ⟨h, q⟩
  · have hs : us.toArray.size = vs.toArray.size := by rw [List.size_toArray, List.size_toArray, ← l1, ← l2]; exact h.1
    have := SeqAt.RcNeAt.lists (A := X.A) (e := fun _ => true) p1.isList p2.isList hs (by omega) (fun j h1 h2 => eqAt_all I h r1 r2 (Nat.lt_of_le_of_lt (in1_units _) hu) j h1 h2)
    rw [all_true] at this
    exact this _ _ _ _ ⟨.bl false, H, I, rfl, q⟩
  · have hs : (us.toArray.size != vs.toArray.size) = true := by rw [List.size_toArray, List.size_toArray, ← l1, ← l2]; simpa using h
    exact SeqAt.RcNeAt.lists_lengths (A := X.A) p1.isList p2.isList hs (by omega) _ _ _ _ ⟨.bl true, H, I, rfl, q⟩
theorem call_isinst : CallR X (.builtin "isinstance") (fun xs H Q => ∃ x n t b, xs = [x, .ty n] ∧ TyOf X.K H x t ∧ PySem.W.kitOne X.K t (.type n) = some b ∧ Q (.bl b) H) := by
  intro pins s σ H xs us Q I r h
  obtain ⟨x, n, t, b, rfl, ty, e, q⟩ := h
  obtain ⟨u, v, rfl, ru, rv⟩ := vals2 r
  cases rv
  exact isinst_ok I ru ty e fun tk => ⟨.bl b, H, I.tok _, rfl, q⟩
end
section
variable {prog : Program} {w : World} {A : Around} {E : Value → Shared → Prop} {s : Shared}
theorem getItem_tuple_whole {t sl : Addr} {items : Array Value} {vl vu : Value} {lo hi : Option Int} {Q : Value → Shared → Prop} (ht : IsTup s.heap t items) (hs : s.heap.IsSliceOf sl vl vu .none) (pl : IsPart vl lo) (pu : IsPart vu hi)
    (hw : HT.sIx items.size 0 lo = 0 ∧ HT.sIx items.size items.size hi = items.size) (h : Q (.ref t) s) : wpAny (model prog w) A (getItem (.ref t) (.ref sl)) Q E s := by
  obtain ⟨os, hos, hcs, hds⟩ := id hs
  have hTs : s.TypeIs (.ref sl) "slice" := ⟨os, hos, hcs⟩
  unfold getItem
  try with_reducible refine wpAny_holding ?_
  first | refine wpAny_bind (wpAny_pure ?_) | skip
  refine wpAny_bind (wpAny_sequenceKey ht.typeIs (by decide) ?_)
  refine wpAny_bind (wpAny_callSpecial?_slot (name := Str.ofString "__getitem__") ht.typeIs PyProof.Rows.slot_tuple_getitem
    (wpAny_call_entry PyProof.Rows.slot_tuple_getitem ht.typeIs entry_tuple_getitem ?_ (args_tuple_getitem _ _)))
  show wpAny _ _ (Builtin.Tuple.tupleItemsOf (.ref t) >>= _) _ _ s
  refine wpAny_bind (tupleItemsOf_ ht ?_)
  refine wpAny_bind (wpAny_typeOf hTs ?_)
  rw [if_pos (by decide)]
  refine wpAny_bind (HT.sliceApplied_gen hs pl pu ?_)
  rw [hw.1, hw.2]
  have hyes : (((0 : Nat) : Int) == 0 && (1 : Int) == 1 && (items.size - 0) == items.size) = true := by simp
  show wpAny _ _ (if (((0 : Nat) : Int) == 0 && (1 : Int) == 1 && (items.size - 0) == items.size) = true then _ else _) _ _ s
  rw [if_pos hyes]
  have hex : ∀ {R : Bool → Shared → Prop}, R true s → wpAny (model prog w) A.in1 (Builtin.Tuple.tupleIsExact (.ref t)) R E s := fun {R} hR => by
    unfold Builtin.Tuple.tupleIsExact
    refine wpAny_bind (wpAny_typeOf ht.typeIs (wpAny_pure ?_))
    rw [beq_self_eq_true]
    exact hR
  refine wpAny_bind (hex ?_)
  rw [if_pos rfl]
  exact wpAny_bind (wpAny_rule (wpAny_pure ⟨_, rfl, wpAny_pure h⟩))
end
section
variable {X : Cx}
def rSlTA (K : PySem.W.Frag) : V → Option Int → Option Int → Hp → VK → Prop := fun x lo hi H Q => ∃ a xs, x = .ref a ∧ SqT K H a xs ∧ Q (.ref a) H ∧ ∀ p, H p = none → Q (.ref p) (upd H p (.tup (cutV xs lo hi)))
theorem sl_tupA : SlR X (rSlTA X.K) := by
  intro pins s σ H x v vl vu lo hi sl Q I rx hs pl pu h
  obtain ⟨a, xs, rfl, hx, q1, q2⟩ := h
  cases rx
  by_cases hw : HT.sIx xs.length 0 lo = 0 ∧ HT.sIx xs.length xs.length hi = xs.length
  · obtain ⟨its, r, ht, hz⟩ := I.tuple hx
    have hlen : its.toArray.size = xs.length := by rw [List.size_toArray]; exact r.length.symm
    refine ⟨"tuple", _, PyProof.Rows.slot_tuple_getitem.lookup, ht.typeIs, ?_⟩
    exact getItem_tuple_whole ht hs pl pu (by rw [hlen]; exact hw) ⟨.ref a, H, I, rfl, q1⟩
  · exact sl_tup pins s σ H (.ref a) (.ref a) vl vu lo hi sl Q I rfl hs pl pu ⟨a, xs, rfl, hx, hw, q2⟩
end
end Nd
namespace Nd
open PySem PySem.Spec PyProof.Rows L2
mutual
def eqD : PyData → PyData → Bool
  | .none, .none => true
  | .bool a, .bool b => a == b
  | .bool a, .int b => (if a then 1 else 0) == b
  | .int a, .bool b => a == (if b then 1 else 0)
  | .int a, .int b => a == b
  | .str a, .str b => a == b
  | .list xs, .list ys => eqDs xs ys
  | .tuple xs, .tuple ys => eqDs xs ys
  | _, _ => false
def eqDs : List PyData → List PyData → Bool
  | [], [] => true
  | x :: xs, y :: ys => eqD x y && eqDs xs ys
  | _, _ => false
end
theorem eqDs_range : ∀ ds es : List PyData, (((List.range (min ds.length es.length)).all fun j => eqD (ds.getD j .none) (es.getD j .none)) && ds.length == es.length) = eqDs ds es
  | [], [] => by simp [eqDs]
  | [], _ :: _ => by simp [eqDs]
  | _ :: _, [] => by simp [eqDs]
  | d :: ds, e :: es => by
    have ih := eqDs_range ds es
    rw [eqDs, ← ih]
    have h1 : min (d :: ds).length (e :: es).length = min ds.length es.length + 1 := by simp only [List.length_cons]; omega
    rw [h1, List.range_succ_eq_map, List.all_cons, List.all_map]
    have h2 : ((d :: ds).length == (e :: es).length) = (ds.length == es.length) := by
      rw [Bool.eq_iff_iff]; simp
    rw [h2, Bool.and_assoc]
    rfl
section
variable {X : Cx} {pins : List (Addr × Obj)} {σ : L2.St} {H : Hp} {s : Shared} {K : PySem.W.Frag}
mutual
theorem RdV.eqD_self : ∀ {v : V} {d : PyData}, RdV K H v d → eqD d d = true
  | _, _, .non => by simp [eqD]
  | _, _, .bl b => by simp [eqD]
  | _, _, .int i => by simp [eqD]
  | _, _, .str x => by simp [eqD]
  | _, _, .lst _ h => by rw [eqD]; exact RdVs.eqDs_self h
  | _, _, .tup _ h => by rw [eqD]; exact RdVs.eqDs_self h
theorem RdVs.eqDs_self : ∀ {vs : List V} {ds : List PyData}, RdVs K H vs ds → eqDs ds ds = true
  | _, _, .nil => by simp [eqDs]
  | _, _, .cons h t => by rw [eqDs, RdV.eqD_self h, RdVs.eqDs_self t]; rfl
end
theorem not_both (I : Inv X pins σ H s) {a : Addr} {xs ys : List V} (h1 : SqL X.K H a xs) (h2 : SqT X.K H a ys) : False := by
  obtain ⟨us, _, p1, _⟩ := I.list h1
  obtain ⟨vs, _, p2, _⟩ := I.tuple h2
  exact SeqAt.ne_of_list_tuple p1.isList p2 rfl
mutual
theorem RdV.det (I : Inv X pins σ H s) : ∀ {v : V} {d e : PyData}, RdV X.K H v d → RdV X.K H v e → d = e
  | _, _, _, .non, h => by cases h; rfl
  | _, _, _, .bl b, h => by cases h; rfl
  | _, _, _, .int i, h => by cases h; rfl
  | _, _, _, .str x, h => by cases h; rfl
  | _, _, _, .lst q r, h => by
    cases h with
    | lst q' r' =>
      have e := I.list_inj q q'
      subst e
      rw [RdVs.det I r r']
    | tup q' r' => exact (not_both I q q').elim
  | _, _, _, .tup q r, h => by
    cases h with
    | lst q' r' => exact (not_both I q' q).elim
    | tup q' r' =>
      have e := I.tuple_inj q q'
      subst e
      rw [RdVs.det I r r']
theorem RdVs.det (I : Inv X pins σ H s) : ∀ {vs : List V} {ds es : List PyData}, RdVs X.K H vs ds → RdVs X.K H vs es → ds = es
  | _, _, _, .nil, h => by cases h; rfl
  | _, _, _, .cons r t, h => by
    cases h with
    | cons r' t' => rw [RdV.det I r r', RdVs.det I t t']
end
theorem RdVs.length : ∀ {vs : List V} {ds : List PyData}, RdVs K H vs ds → vs.length = ds.length
  | _, _, .nil => rfl
  | _, _, .cons _ t => by rw [List.length_cons, List.length_cons, RdVs.length t]
theorem in1_lt {A : Around} {n : Nat} (h : A.units + (n + 1) < cLine) : A.in1.units + n < cLine := by
  have := in1_units A
  omega
theorem rc_lists {A : Around} {a b : Addr} {us vs : List Value} {ds es : List PyData} (p1 : PlainL s.heap a us.toArray) (p2 : PlainL s.heap b vs.toArray) (l1 : us.length = ds.length) (l2 : vs.length = es.length) (hu : A.units < cLine)
    (he : ∀ j (h1 : j < us.length) (h2 : j < vs.length), SeqAt.EqAt A.in1 s us[j] vs[j] (eqD (ds.getD j .none) (es.getD j .none))) : SeqAt.RcAt A s (.ref a) (.ref b) (eqDs ds es) := by
  rw [← eqDs_range]
  by_cases hl : ds.length = es.length
  · have hs : us.toArray.size = vs.toArray.size := by rw [List.size_toArray, List.size_toArray, l1, l2, hl]
    have h := SeqAt.RcAt.lists (A := A) (e := fun j => eqD (ds.getD j .none) (es.getD j .none)) p1.isList p2.isList hs hu (fun j h1 h2 => by simpa using he j (by simpa using h1) (by simpa using h2))
    rw [List.size_toArray, l1] at h
    rw [hl, Nat.min_self, beq_self_eq_true, Bool.and_true, ← hl]
    exact h
  · have hs : (us.toArray.size != vs.toArray.size) = true := by rw [List.size_toArray, List.size_toArray, l1, l2]; simpa using hl
    have h := SeqAt.RcAt.lists_lengths (A := A) p1.isList p2.isList hs hu
    have e0 : (ds.length == es.length) = false := by simpa using hl
    rw [e0, Bool.and_false]
    exact h
theorem rc_tuples {A : Around} {a b : Addr} {us vs : List Value} {ds es : List PyData} (p1 : IsTup s.heap a us.toArray) (p2 : IsTup s.heap b vs.toArray) (l1 : us.length = ds.length) (l2 : vs.length = es.length) (hu : A.units < cLine)
    (he : ∀ j (h1 : j < us.length) (h2 : j < vs.length), SeqAt.EqAt A.in1 s us[j] vs[j] (eqD (ds.getD j .none) (es.getD j .none))) : SeqAt.RcAt A s (.ref a) (.ref b) (eqDs ds es) := by
  rw [← eqDs_range]
  have h := SeqAt.RcAt.tuples (A := A) (e := fun j => eqD (ds.getD j .none) (es.getD j .none)) (show s.heap.IsTuple a us.toArray from p1) (show s.heap.IsTuple b vs.toArray from p2) hu (fun j h1 h2 => by simpa using he j (by simpa using h1) (by simpa using h2))
  rw [List.size_toArray, List.size_toArray, l1, l2] at h
  exact h
mutual
theorem eqAt_D (I : Inv X pins σ H s) : ∀ {A : Around} {x y : V} {d e : PyData} {u v : Value}, RdV X.K H x d → RdV X.K H y e → RelV x u → RelV y v → A.units + d.depth < cLine → SeqAt.EqAt A s u v (eqD d e)
  | A, _, _, _, _, _, _, .non, h, ru, rv, hu => by
    cases ru
    have hu' : A.units < cLine := by omega
    cases h with
    | non => cases rv; rw [eqD]; exact SeqAt.EqAt.same _
    | bl b => cases rv; rw [eqD]; exact SeqAt.EqAt.none_bool b; all_goals simp
    | int b => obtain ⟨t, rfl⟩ := rv; rw [eqD]; exact SeqAt.EqAt.none_int b t; all_goals simp
    | str b => obtain ⟨t, rfl⟩ := rv; rw [eqD]; exact SeqAt.EqAt.none_str b t; all_goals simp
    | lst q r => cases rv; obtain ⟨us, _, p, _⟩ := I.list q; rw [eqD]; exact SeqAt.EqAt.none_list p.isList hu'; all_goals simp
    | tup q r => cases rv; obtain ⟨us, _, p, _⟩ := I.tuple q; rw [eqD]; exact SeqAt.EqAt.none_tuple p hu'; all_goals simp
  | A, _, _, _, _, _, _, .bl a, h, ru, rv, hu => by
    cases ru
    have hu' : A.units < cLine := by omega
    cases h with
    | non => cases rv; rw [eqD]; exact SeqAt.EqAt.bool_none a; all_goals simp
    | bl b => cases rv; rw [eqD]; exact SeqAt.EqAt.bool_bool a b
    | int b => obtain ⟨t, rfl⟩ := rv; rw [eqD]; exact SeqAt.EqAt.bool_int a b t
    | str b => obtain ⟨t, rfl⟩ := rv; rw [eqD]; exact SeqAt.EqAt.bool_str a b t; all_goals simp
    | lst q r => cases rv; obtain ⟨us, _, p, _⟩ := I.list q; rw [eqD]; exact SeqAt.EqAt.bool_list a p.isList hu'; all_goals simp
    | tup q r => cases rv; obtain ⟨us, _, p, _⟩ := I.tuple q; rw [eqD]; exact SeqAt.EqAt.bool_tuple a p hu'; all_goals simp
  | A, _, _, _, _, _, _, .int a, h, ru, rv, hu => by
    obtain ⟨t', rfl⟩ := ru
    have hu' : A.units < cLine := by omega
    cases h with
    | non => cases rv; rw [eqD]; exact SeqAt.EqAt.int_none a t'; all_goals simp
    | bl b => cases rv; rw [eqD]; exact SeqAt.EqAt.int_bool a t' b
    | int b => obtain ⟨t, rfl⟩ := rv; rw [eqD]; exact SeqAt.EqAt.int_int a t' b t
    | str b => obtain ⟨t, rfl⟩ := rv; rw [eqD]; exact SeqAt.EqAt.int_str a t' b t; all_goals simp
    | lst q r => cases rv; obtain ⟨us, _, p, _⟩ := I.list q; rw [eqD]; exact SeqAt.EqAt.int_list a t' p.isList hu'; all_goals simp
    | tup q r => cases rv; obtain ⟨us, _, p, _⟩ := I.tuple q; rw [eqD]; exact SeqAt.EqAt.int_tuple a t' p hu'; all_goals simp
  | A, _, _, _, _, _, _, .str a, h, ru, rv, hu => by
    obtain ⟨t', rfl⟩ := ru
    have hu' : A.units < cLine := by omega
    cases h with
    | non => cases rv; rw [eqD]; exact SeqAt.EqAt.str_none a t'; all_goals simp
    | bl b => cases rv; rw [eqD]; exact SeqAt.EqAt.str_bool a t' b; all_goals simp
    | int b => obtain ⟨t, rfl⟩ := rv; rw [eqD]; exact SeqAt.EqAt.str_int a t' b t; all_goals simp
    | str b => obtain ⟨t, rfl⟩ := rv; rw [eqD]; exact SeqAt.EqAt.str_str a t' b t
    | lst q r => cases rv; obtain ⟨us, _, p, _⟩ := I.list q; rw [eqD]; exact SeqAt.EqAt.str_list a t' p.isList hu'; all_goals simp
    | tup q r => cases rv; obtain ⟨us, _, p, _⟩ := I.tuple q; rw [eqD]; exact SeqAt.EqAt.str_tuple a t' p hu'; all_goals simp
  | A, _, _, _, _, _, _, @RdV.lst _ _ a xs ds q r, h, ru, rv, hu => by
    cases ru
    have hu' : A.units < cLine := by omega
    obtain ⟨us, r1, p, _⟩ := I.list q
    cases h with
    | non => cases rv; rw [eqD]; exact SeqAt.EqAt.list_none p.isList hu'; all_goals simp
    | bl b => cases rv; rw [eqD]; exact SeqAt.EqAt.list_bool b p.isList hu'; all_goals simp
    | int b => obtain ⟨t, rfl⟩ := rv; rw [eqD]; exact SeqAt.EqAt.list_int b t p.isList hu'; all_goals simp
    | str b => obtain ⟨t, rfl⟩ := rv; rw [eqD]; exact SeqAt.EqAt.list_str b t p.isList hu'; all_goals simp
    | @lst b ys es q2 rr2 =>
      cases rv
      obtain ⟨vs, r2, p2, _⟩ := I.list q2
      rw [eqD]
      by_cases hab : a = b
      · subst hab
        have e := I.list_inj q q2
        subst e
        rw [← RdVs.det I r rr2, RdVs.eqDs_self r]
        exact SeqAt.EqAt.same _
      · refine SeqAt.EqAt.of_refs hab (rc_lists p p2 (r1.length.symm.trans r.length) (r2.length.symm.trans rr2.length) hu' fun j h1 h2 => ?_)
        exact eqAt_Ds I r rr2 r1 r2 (in1_lt (by simpa only [PyData.depth] using hu)) j h1 h2
    | tup q2 rr2 => cases rv; obtain ⟨vs, _, p2, _⟩ := I.tuple q2; rw [eqD]; exact SeqAt.EqAt.list_tuple p.isList p2 hu'; all_goals simp
  | A, _, _, _, _, _, _, @RdV.tup _ _ a xs ds q r, h, ru, rv, hu => by
    cases ru
    have hu' : A.units < cLine := by omega
    obtain ⟨us, r1, p, _⟩ := I.tuple q
    cases h with
    | non => cases rv; rw [eqD]; exact SeqAt.EqAt.tuple_none p hu'; all_goals simp
    | bl b => cases rv; rw [eqD]; exact SeqAt.EqAt.tuple_bool b p hu'; all_goals simp
    | int b => obtain ⟨t, rfl⟩ := rv; rw [eqD]; exact SeqAt.EqAt.tuple_int b t p hu'; all_goals simp
    | str b => obtain ⟨t, rfl⟩ := rv; rw [eqD]; exact SeqAt.EqAt.tuple_str b t p hu'; all_goals simp
    | lst q2 rr2 => cases rv; obtain ⟨vs, _, p2, _⟩ := I.list q2; rw [eqD]; exact SeqAt.EqAt.tuple_list p p2.isList hu'; all_goals simp
    | @tup b ys es q2 rr2 =>
      cases rv
      obtain ⟨vs, r2, p2, _⟩ := I.tuple q2
      rw [eqD]
      by_cases hab : a = b
      · subst hab
        have e := I.tuple_inj q q2
        subst e
        rw [← RdVs.det I r rr2, RdVs.eqDs_self r]
        exact SeqAt.EqAt.same _
      · refine SeqAt.EqAt.of_refs hab (rc_tuples p p2 (r1.length.symm.trans r.length) (r2.length.symm.trans rr2.length) hu' fun j h1 h2 => ?_)
        exact eqAt_Ds I r rr2 r1 r2 (in1_lt (by simpa only [PyData.depth] using hu)) j h1 h2
theorem eqAt_Ds (I : Inv X pins σ H s) : ∀ {A : Around} {xs ys : List V} {ds es : List PyData} {us vs : List Value}, RdVs X.K H xs ds → RdVs X.K H ys es → Vals xs us → Vals ys vs → A.units + PyData.depthAll ds < cLine →
    ∀ j (h1 : j < us.length) (h2 : j < vs.length), SeqAt.EqAt A s us[j] vs[j] (eqD (ds.getD j .none) (es.getD j .none))
  | _, _, _, _, _, _, _, .nil, _, r1, _, _ => fun j h1 h2 => by cases r1; exact absurd h1 (Nat.not_lt_zero _)
  | A, _, _, _, _, _, _, @RdVs.cons _ _ x d xs ds r t, h, r1, r2, hu => fun j h1 h2 => by
    cases h with
    | nil => cases r2; exact absurd h2 (Nat.not_lt_zero _)
    | cons r' t' =>
      cases r1 with
      | cons ra ta =>
        cases r2 with
        | cons rb tb =>
          have hm : A.units + d.depth < cLine ∧ A.units + PyData.depthAll ds < cLine := by
            simp only [PyData.depthAll] at hu
            omega
          cases j with
          | zero => simpa using eqAt_D I r r' ra rb hm.1
          | succ j => simpa using eqAt_Ds I t t' ta tb hm.2 j (by simpa using h1) (by simpa using h2)
end
end
end Nd
namespace Nd
open PySem PySem.Spec PyProof.Rows L2
section
variable {X : Cx} {pins : List (Addr × Obj)} {σ : L2.St} {H : Hp} {s : Shared} {K : PySem.W.Frag}
theorem rc_listsN {A : Around} {a b : Addr} {us vs : List Value} {ds es : List PyData} (p1 : PlainL s.heap a us.toArray) (p2 : PlainL s.heap b vs.toArray) (l1 : us.length = ds.length) (l2 : vs.length = es.length) (hu : A.units < cLine)
    (he : ∀ j (h1 : j < us.length) (h2 : j < vs.length), SeqAt.EqAt A.in1 s us[j] vs[j] (eqD (ds.getD j .none) (es.getD j .none))) : SeqAt.RcNeAt A s (.ref a) (.ref b) (!eqDs ds es) := by
  rw [← eqDs_range]
  by_cases hl : ds.length = es.length
  · have hs : us.toArray.size = vs.toArray.size := by rw [List.size_toArray, List.size_toArray, l1, l2, hl]
    have h := SeqAt.RcNeAt.lists (A := A) (e := fun j => eqD (ds.getD j .none) (es.getD j .none)) p1.isList p2.isList hs hu (fun j h1 h2 => by simpa using he j (by simpa using h1) (by simpa using h2))
    rw [List.size_toArray, l1] at h
    rw [hl, Nat.min_self, beq_self_eq_true, Bool.and_true, ← hl]
    exact h
  · have hs : (us.toArray.size != vs.toArray.size) = true := by rw [List.size_toArray, List.size_toArray, l1, l2]; simpa using hl
    have h := SeqAt.RcNeAt.lists_lengths (A := A) p1.isList p2.isList hs hu
    have e0 : (ds.length == es.length) = false := by simpa using hl
    rw [e0, Bool.and_false]
    exact h
theorem rc_tuplesN {A : Around} {a b : Addr} {us vs : List Value} {ds es : List PyData} (p1 : IsTup s.heap a us.toArray) (p2 : IsTup s.heap b vs.toArray) (l1 : us.length = ds.length) (l2 : vs.length = es.length) (hu : A.units < cLine)
    (he : ∀ j (h1 : j < us.length) (h2 : j < vs.length), SeqAt.EqAt A.in1 s us[j] vs[j] (eqD (ds.getD j .none) (es.getD j .none))) : SeqAt.RcNeAt A s (.ref a) (.ref b) (!eqDs ds es) := by
  rw [← eqDs_range]
  have h := SeqAt.RcNeAt.tuples (A := A) (e := fun j => eqD (ds.getD j .none) (es.getD j .none)) (show s.heap.IsTuple a us.toArray from p1) (show s.heap.IsTuple b vs.toArray from p2) hu (fun j h1 h2 => by simpa using he j (by simpa using h1) (by simpa using h2))
  rw [List.size_toArray, List.size_toArray, l1, l2] at h
  exact h
end
section
variable {X : Cx}
def rEqD (K : PySem.W.Frag) : R2 := fun x y H Q => ∃ d e, RdV K H x d ∧ RdV K H y e ∧ d.depth ≤ 60 ∧ Q (.bl (eqD d e)) H
def rNeD (K : PySem.W.Frag) : R2 := fun x y H Q => ∃ d e, RdV K H x d ∧ RdV K H y e ∧ d.depth ≤ 60 ∧ Q (.bl (!eqD d e)) H
theorem op_eqD (hu : X.A.units + 64 < cLine) : OpR X (compareOp .Eq) (rEqD X.K) := by
  intro pins s σ H x y v u Q I rx ry h
  obtain ⟨d, e, h1, h2, hd, q⟩ := h
  have hu' : X.A.units < cLine := by omega
  cases h1 with
  | non =>
    cases rx
    cases h2 with
    | non => cases ry; rw [eqD] at q; exact SeqAt.RcAt.none_none _ _ _ _ ⟨.bl _, H, I, rfl, q⟩
    | bl b => cases ry; rw [eqD] at q; exact SeqAt.RcAt.none_bool b _ _ _ _ ⟨.bl _, H, I, rfl, q⟩; all_goals simp
    | int b => obtain ⟨t, rfl⟩ := ry; rw [eqD] at q; exact SeqAt.RcAt.none_int b t _ _ _ _ ⟨.bl _, H, I, rfl, q⟩; all_goals simp
    | str b => obtain ⟨t, rfl⟩ := ry; rw [eqD] at q; exact SeqAt.RcAt.none_str b t _ _ _ _ ⟨.bl _, H, I, rfl, q⟩; all_goals simp
    | @lst b ys es q2 rr2 => cases ry; obtain ⟨vs, r2, p2, _⟩ := I.list q2; rw [eqD] at q; exact SeqAt.RcAt.none_list p2.isList hu' _ _ _ _ ⟨.bl _, H, I, rfl, q⟩; all_goals simp
    | @tup b ys es q2 rr2 => cases ry; obtain ⟨vs, r2, p2, _⟩ := I.tuple q2; rw [eqD] at q; exact SeqAt.RcAt.none_tuple p2 hu' _ _ _ _ ⟨.bl _, H, I, rfl, q⟩; all_goals simp
  | bl a =>
    cases rx
    cases h2 with
    | non => cases ry; rw [eqD] at q; exact SeqAt.RcAt.bool_none a _ _ _ _ ⟨.bl _, H, I, rfl, q⟩; all_goals simp
    | bl b => cases ry; rw [eqD] at q; exact SeqAt.RcAt.bool_bool a b _ _ _ _ ⟨.bl _, H, I, rfl, q⟩
    | int b => obtain ⟨t, rfl⟩ := ry; rw [eqD] at q; exact SeqAt.RcAt.bool_int a b t _ _ _ _ ⟨.bl _, H, I, rfl, q⟩
    | str b => obtain ⟨t, rfl⟩ := ry; rw [eqD] at q; exact SeqAt.RcAt.bool_str a b t _ _ _ _ ⟨.bl _, H, I, rfl, q⟩; all_goals simp
    | @lst b ys es q2 rr2 => cases ry; obtain ⟨vs, r2, p2, _⟩ := I.list q2; rw [eqD] at q; exact SeqAt.RcAt.bool_list a p2.isList hu' _ _ _ _ ⟨.bl _, H, I, rfl, q⟩; all_goals simp
    | @tup b ys es q2 rr2 => cases ry; obtain ⟨vs, r2, p2, _⟩ := I.tuple q2; rw [eqD] at q; exact SeqAt.RcAt.bool_tuple a p2 hu' _ _ _ _ ⟨.bl _, H, I, rfl, q⟩; all_goals simp
  | int a =>
    obtain ⟨t', rfl⟩ := rx
    cases h2 with
    | non => cases ry; rw [eqD] at q; exact SeqAt.RcAt.int_none a t' _ _ _ _ ⟨.bl _, H, I, rfl, q⟩; all_goals simp
    | bl b => cases ry; rw [eqD] at q; exact SeqAt.RcAt.int_bool a t' b _ _ _ _ ⟨.bl _, H, I, rfl, q⟩
    | int b => obtain ⟨t, rfl⟩ := ry; rw [eqD] at q; exact SeqAt.RcAt.int_int a t' b t _ _ _ _ ⟨.bl _, H, I, rfl, q⟩
    | str b => obtain ⟨t, rfl⟩ := ry; rw [eqD] at q; exact SeqAt.RcAt.int_str a t' b t _ _ _ _ ⟨.bl _, H, I, rfl, q⟩; all_goals simp
    | @lst b ys es q2 rr2 => cases ry; obtain ⟨vs, r2, p2, _⟩ := I.list q2; rw [eqD] at q; exact SeqAt.RcAt.int_list a t' p2.isList hu' _ _ _ _ ⟨.bl _, H, I, rfl, q⟩; all_goals simp
    | @tup b ys es q2 rr2 => cases ry; obtain ⟨vs, r2, p2, _⟩ := I.tuple q2; rw [eqD] at q; exact SeqAt.RcAt.int_tuple a t' p2 hu' _ _ _ _ ⟨.bl _, H, I, rfl, q⟩; all_goals simp
  | str a =>
    obtain ⟨t', rfl⟩ := rx
    cases h2 with
    | non => cases ry; rw [eqD] at q; exact SeqAt.RcAt.str_none a t' _ _ _ _ ⟨.bl _, H, I, rfl, q⟩; all_goals simp
    | bl b => cases ry; rw [eqD] at q; exact SeqAt.RcAt.str_bool a t' b _ _ _ _ ⟨.bl _, H, I, rfl, q⟩; all_goals simp
    | int b => obtain ⟨t, rfl⟩ := ry; rw [eqD] at q; exact SeqAt.RcAt.str_int a t' b t _ _ _ _ ⟨.bl _, H, I, rfl, q⟩; all_goals simp
    | str b => obtain ⟨t, rfl⟩ := ry; rw [eqD] at q; exact SeqAt.RcAt.str_str a t' b t _ _ _ _ ⟨.bl _, H, I, rfl, q⟩
    | @lst b ys es q2 rr2 => cases ry; obtain ⟨vs, r2, p2, _⟩ := I.list q2; rw [eqD] at q; exact SeqAt.RcAt.str_list a t' p2.isList hu' _ _ _ _ ⟨.bl _, H, I, rfl, q⟩; all_goals simp
    | @tup b ys es q2 rr2 => cases ry; obtain ⟨vs, r2, p2, _⟩ := I.tuple q2; rw [eqD] at q; exact SeqAt.RcAt.str_tuple a t' p2 hu' _ _ _ _ ⟨.bl _, H, I, rfl, q⟩; all_goals simp
  | @lst a xs ds qa r =>
    cases rx
    obtain ⟨us, r1, p, _⟩ := I.list qa
    cases h2 with
    | non => cases ry; rw [eqD] at q; exact SeqAt.RcAt.list_none p.isList hu' _ _ _ _ ⟨.bl _, H, I, rfl, q⟩; all_goals simp
    | bl b => cases ry; rw [eqD] at q; exact SeqAt.RcAt.list_bool b p.isList hu' _ _ _ _ ⟨.bl _, H, I, rfl, q⟩; all_goals simp
    | int b => obtain ⟨t, rfl⟩ := ry; rw [eqD] at q; exact SeqAt.RcAt.list_int b t p.isList hu' _ _ _ _ ⟨.bl _, H, I, rfl, q⟩; all_goals simp
    | str b => obtain ⟨t, rfl⟩ := ry; rw [eqD] at q; exact SeqAt.RcAt.list_str b t p.isList hu' _ _ _ _ ⟨.bl _, H, I, rfl, q⟩; all_goals simp
    | @lst b ys es q2 rr2 => cases ry; obtain ⟨vs, r2, p2, _⟩ := I.list q2; rw [eqD] at q; exact rc_lists p p2 (r1.length.symm.trans r.length) (r2.length.symm.trans rr2.length) hu' (fun j h1 h2 => eqAt_Ds I r rr2 r1 r2 (in1_lt (by simp only [PyData.depth] at hd; omega)) j h1 h2) _ _ _ _ ⟨.bl _, H, I, rfl, q⟩
    | @tup b ys es q2 rr2 => cases ry; obtain ⟨vs, r2, p2, _⟩ := I.tuple q2; rw [eqD] at q; exact SeqAt.RcAt.list_tuple p.isList p2 hu' _ _ _ _ ⟨.bl _, H, I, rfl, q⟩; all_goals simp
  | @tup a xs ds qa r =>
    cases rx
    obtain ⟨us, r1, p, _⟩ := I.tuple qa
    cases h2 with
    | non => cases ry; rw [eqD] at q; exact SeqAt.RcAt.tuple_none p hu' _ _ _ _ ⟨.bl _, H, I, rfl, q⟩; all_goals simp
    | bl b => cases ry; rw [eqD] at q; exact SeqAt.RcAt.tuple_bool b p hu' _ _ _ _ ⟨.bl _, H, I, rfl, q⟩; all_goals simp
    | int b => obtain ⟨t, rfl⟩ := ry; rw [eqD] at q; exact SeqAt.RcAt.tuple_int b t p hu' _ _ _ _ ⟨.bl _, H, I, rfl, q⟩; all_goals simp
    | str b => obtain ⟨t, rfl⟩ := ry; rw [eqD] at q; exact SeqAt.RcAt.tuple_str b t p hu' _ _ _ _ ⟨.bl _, H, I, rfl, q⟩; all_goals simp
    | @lst b ys es q2 rr2 => cases ry; obtain ⟨vs, r2, p2, _⟩ := I.list q2; rw [eqD] at q; exact SeqAt.RcAt.tuple_list p p2.isList hu' _ _ _ _ ⟨.bl _, H, I, rfl, q⟩; all_goals simp
    | @tup b ys es q2 rr2 => cases ry; obtain ⟨vs, r2, p2, _⟩ := I.tuple q2; rw [eqD] at q; exact rc_tuples p p2 (r1.length.symm.trans r.length) (r2.length.symm.trans rr2.length) hu' (fun j h1 h2 => eqAt_Ds I r rr2 r1 r2 (in1_lt (by simp only [PyData.depth] at hd; omega)) j h1 h2) _ _ _ _ ⟨.bl _, H, I, rfl, q⟩
theorem op_neD (hu : X.A.units + 64 < cLine) : OpR X (compareOp .NotEq) (rNeD X.K) := by
  intro pins s σ H x y v u Q I rx ry h
  obtain ⟨d, e, h1, h2, hd, q⟩ := h
  have hu' : X.A.units < cLine := by omega
  cases h1 with
  | non =>
    cases rx
    cases h2 with
    | non => cases ry; rw [eqD] at q; exact SeqAt.RcNeAt.none_none _ _ _ _ ⟨.bl _, H, I, rfl, q⟩
    | bl b => cases ry; rw [eqD] at q; exact SeqAt.RcNeAt.none_bool b _ _ _ _ ⟨.bl _, H, I, rfl, q⟩; all_goals simp
    | int b => obtain ⟨t, rfl⟩ := ry; rw [eqD] at q; exact SeqAt.RcNeAt.none_int b t _ _ _ _ ⟨.bl _, H, I, rfl, q⟩; all_goals simp
    | str b => obtain ⟨t, rfl⟩ := ry; rw [eqD] at q; exact SeqAt.RcNeAt.none_str b t _ _ _ _ ⟨.bl _, H, I, rfl, q⟩; all_goals simp
    | @lst b ys es q2 rr2 => cases ry; obtain ⟨vs, r2, p2, _⟩ := I.list q2; rw [eqD] at q; exact SeqAt.RcNeAt.none_list p2.isList hu' _ _ _ _ ⟨.bl _, H, I, rfl, q⟩; all_goals simp
    | @tup b ys es q2 rr2 => cases ry; obtain ⟨vs, r2, p2, _⟩ := I.tuple q2; rw [eqD] at q; exact SeqAt.RcNeAt.none_tuple p2 hu' _ _ _ _ ⟨.bl _, H, I, rfl, q⟩; all_goals simp
  | bl a =>
    cases rx
    cases h2 with
    | non => cases ry; rw [eqD] at q; exact SeqAt.RcNeAt.bool_none a _ _ _ _ ⟨.bl _, H, I, rfl, q⟩; all_goals simp
    | bl b => cases ry; rw [eqD] at q; exact SeqAt.RcNeAt.bool_bool a b _ _ _ _ ⟨.bl _, H, I, rfl, q⟩
    | int b => obtain ⟨t, rfl⟩ := ry; rw [eqD] at q; exact SeqAt.RcNeAt.bool_int a b t _ _ _ _ ⟨.bl _, H, I, rfl, q⟩
    | str b => obtain ⟨t, rfl⟩ := ry; rw [eqD] at q; exact SeqAt.RcNeAt.bool_str a b t _ _ _ _ ⟨.bl _, H, I, rfl, q⟩; all_goals simp
    | @lst b ys es q2 rr2 => cases ry; obtain ⟨vs, r2, p2, _⟩ := I.list q2; rw [eqD] at q; exact SeqAt.RcNeAt.bool_list a p2.isList hu' _ _ _ _ ⟨.bl _, H, I, rfl, q⟩; all_goals simp
    | @tup b ys es q2 rr2 => cases ry; obtain ⟨vs, r2, p2, _⟩ := I.tuple q2; rw [eqD] at q; exact SeqAt.RcNeAt.bool_tuple a p2 hu' _ _ _ _ ⟨.bl _, H, I, rfl, q⟩; all_goals simp
  | int a =>
    obtain ⟨t', rfl⟩ := rx
    cases h2 with
    | non => cases ry; rw [eqD] at q; exact SeqAt.RcNeAt.int_none a t' _ _ _ _ ⟨.bl _, H, I, rfl, q⟩; all_goals simp
    | bl b => cases ry; rw [eqD] at q; exact SeqAt.RcNeAt.int_bool a t' b _ _ _ _ ⟨.bl _, H, I, rfl, q⟩
    | int b => obtain ⟨t, rfl⟩ := ry; rw [eqD] at q; exact SeqAt.RcNeAt.int_int a t' b t _ _ _ _ ⟨.bl _, H, I, rfl, q⟩
    | str b => obtain ⟨t, rfl⟩ := ry; rw [eqD] at q; exact SeqAt.RcNeAt.int_str a t' b t _ _ _ _ ⟨.bl _, H, I, rfl, q⟩; all_goals simp
    | @lst b ys es q2 rr2 => cases ry; obtain ⟨vs, r2, p2, _⟩ := I.list q2; rw [eqD] at q; exact SeqAt.RcNeAt.int_list a t' p2.isList hu' _ _ _ _ ⟨.bl _, H, I, rfl, q⟩; all_goals simp
    | @tup b ys es q2 rr2 => cases ry; obtain ⟨vs, r2, p2, _⟩ := I.tuple q2; rw [eqD] at q; exact SeqAt.RcNeAt.int_tuple a t' p2 hu' _ _ _ _ ⟨.bl _, H, I, rfl, q⟩; all_goals simp
  | str a =>
    obtain ⟨t', rfl⟩ := rx
    cases h2 with
    | non => cases ry; rw [eqD] at q; exact SeqAt.RcNeAt.str_none a t' _ _ _ _ ⟨.bl _, H, I, rfl, q⟩; all_goals simp
    | bl b => cases ry; rw [eqD] at q; exact SeqAt.RcNeAt.str_bool a t' b _ _ _ _ ⟨.bl _, H, I, rfl, q⟩; all_goals simp
    | int b => obtain ⟨t, rfl⟩ := ry; rw [eqD] at q; exact SeqAt.RcNeAt.str_int a t' b t _ _ _ _ ⟨.bl _, H, I, rfl, q⟩; all_goals simp
    | str b => obtain ⟨t, rfl⟩ := ry; rw [eqD] at q; exact SeqAt.RcNeAt.str_str a t' b t _ _ _ _ ⟨.bl _, H, I, rfl, q⟩
    | @lst b ys es q2 rr2 => cases ry; obtain ⟨vs, r2, p2, _⟩ := I.list q2; rw [eqD] at q; exact SeqAt.RcNeAt.str_list a t' p2.isList hu' _ _ _ _ ⟨.bl _, H, I, rfl, q⟩; all_goals simp
    | @tup b ys es q2 rr2 => cases ry; obtain ⟨vs, r2, p2, _⟩ := I.tuple q2; rw [eqD] at q; exact SeqAt.RcNeAt.str_tuple a t' p2 hu' _ _ _ _ ⟨.bl _, H, I, rfl, q⟩; all_goals simp
  | @lst a xs ds qa r =>
    cases rx
    obtain ⟨us, r1, p, _⟩ := I.list qa
    cases h2 with
    | non => cases ry; rw [eqD] at q; exact SeqAt.RcNeAt.list_none p.isList hu' _ _ _ _ ⟨.bl _, H, I, rfl, q⟩; all_goals simp
    | bl b => cases ry; rw [eqD] at q; exact SeqAt.RcNeAt.list_bool b p.isList hu' _ _ _ _ ⟨.bl _, H, I, rfl, q⟩; all_goals simp
    | int b => obtain ⟨t, rfl⟩ := ry; rw [eqD] at q; exact SeqAt.RcNeAt.list_int b t p.isList hu' _ _ _ _ ⟨.bl _, H, I, rfl, q⟩; all_goals simp
    | str b => obtain ⟨t, rfl⟩ := ry; rw [eqD] at q; exact SeqAt.RcNeAt.list_str b t p.isList hu' _ _ _ _ ⟨.bl _, H, I, rfl, q⟩; all_goals simp
    | @lst b ys es q2 rr2 => cases ry; obtain ⟨vs, r2, p2, _⟩ := I.list q2; rw [eqD] at q; exact rc_listsN p p2 (r1.length.symm.trans r.length) (r2.length.symm.trans rr2.length) hu' (fun j h1 h2 => eqAt_Ds I r rr2 r1 r2 (in1_lt (by simp only [PyData.depth] at hd; omega)) j h1 h2) _ _ _ _ ⟨.bl _, H, I, rfl, q⟩
    | @tup b ys es q2 rr2 => cases ry; obtain ⟨vs, r2, p2, _⟩ := I.tuple q2; rw [eqD] at q; exact SeqAt.RcNeAt.list_tuple p.isList p2 hu' _ _ _ _ ⟨.bl _, H, I, rfl, q⟩; all_goals simp
  | @tup a xs ds qa r =>
    cases rx
    obtain ⟨us, r1, p, _⟩ := I.tuple qa
    cases h2 with
    | non => cases ry; rw [eqD] at q; exact SeqAt.RcNeAt.tuple_none p hu' _ _ _ _ ⟨.bl _, H, I, rfl, q⟩; all_goals simp
    | bl b => cases ry; rw [eqD] at q; exact SeqAt.RcNeAt.tuple_bool b p hu' _ _ _ _ ⟨.bl _, H, I, rfl, q⟩; all_goals simp
    | int b => obtain ⟨t, rfl⟩ := ry; rw [eqD] at q; exact SeqAt.RcNeAt.tuple_int b t p hu' _ _ _ _ ⟨.bl _, H, I, rfl, q⟩; all_goals simp
    | str b => obtain ⟨t, rfl⟩ := ry; rw [eqD] at q; exact SeqAt.RcNeAt.tuple_str b t p hu' _ _ _ _ ⟨.bl _, H, I, rfl, q⟩; all_goals simp
    | @lst b ys es q2 rr2 => cases ry; obtain ⟨vs, r2, p2, _⟩ := I.list q2; rw [eqD] at q; exact SeqAt.RcNeAt.tuple_list p p2.isList hu' _ _ _ _ ⟨.bl _, H, I, rfl, q⟩; all_goals simp
    | @tup b ys es q2 rr2 => cases ry; obtain ⟨vs, r2, p2, _⟩ := I.tuple q2; rw [eqD] at q; exact rc_tuplesN p p2 (r1.length.symm.trans r.length) (r2.length.symm.trans rr2.length) hu' (fun j h1 h2 => eqAt_Ds I r rr2 r1 r2 (in1_lt (by simp only [PyData.depth] at hd; omega)) j h1 h2) _ _ _ _ ⟨.bl _, H, I, rfl, q⟩
theorem relV_inj {z z' : V} {v : Value} (h : RelV z v) (h' : RelV z' v) : z = z' := by
  cases z <;> cases z' <;> simp only [L2.RelV] at h h' <;> first | rfl | (subst h; cases h'; rfl) | (subst h; cases h'; done) | (obtain ⟨t, rfl⟩ := h; obtain ⟨t', e⟩ := h'; cases e; rfl) | (obtain ⟨t, rfl⟩ := h; obtain ⟨t', e⟩ := h'; cases e; done) | (obtain ⟨t, rfl⟩ := h; cases h'; done) | (subst h; obtain ⟨t', e⟩ := h'; cases e)
open Classical in
noncomputable def eqVal (K : PySem.W.Frag) (H : Hp) (d : PyData) (v : Value) : Bool := if h : ∃ e z, RdV K H z e ∧ RelV z v then eqD h.choose d else false
theorem eqVal_of {pins : List (Addr × Obj)} {σ : L2.St} {H : Hp} {s : Shared} (I : Inv X pins σ H s) {d e : PyData} {z : V} {v : Value} (h : RdV X.K H z e) (r : RelV z v) : eqVal X.K H d v = eqD e d := by
  unfold eqVal
  have hx : ∃ e z, RdV X.K H z e ∧ RelV z v := ⟨e, z, h, r⟩
  rw [dif_pos hx]
  obtain ⟨z', h', r'⟩ := hx.choose_spec
  have ez := relV_inj r' r
  subst ez
  rw [RdV.det I h' h]
theorem any_eqVal {pins : List (Addr × Obj)} {σ : L2.St} {H : Hp} {s : Shared} (I : Inv X pins σ H s) {d : PyData} : ∀ {xs : List V} {ds : List PyData} {us : List Value}, RdVs X.K H xs ds → Vals xs us → us.any (eqVal X.K H d) = ds.any fun e => eqD e d
  | _, _, _, .nil, r => by cases r; rfl
  | _, _, _, .cons h t, r => by
    cases r with
    | cons r1 r2 => rw [List.any_cons, List.any_cons, eqVal_of I h r1, any_eqVal I t r2]
theorem mem_eqVal {pins : List (Addr × Obj)} {σ : L2.St} {H : Hp} {s : Shared} (I : Inv X pins σ H s) {A : Around} {x : V} {d : PyData} {u : Value} (hx : RdV X.K H x d) (rx : RelV x u) :
    ∀ {xs : List V} {ds : List PyData} {us : List Value}, RdVs X.K H xs ds → Vals xs us → A.units + PyData.depthAll ds < cLine → ∀ v ∈ us, SeqAt.EqAt A s v u (eqVal X.K H d v)
  | _, _, _, .nil, r, _ => fun v hv => by cases r; cases hv
  | _, _, _, @RdVs.cons _ _ y e ys es h t, r, hu => fun v hv => by
    have hm : A.units + e.depth < cLine ∧ A.units + PyData.depthAll es < cLine := by
      simp only [PyData.depthAll] at hu
      omega
    cases r with
    | cons r1 r2 =>
      rcases List.mem_cons.mp hv with rfl | hv
      · rw [eqVal_of I h r1]; exact eqAt_D I h hx r1 rx hm.1
      · exact mem_eqVal I hx rx t r2 hm.2 v hv
def rInD (K : PySem.W.Frag) (neg : Bool) : R2 := fun x y H Q => ∃ p xs d ds, y = .ref p ∧ (SqL K H p xs ∨ SqT K H p xs) ∧ RdV K H x d ∧ RdVs K H xs ds ∧ PyData.depthAll ds ≤ 60 ∧ Q (.bl (if neg then !(ds.any fun e => eqD e d) else ds.any fun e => eqD e d)) H
theorem op_notInD (hu : X.A.units + 64 < cLine) : OpR X (compareOp .NotIn) (rInD X.K true) := by
  intro pins s σ H x y v u Q I rx ry h
  obtain ⟨p, xs, d, ds, rfl, hq, hx, hs, hd, q⟩ := h
  cases ry
  have hu1 : X.A.in1.units + PyData.depthAll ds < cLine := by have := in1_units X.A; omega
  rcases hq with hq | hq
  · obtain ⟨its, r, pl, hz⟩ := I.list hq
    refine SeqAt.notIn_listAt (eqVal X.K H d) pl.isList (fun w hw => mem_eqVal I hx rx hs r hu1 w (by simpa using hw)) ⟨.bl _, H, I, rfl, ?_⟩
    rw [show its.toArray.any (eqVal X.K H d) = its.any (eqVal X.K H d) by simp, any_eqVal I hs r]
    exact q
  · obtain ⟨its, r, pl, hz⟩ := I.tuple hq
    refine SeqAt.notIn_tupleAt (eqVal X.K H d) pl (fun w hw => mem_eqVal I hx rx hs r hu1 w (by simpa using hw)) ⟨.bl _, H, I, rfl, ?_⟩
    rw [show its.toArray.any (eqVal X.K H d) = its.any (eqVal X.K H d) by simp, any_eqVal I hs r]
    exact q
end
end Nd
namespace Nd
open PySem PySem.Spec PyProof.Rows L2
def Ite (K : PySem.W.Frag) (a : Addr) : It :=
  ⟨fun i H => ∃ xs x, SqL K H a xs ∧ xs[i]? = some x, fun i H x H' => ∃ p y, x = .ref p ∧ H p = none ∧ H' = upd H p (.tup [.int i, y]) ∧ ∀ xs, SqL K H a xs → xs[i]? = some y, fun i H => ∃ xs, SqL K H a xs ∧ xs.length ≤ i⟩
section
variable {X : Cx} {pins : List (Addr × Obj)} {σ : L2.St} {H : Hp} {s : Shared} {h' : Heap}
theorem turnedL {t' : Nat} {fp : List Addr} (I : Inv X pins σ H s) (k : ∀ b o, b ∉ fp → s.heap.get? b = some o → h'.get? b = some o) (hf : ∀ b ∈ fp, FpOk X pins H b) : Inv X pins σ H { s with heap := h', toks := t' } := by
  have nit : ∀ b u, H b = some u → b ∉ fp := fun b u e z => by rw [(hf b z).1] at e; cases e
  refine I.step (g' := s.gens) (d' := s.drawn) (ch := fp) (fun b hb => ?_) (fun b o _ _ hc e _ => k b o hc e) (fun b o _ _ hc e _ => ⟨o.slots, k b o hc e⟩) (fun _ _ _ _ n => n)
    (fun b o hc e => ⟨o, k b o hc e⟩) (fun _ _ e => e) (fun _ _ _ e => e) (fun b ps e => ⟨#[], by rw [e]; simp⟩) (fun m hm => ?_) (fun b u e => ?_) I.bare
  · obtain ⟨_, f1, _, f3, f4, f5⟩ := hf b hb
    exact ⟨f3, f1, f4, f5⟩
  · obtain ⟨o, es, ep, ho, r⟩ := hm
    exact ⟨o, es, ep, k _ o (fun z => (hf _ z).2.1 rfl) ho, r⟩
  · refine (I.hok b u e).stay (fun c v hc q => k c v ?_ q) (fun _ q => q) fun _ _ q => q
    rcases hc with z | z
    · rw [z]; exact nit b u e
    · exact nit c _ z
end
theorem turn_enum {P : Program} {w : World} {K : PySem.W.Frag} {elts : List Expr} {k : Nat} {pos : Pos} (a e it : Addr) (ne : e ≠ it) :
    Turn P w K (.Tuple elts k pos) (Ite K a) [e, it] e (fun i h => (∃ old, IsEnum h e it ((i : Nat) : Int) old) ∧ h.IsListIter it a i) where
  mem := List.mem_cons_self
  obj := fun i h st b hb => by
    obtain ⟨⟨old, he⟩, o, e1, c, d⟩ := st
    rcases List.mem_cons.mp hb with z | z
    · subst z
      exact ⟨_, he, fun v z => by cases z⟩
    · rw [List.mem_singleton.mp z]
      exact ⟨o, e1, fun v z => by rw [d] at z; cases z⟩
  keep := fun i h h' st kp => ⟨let ⟨old, he⟩ := st.1; ⟨old, kp e List.mem_cons_self _ he⟩, st.2.at fun o q => kp it (List.mem_cons_of_mem _ List.mem_cons_self) o q⟩
  item := by
    intro X hP hw hK hc i pins s σ H E I hf st hg
    subst hP hw hK
    obtain ⟨xs, x, hq, hx⟩ := hg
    obtain ⟨its, rv, p, hz⟩ := I.list hq
    obtain ⟨u, hu, ru⟩ := rv.get hx
    obtain ⟨⟨old, he⟩, hit⟩ := st
    have el : e < s.heap.objs.size := Heap.lt_size he
    have il : it < s.heap.objs.size := by obtain ⟨_, q, _⟩ := hit; exact Heap.lt_size q
    refine wpAny_pyNext_enum_item he hit p.isList (x := u) (by simpa using hu) ne fun h1 ho hit1 hT hsz hk => ⟨_, rfl, wpAny_letOwnedTupleGo_enum ho fun h2 he2 hs2 => ?_⟩
    have hs2' : Heap.SameBut e h1 h2 := hs2
    -- the pair laid, then the iterators turned
    have I1 : Inv X pins σ (upd H s.heap.objs.size (.tup [.int i, x])) { s with heap := s.heap.push { cls := .type "tuple", data := .seq #[.int i s.toks, u] } } :=
      I.laid (t' := s.toks) (fun b o q => Heap.get?_push_of_some _ q) (Nat.le_refl _) ⟨by show 2 ≤ sizeLine; decide, [.int i s.toks, u], .cons ⟨_, rfl⟩ (.cons ru .nil), _, Heap.get?_push_size _ rfl, rfl, 0, rfl⟩
    have nT : ∀ b ∈ [e, it], b ≠ s.heap.objs.size := fun b hb => by
      rcases List.mem_cons.mp hb with z | z
      · rw [z]; exact Nat.ne_of_lt el
      · rw [List.mem_singleton.mp z]; exact Nat.ne_of_lt il
    have fr : ∀ b ∈ [e, it], (upd H s.heap.objs.size (.tup [.int i, x])) b = none := fun b hb => by rw [upd_ne (nT b hb)]; exact (hf b hb).1
    refine ⟨.ref s.heap.objs.size, _, turnedL (fp := [e, it]) (s := { s with heap := s.heap.push { cls := .type "tuple", data := .seq #[.int i s.toks, u] } }) (h' := h2) (t' := s.toks + 1) I1 (fun b o hb q => ?_) (fun b hb => ⟨fr b hb, (hf b hb).2⟩), rfl, ⟨_, x, rfl, I.hok.fresh (Nat.le_refl _), rfl, fun ys hy => by rw [I.list_inj hy hq]; exact hx⟩, ⟨⟨u, ?_⟩, ?_⟩, fr⟩
    · have nbe : b ≠ e := fun z => hb (by rw [z]; exact List.mem_cons_self)
      have nbi : b ≠ it := fun z => hb (by rw [z]; exact List.mem_cons_of_mem _ List.mem_cons_self)
      refine (hs2'.2 b nbe).trans ?_
      by_cases hbT : b = s.heap.objs.size
      · subst hbT
        have q' := (Heap.get?_push_size s.heap (o := { cls := .type "tuple", data := .seq #[.int i s.toks, u] }) rfl).symm.trans q
        rw [hT]
        exact q'
      · refine hk b o nbe nbi ?_
        have q0 : (s.heap.push { cls := .type "tuple", data := .seq #[.int i s.toks, u] }).get? b = some o := q
        rcases Heap.get?_push_cases q0 with z | z
        · exact absurd z.1 hbT
        · exact z
    · have : ((i + 1 : Nat) : Int) = (i : Int) + 1 := by omega
      rw [this]
      exact he2
    · exact hit1.at fun o q => (hs2'.2 it (Ne.symm ne)).trans q
  done := by
    intro X hP hw hK hc i pins s σ H E I hf st hg
    subst hP hw hK
    obtain ⟨xs, hq, hx⟩ := hg
    obtain ⟨its, rv, p, hz⟩ := I.list hq
    obtain ⟨⟨old, he⟩, hit⟩ := st
    have hl := rv.length
    exact wpAny_pyNext_enum_end (I.ok.hd hc) he hit p.isList (by simp; omega) fun h1 eb => ⟨rfl, turnedL (fp := [e, it]) (t' := s.toks) I (fun b o hb q => eb b o (fun z => hb (by rw [z]; exact List.mem_cons_of_mem _ List.mem_cons_self)) q) hf⟩
  self := fun _ _ _ _ _ st h => let ⟨_, he⟩ := st.1; wpAny_pyIter_enum he h
section
variable {X : Cx}
def iEnum (K : PySem.W.Frag) (ta : TA) : TI := fun σ H R => ta σ H fun vs H1 => ∃ a, vs = [.ref a] ∧ (∃ xs, SqL K H1 a xs) ∧ R (Ite K a) H1
theorem pi_enum {elts : List Expr} {k : Nat} {tp : Pos} {a : Expr} {ta : TA} {p pos : Pos} (hg : Gl X "enumerate") (hm : X.mg "enumerate" = none) (ha : PA X [a] ta) (hs : starEach [a] X.env = [(false, eval a X.env)] := by rfl) :
    PI X (.Tuple elts k tp) (.Call (.Name "enumerate" p) [a] [] pos) (iEnum X.K ta) := by
  intro pins s σ H R I h
  refine Call_ (ld_blt I hg hm (u := .type "enumerate") (by decide +kernel) (PyProof.Rows.callWith_type1 (thn (ha pos pins s σ H _ I h) fun us s1 ⟨vs, H1, I1, r1, q1⟩ => ?_) hs rfl))
  obtain ⟨l, e, ⟨xs, hq⟩, q⟩ := q1
  subst e
  obtain ⟨u, rfl, ru⟩ := vals1 r1
  cases ru
  obtain ⟨its, rv, pl, hz⟩ := I1.list hq
  refine call_enumerate_list pl.isList fun h2 he hit hsz hk => wpAny_pyIter_enum he ?_
  have fr : ∀ b ∈ [s1.heap.objs.size + 1, s1.heap.objs.size], FpOk X pins H1 b := fun b hb => by
    rcases List.mem_cons.mp hb with z | z
    · rw [z]; exact I1.fpOk (Nat.le_succ _) (I1.hok.fresh (Nat.le_succ _))
    · rw [List.mem_singleton.mp z]; exact I1.fpOk (Nat.le_refl _) (I1.hok.fresh (Nat.le_refl _))
  exact ⟨s1.heap.objs.size + 1, [s1.heap.objs.size + 1, s1.heap.objs.size], _, _, H1, rfl, I1.kept (t' := s1.toks) hk, turn_enum l _ _ (Nat.succ_ne_self _), ⟨⟨_, he⟩, hit⟩, fr, q⟩
end
end Nd
namespace Nd
open PySem PySem.Spec PyProof.Rows L2
section
variable {X : Cx} {pins : List (Addr × Obj)} {σ : L2.St} {H : Hp} {s : Shared} {scope : Scope} {cl : List (Str × Addr)} {fp : List Addr} {N : List Str}
theorem comp_start2 {x x2 : Str} {ys : List Str} {js : List Nat} {h1 : Heap} {tk : Nat} {m1 : Str → Option Value} (C : CompScope X scope cl x ys js) (I : Inv X pins σ H s) (hf : ∀ b ∈ fp, FpOk X pins H b) (ho : ∀ b ∈ fp, ∃ o, s.heap.get? b = some o)
    (hns : h1.Ns s.heap.objs.size m1) (keep : ∀ b u, s.heap.get? b = some u → h1.get? b = some u) :
    Inv (cxComp X scope cl (x :: x2 :: ys) fp s H) [] (none :: none :: frees σ js) H { s with heap := h1, toks := tk } := by
  have cellK : ∀ y c, cl.lookup y = some c → ∃ v, s.heap.IsCell c v ∧ h1.IsCell c v := fun y c e => by
    obtain ⟨v, o, q, d⟩ := I.cell y c (C.sub y c e)
    exact ⟨v, ⟨o, q, d⟩, o, keep c o q, d⟩
  refine ⟨comp_ok C I hf ho, rfl, I.bare, Un.kept keep, ⟨m1, hns, fun i y v e1 e2 _ => ?_⟩, fun y c e => ?_, I.hok.fresh (Nat.le_refl _), fun y c e => I.freeC y c (C.sub y c e), fun p hp => ?_, I.hok.kept keep, ?_⟩
  · match i, e1, e2 with
    | 0, e1, e2 => simp at e2
    | 1, e1, e2 => simp at e2
    | k + 2, e1, e2 =>
      have e1' : ys[k]? = some y := by
        have z : (x :: x2 :: ys)[k + 2]? = some y := e1
        simpa using z
      have e2' : (frees σ js)[k]? = some (some v) := by simpa using e2
      unfold frees at e2'
      rw [List.getElem?_map] at e2'
      cases ej : js[k]? with
      | none => rw [ej] at e2'; simp at e2'
      | some j =>
        rw [ej] at e2'
        have e3 : (σ[j]?).join = some v := by simpa using e2'
        have e4 : σ[j]? = some (some v) := by
          cases q : σ[j]? with
          | none => rw [q] at e3; simp at e3
          | some z => rw [q] at e3; simp at e3; rw [e3]
        obtain ⟨a1, a2, a3⟩ := C.at_ k y j e1' ej
        obtain ⟨m0, _, hl⟩ := I.loc
        have vis : Vis X.env.scope y := by
          rcases a3 with a3 | a3
          · exact .inr (.inl a3)
          · exact .inr (.inr a3)
        obtain ⟨u, r, l⟩ := hl j y v a1 e4 vis
        refine ⟨u, r, ?_⟩
        rcases l with ⟨k1, _⟩ | ⟨_, c, hc, hv⟩
        · rcases a3 with a3 | a3 <;> rw [k1] at a3 <;> cases a3
        · have m := lookup_mem a2
          have hs := C.has _ m rfl
          obtain ⟨c', hc'⟩ := Option.isSome_iff_exists.mp hs
          have ec : c' = c := by
            have := C.sub y c' hc'
            rw [hc] at this
            exact (Option.some.inj this).symm
          subst ec
          refine .inr ⟨?_, c', hc', ?_⟩
          · show (relabel scope X.env).names.lookup y = some .cell ∨ (relabel scope X.env).names.lookup y = some .free
            exact relabel_free a2
          · obtain ⟨o, q, d⟩ := hv
            exact ⟨o, keep c' o q, d⟩
  · obtain ⟨v, _, z⟩ := cellK y c e
    exact ⟨v, z⟩
  · have : p ∈ ([] : List (Addr × Obj)) := hp
    cases this
  · show (none :: none :: frees σ js).length = (x :: x2 :: ys).length
    simp [frees, C.len]
end
section
variable {X : Cx}
def CompW2 (K : PySem.W.Frag) (J : It) (js : List Nat) (tc : TT) (te : TE) (σ : L2.St) (H1 : Hp) (Q : VK) : Prop := ∀ D, H1 D = none → ∃ W : Nat → Nat → Hp → Prop, (∃ m, W 0 m (upd H1 D (.lst []))) ∧ ∀ i m H, W i m H →
  (J.stop i H ∧ Q (.ref D) H) ∨ (J.go i H ∧ ∀ x H', J.yld i H x H' → ∃ (t : Addr) (w1 w2 : V), x = .ref t ∧ SqT K H' t [w1, w2] ∧ ∃ (N1 : Hp → Prop) (N2 : VK), (∀ H2, N1 H2 → ∃ m', m' < m ∧ W (i + 1) m' H2) ∧
    (∀ y H3, N2 y H3 → ∃ acc, H3 D = some (.lst acc) ∧ acc.length < sizeLine ∧ ∃ m', m' < m ∧ W (i + 1) m' (upd H3 D (.lst (acc ++ [y])))) ∧
    tc (some w1 :: some w2 :: frees σ js) H' fun c H2 => if c = true then te (some w1 :: some w2 :: frees σ js) H2 N2 else N1 H2)
def tComp2 (K : PySem.W.Frag) (wi : TI) (js : List Nat) (tc : TT) (te : TE) : TE := fun σ H Q => wi σ H fun J H1 => CompW2 K J js tc te σ H1 Q
end
end Nd
namespace Nd
open PySem PySem.Spec PyProof.Rows L2
end Nd
namespace Nd
open PySem L2
def rCatX (K : PySem.W.Frag) : R2 := fun x y H Q => ∃ a b xs ys, x = .ref a ∧ y = .ref b ∧ SqT K H a xs ∧ SqT K H b ys ∧ xs.length + ys.length ≤ sizeLine ∧ (xs = [] → Q (.ref b) H) ∧ (ys = [] → Q (.ref a) H) ∧ (∀ p, H p = none → Q (.ref p) (upd H p (.tup (xs ++ ys))))
open PyProof.Rows in
theorem op_catX {X : Cx} : OpR X (binaryOp .Add) (rCatX X.K) := by
  intro pins s σ H x y v u Q I rx ry h
  obtain ⟨a, b, xs, ys, rfl, rfl, ha, hb, hz, q1, q3, q2⟩ := h
  by_cases hx : xs = []
  · cases rx
    cases ry
    obtain ⟨its, r1, p1, _⟩ := I.tuple ha
    obtain ⟨its2, r2, p2, _⟩ := I.tuple hb
    have e1 : its = [] := r1.nil_iff.mpr hx
    subst e1
    obtain ⟨⟨c1, d1, dt1, sl1⟩, g1, k1, n1, e1⟩ := id p1
    obtain ⟨⟨c2, d2, dt2, sl2⟩, g2, k2, n2, e2⟩ := id p2
    simp only at k1 e1 k2 e2
    subst k1 e1 k2 e2
    exact concat_meets ⟨_, g1, rfl⟩ ⟨_, g2, rfl⟩ noFill_tuple_add seq_tuple_add PySem.F.slot_tuple_add PySem.F.entry_tuple_add (PySem.F.args_tuple_add_2 _ _)
      (tuple_addW0 a b _ _ n1 n2 d1 d2 sl1 sl2 rfl) ⟨g1, g2, ⟨.ref b, H, I, rfl, q1 hx⟩⟩
  · exact op_catT pins s σ H (.ref a) (.ref b) v u Q I rx ry ⟨a, b, xs, ys, rfl, rfl, ha, hb, hx, hz, q3, fun _ => q2⟩
theorem strict_of : ∀ {l : List Int}, l.Nodup → l.Pairwise (· ≤ ·) → l.Pairwise (· < ·)
  | [], _, _ => .nil
  | a :: l, n, p => by
    obtain ⟨h1, q1⟩ := List.pairwise_cons.mp p
    obtain ⟨m1, n1⟩ := List.nodup_cons.mp n
    refine List.pairwise_cons.mpr ⟨fun b hb => ?_, strict_of n1 q1⟩
    have := h1 b hb
    have : a ≠ b := fun z => m1 (by rw [z]; exact hb)
    omega
end Nd
namespace Nd
open PySem PySem.Spec PyProof.Rows L2
end Nd
namespace Nd
open PySem L2
theorem PSs.imp {X : Cx} {st : List Stmt} {t t' : TS} (h : PSs X st t) (k : ∀ D σ H, t' D σ H → t D σ H) : PSs X st t' := fun pins s σ H D I q => h pins s σ H D I (k D σ H q)
theorem PS.imp {X : Cx} {st : Stmt} {t t' : TS} (h : PS X st t) (k : ∀ D σ H, t' D σ H → t D σ H) : PS X st t' := fun pins s σ H D I q => h pins s σ H D I (k D σ H q)
theorem PSs.by {X : Cx} {st : List Stmt} {t' : TS} (h : ∃ t, PSs X st t ∧ ∀ D σ H, t' D σ H → t D σ H) : PSs X st t' := let ⟨_, h1, h2⟩ := h; PSs.imp h1 h2
def rIs (K : PySem.W.Frag) : List V → Hp → VK → Prop := fun xs H Q => ∃ x n t b, xs = [x, .ty n] ∧ TyOf K H x t ∧ PySem.W.kitOne K t (.type n) = some b ∧ Q (.bl b) H
theorem isi_ok {X : Cx} : CallR X (.builtin "isinstance") (rIs X.K) := call_isinst
theorem kit_eq {K : PySem.W.Frag} {T : String} : PySem.W.kitOne K (.type T) (.type T) = some true := by
  unfold PySem.W.kitOne
  rw [if_pos (by simp)]
theorem compScope0 {X : Cx} {scope : Scope} {x : Str} (clos : closureFor scope X.env = pure []) (nocell : ∀ y ∈ scope.names, y.2 ≠ .cell) (kind : scope.kind = .function) (locs : ∀ y ∈ scope.names, y.2 = .local → scope.names.lookup y.1 = some .local)
    (own : scope.names.lookup x = some .local) (has_ : (scope.names.all fun y => !(y.2 == NameKind.free) || (([] : List (Str × Addr)).lookup y.1).isSome) = true) : CompScope X scope [] x [] [] :=
  ⟨clos, nocell, kind, locs, own, fun _ _ h => by simp at h, has_, List.nodup_cons.mpr ⟨List.not_mem_nil, List.nodup_nil⟩, rfl, fun k y j e1 _ => by simp at e1⟩
theorem sz {n : Nat} (h : n ≤ 1000 := by first | decide | simp | (simp; omega)) : n ≤ sizeLine := Nat.le_of_lt (small1000 h)
def hide (D : Addr) (H : Hp) : Hp := fun b => if b = D then none else H b
theorem hide_ne {D b : Addr} {H : Hp} (h : b ≠ D) : hide D H b = H b := by unfold hide; rw [if_neg h]
theorem hide_upd {D : Addr} {H : Hp} {o : HO} : hide D (upd H D o) = hide D H := by
  funext b
  unfold hide
  by_cases h : b = D
  · rw [if_pos h, if_pos h]
  · rw [if_neg h, if_neg h, upd_ne h]
theorem hide_same {D : Addr} {H H' : Hp} (s : Same H H') : Same (hide D H) (hide D H') := fun b o e => by
  unfold hide at e ⊢
  by_cases h : b = D
  · rw [if_pos h] at e; cases e
  · rw [if_neg h] at e ⊢; exact s _ _ e
theorem hide_in {D : Addr} {H : Hp} : Same (hide D H) H := fun b o e => by
  unfold hide at e
  by_cases h : b = D
  · rw [if_pos h] at e; cases e
  · rw [if_neg h] at e; exact e
theorem same_hide {D : Addr} {H1 H : Hp} (n : H1 D = none) (s : Same H1 H) : Same H1 (hide D H) := fun b o e => by
  rw [hide_ne (ne_of_none e n)]; exact s _ _ e
theorem same_upd {D : Addr} {H1 H : Hp} {o : HO} (n : H1 D = none) (s : Same H1 H) : Same H1 (upd H D o) := fun b u e => by
  rw [upd_ne (ne_of_none e n)]; exact s _ _ e
theorem RdVs.snoc {K : PySem.W.Frag} {H : Hp} : ∀ {xs : List V} {ds : List PyData} {x : V} {d : PyData}, RdVs K H xs ds → RdV K H x d → RdVs K H (xs ++ [x]) (ds ++ [d])
  | _, _, _, _, .nil, h => .cons h .nil
  | _, _, _, _, .cons a t, h => .cons a (RdVs.snoc t h)
theorem RdVs.len {K : PySem.W.Frag} {H : Hp} : ∀ {xs : List V} {ds : List PyData}, RdVs K H xs ds → xs.length = ds.length
  | _, _, .nil => rfl
  | _, _, .cons _ t => by rw [List.length_cons, List.length_cons, RdVs.len t]
section
variable {K : PySem.W.Frag} {a : Addr} {xs : List V} {js : List Nat} {tc : TT} {te : TE} {σ : L2.St} {H1 : Hp} {Q : VK}
theorem comp_enumBy (hz : xs.length ≤ sizeLine) (Pv : Addr → Nat → List V → Hp → Prop)
    (h0 : ∀ D, H1 D = none → Pv D 0 [] (upd H1 D (.lst []))) (hg : ∀ D i acc H, Pv D i acc H → SqL K H a xs)
    (hs : ∀ D (i : Nat) x acc H t, H1 D = none → xs[i]? = some x → H D = some (.lst acc) → Pv D i acc H → H t = none → tc (some (.int i) :: some x :: frees σ js) (upd H t (.tup [.int i, x])) fun c H2 => if c = true then te (some (.int i) :: some x :: frees σ js) H2 fun y H3 => H3 D = some (.lst acc) ∧ Pv D (i + 1) (acc ++ [y]) (upd H3 D (.lst (acc ++ [y])))
      else H2 D = some (.lst acc) ∧ Pv D (i + 1) acc H2)
    (hd : ∀ D acc H, H1 D = none → H D = some (.lst acc) → Pv D xs.length acc H → Q (.ref D) H) : CompW2 K (Ite K a) js tc te σ H1 Q := by
  intro D nD
  refine ⟨fun i m H => m = xs.length - i ∧ i ≤ xs.length ∧ ∃ acc, H D = some (.lst acc) ∧ acc.length ≤ i ∧ Pv D i acc H, ⟨xs.length, by simp, Nat.zero_le _, [], upd_same, Nat.le_refl _, h0 D nD⟩, ?_⟩
  rintro i m H ⟨rfl, hi, acc, ha, hl, p⟩
  have g := hg D i acc H p
  by_cases hlt : i < xs.length
  · refine .inr ⟨⟨xs, xs[i], g, by simp [hlt]⟩, fun x H' y => ?_⟩
    obtain ⟨t, z, rfl, nt, rfl, hz'⟩ := y
    have hx := hz' xs g
    refine ⟨t, _, _, rfl, SqT.of upd_same, fun H2 => H2 D = some (.lst acc) ∧ Pv D (i + 1) acc H2, fun y H3 => H3 D = some (.lst acc) ∧ Pv D (i + 1) (acc ++ [y]) (upd H3 D (.lst (acc ++ [y]))), fun H2 q => ?_, fun z H3 q => ?_, hs D i z acc _ t nD hx ha p nt⟩
    · exact ⟨xs.length - (i + 1), by omega, rfl, hlt, acc, q.1, by omega, q.2⟩
    · exact ⟨acc, q.1, by omega, xs.length - (i + 1), by omega, rfl, hlt, acc ++ [z], upd_same, by rw [List.length_append, List.length_singleton]; omega, q.2⟩
  · have e : i = xs.length := by omega
    subst e
    exact .inl ⟨⟨xs, g, Nat.le_refl _⟩, hd D acc H nD ha p⟩
end
theorem cut_int (xs : List Int) (lo hi : Option Int) : ∃ ys : List Int, cutV (xs.map V.int) lo hi = ys.map V.int ∧ ys.length ≤ xs.length := by
  refine ⟨(xs.drop (HT.sIx xs.length 0 lo)).take (HT.sIx xs.length xs.length hi - HT.sIx xs.length 0 lo), ?_, ?_⟩
  · unfold cutV
    rw [List.length_map, List.map_take, List.map_drop]
  · exact ((List.take_sublist _ _).trans (List.drop_sublist _ _)).length_le
theorem for_cells {K : PySem.W.Frag} {n : Int} {a : Addr} {ns : List Int} {m : Nat} {tl0 : List (Option V)} {tb : TS} {D : Ends} {H : Hp} (hS : SqL K H a (ns.map V.int)) (h63 : ns.length ≤ 63) (hl : tl0.length = m)
    (body : ∀ (c : Int) (tl : List (Option V)) (H4 : Hp) (N : L2.St → Hp → Prop), tl.length = m → (∀ (tl' : List (Option V)) (H' : Hp), tl'.length = m → Same H4 H' → N (some (.ref a) :: tl') H') → tb { D with nx := N, ct := N, bk := D.nx } (some (.ref a) :: tl.set 0 (some (.int c))) H4)
    (fin : ∀ (tl' : List (Option V)) (H' : Hp), tl'.length = m → D.nx (some (.ref a) :: tl') H') :
    tFor (iList K (tOp rCat (tSl (rSlL K) (tVar 0) tNoPart (tPart (tC (.int n)))) (tLst (tCons (tC (.int 0)) tNil)))) (gName 1) tb D (some (.ref a) :: tl0) H := by
  obtain ⟨ys, ey, ly⟩ := cut_int ns none (some n)
  refine ⟨_, rfl, n, rfl, a, _, rfl, hS, fun p1 np1 => ⟨sz, fun p2 np2 => ?_⟩⟩
  rw [ey] at np2 ⊢
  have s2 := same_new np2 (.lst [V.int 0])
  refine ⟨p1, p2, _, _, rfl, rfl, s2 _ _ upd_same, upd_same, (by rw [List.length_map]; exact sz (by simp; omega)), fun p3 np3 => ?_⟩
  have e : (ys.map V.int) ++ [V.int 0] = (ys ++ [0]).map V.int := by rw [List.map_append]; rfl
  rw [e]
  have hp3 := upd_same (H := upd (upd H p1 (.lst (ys.map V.int))) p2 (.lst [V.int 0])) (a := p3) (o := .lst ((ys ++ [0]).map V.int))
  generalize upd (upd (upd H p1 (.lst (ys.map V.int))) p2 (.lst [V.int 0])) p3 (.lst ((ys ++ [0]).map V.int)) = H3 at hp3
  refine ⟨p3, rfl, ⟨_, SqL.of hp3⟩, for_list (K := K) (a := p3) (xs := (ys ++ [0]).map V.int) (fun i σ H4 => ∃ tl, σ = some (.ref a) :: tl ∧ tl.length = m ∧ Same H3 H4) ⟨tl0, rfl, hl, Same.refl _⟩ (fun i σ H4 _ ⟨tl, _, _, sm⟩ => SqL.of (sm _ _ hp3)) ?_ ?_⟩
  · rintro i x σ H4 hx ⟨tl, rfl, htl, sm⟩
    obtain ⟨c, _, rfl⟩ := List.mem_map.mp (List.mem_of_getElem? hx)
    exact body c tl H4 _ htl fun tl' H' h1 h2 => ⟨tl', rfl, h1, sm.trans h2⟩
  · rintro σ H4 ⟨tl, rfl, htl, sm⟩
    exact fin tl H4 htl
end Nd
namespace Nd
open PySem PySem.Spec PyProof.Rows L2
theorem okThere {P : Program} {w : World} {H : Hp} {h : Heap} {a : Addr} {o : HO} (x : ObjOk P w H h a o) : ∃ u, h.get? a = some u := by
  cases o with
  | lst xs => obtain ⟨_, _, _, _, e⟩ := x; exact ⟨_, e⟩
  | tup xs => obtain ⟨_, _, _, u, e, _⟩ := x; exact ⟨_, e⟩
  | dK kvs => obtain ⟨_, _, _, _, u, _, _, e, _⟩ := x; exact ⟨_, e⟩
  | dT kvs => obtain ⟨_, _, _, _, u, _, _, e, _⟩ := x; exact ⟨_, e⟩
  | set S n => obtain ⟨u, _, _, _, e, _⟩ := x; exact ⟨_, e⟩
  | ins C dx fs => obtain ⟨_, _, _, e, _⟩ := x; exact ⟨_, e⟩
  | own y => exact x
  | xd fs => obtain ⟨_, ⟨_, _, _, e, _⟩, _⟩ := x; exact ⟨_, e⟩
  | rng lo hi => obtain ⟨_, _, _, e⟩ := x; exact ⟨_, e⟩
  | frz ob u => obtain ⟨e, _⟩ := x; exact ⟨_, e⟩
  | tbl ps => exact ⟨_, (show h.get? a = some _ from x)⟩
  | met f y => exact ⟨_, (show h.get? a = some _ from x)⟩
  | ext φ => obtain ⟨_, e, _⟩ := x; exact e
structure Fly (P : Program) (w : World) (outer : List Env) (H H' : Hp) (s s' : Shared) (e C t : Addr) (B : Heap) : Prop where
  os : s'.os = s.os
  bare : AllBare s'.gens
  fly : Heap.FlyingW B outer e (.ref C) (.ref t) s'.heap
  cov : ∀ b o, s.heap.get? b = some o → b ∉ frs outer → ∃ o', B.get? b = some o' ∧ (H b = none → o' = o)
  slot : ∀ b o, s.heap.get? b = some o → b ∈ frs outer → H b = none → ∃ sl, s'.heap.get? b = some { o with slots := sl }
  free : ∀ b o, s.heap.get? b = some o → H b = none → H' b = none
  tups : ∀ b xs, H b = some (.tup xs) → H' b = some (.tup xs)
  frzs : ∀ b o u, H b = some (.frz o u) → H' b = some (.frz o u)
  tbls : ∀ b ps, H b = some (.tbl ps) → ∃ more, H' b = some (.tbl (ps ++ more))
  hok : HOk P w H' B
def CXN (P : Program) (w : World) : CXT := fun outer H s E ev s' => ∃ (e C t : Addr) (H' : Hp) (B : Heap), ev = .ref e ∧ Fly P w outer H H' s s' e C t B ∧ E (.ref C) none H'
section
variable {P : Program} {w : World} {outer : List Env} {H H' : Hp} {s s' : Shared} {e C t : Addr} {B : Heap}
theorem Fly.un (F : Fly P w outer H H' s s' e C t B) : Un (frs outer) [] H H' s.heap s'.heap where
  keep := fun b o q n hb _ => by
    obtain ⟨o', e1, e2⟩ := F.cov b o q hb
    rw [e2 n] at e1
    exact F.fly.1 b o e1
  slot := fun b o q n hb _ => F.slot b o q hb n
  free := fun b o q n _ => F.free b o q n
  there := fun b o q _ => by
    by_cases hb : b ∈ frs outer
    · obtain ⟨_, o', e1, _⟩ := F.fly.2.2.1.mem hb
      exact ⟨o', e1⟩
    · obtain ⟨o', e1, _⟩ := F.cov b o q hb
      exact ⟨o', F.fly.1 b o' e1⟩
  tups := F.tups
  frzs := F.frzs
  tbls := F.tbls
theorem Fly.new (F : Fly P w outer H H' s s' e C t B) : H' e = none := by
  cases q : H' e with
  | none => rfl
  | some u =>
    obtain ⟨o, e1⟩ := okThere (F.hok e u q)
    rw [F.fly.2.1] at e1
    cases e1
theorem Fly.on {h' : Heap} (F : Fly P w outer H H' s s' e C t B) (f : Heap.FlyingW B outer e (.ref C) (.ref t) h') (u : s'.heap.UpToSlots h') : Fly P w outer H H' s { s' with heap := h' } e C t B :=
  ⟨F.os, F.bare, f, F.cov, fun b o q hb n => by
    obtain ⟨sl, e1⟩ := F.slot b o q hb n
    obtain ⟨_, o', e2, nf⟩ := F.fly.2.2.1.mem hb
    rw [e1] at e2
    cases e2
    obtain ⟨sl', e3⟩ := u b _ e1 nf
    exact ⟨sl', e3⟩, F.free, F.tups, F.frzs, F.tbls, F.hok⟩
end
section
variable {P : Program} {w : World} {K : PySem.W.Frag} {mg : Str → Option Value} {base : Heap} {N : List Str} {qual : Str} {scope : Scope} {f : Addr} {cd : Value} {A : Around} {outer : List Env} {s : Shared} {H : Hp} {E : XK}
theorem okX {x : Str} {st : Stmt} {fd : FuncData} {ps : List Str} {k : Nat} {sp : Sp} (F : Fun K x qual st f fd) (S : FnScope N ps (defScope st)) (len : ∀ vs H Q E, sp vs H Q E → vs.length = ps.length)
    (hbody : ∀ (cdv : Value) (A : Around) (outer : List Env) (s : Shared) (H : Hp) (vs : List V) (Q : VK) (E : XK), Room k (A.deeper (envOfC qual (defScope st) s.heap.objs.size f cdv)) → sp vs H Q E →
      ∃ t, PSs (cxOf (CXN P w) P w K mg base N qual (defScope st) f cdv A outer s H E) (defBody st) t ∧ t { nx := fun _ H' => Q .non H', rt := Q } (start N vs) H) : FnOk P w K mg base (CXN P w) (k + 1) f fd ps sp := by
  obtain ⟨oc, od, kV, doc, pm, an, cdv, ct, osl, rfl, lk, hcd⟩ := F.ex
  exact fn_of lk hcd S len fun A outer s H vs Q E hr hsp => hbody cdv A outer s H vs Q E hr hsp
end
end Nd
namespace Nd
open PySem PySem.Spec PyProof.Rows L2
section
variable {X : Cx} {pins : List (Addr × Obj)} {σ : L2.St} {H : Hp} {s : Shared} {v : Value} {E : Value → Shared → Prop}
theorem PA.nox {es : List Expr} {t : TA} (h : PA X.nox es t) : PA X es t := fun pos pins s σ H Q I hw =>
  wpAny_mono (h pos pins s σ H Q (I.wish _) hw) (fun _ _ ⟨v, H', I', r, q⟩ => ⟨v, H', I'.unwish, r, q⟩) fun _ _ z => False.elim z
end
end Nd
namespace Nd
open PySem PySem.Spec PyProof.Rows L2
end Nd
namespace Nd
open PySem PySem.Spec PyProof.Rows L2
end Nd
namespace Nd
open PySem PySem.Spec PyProof.Rows L2
theorem valsI : ∀ {vs : List Value} {ns : List Int}, IntsAre vs ns → Vals (ns.map V.int) vs
  | _, _, .nil => .nil
  | _, _, .cons n t h => .cons ⟨t, rfl⟩ (valsI h)
section
variable {X : Cx}
def rSortedL (K : PySem.W.Frag) : List V → Hp → VK → Prop := fun xs H Q => ∃ (a : Addr) (ns : List Int), xs = [.ref a] ∧ SqL K H a (ns.map V.int) ∧ ns.length < 64 ∧
  ∀ (p : Addr) (ms : List Int), H p = none → ms.Perm ns → ms.Pairwise (· ≤ ·) → Q (.ref p) (upd H p (.lst (ms.map V.int)))
theorem call_sortedL : CallR X (.builtin "sorted") (rSortedL X.K) := by
  intro pins s σ H xs us Q I r h
  obtain ⟨a, ns, rfl, hs, hl, q⟩ := h
  obtain ⟨u, rfl, ru⟩ := vals1 r
  cases ru
  obtain ⟨its, rv, p, hz⟩ := I.list hs
  have len : its.length < 64 := by rw [← rv.length, List.length_map]; exact hl
  refine sorted_ints p.isList (intsAre_of rv) len fun out ms a1 a2 a3 => ?_
  obtain ⟨e, he⟩ := sortedAll_at s.heap its out
  have ml : ms.length < 64 := by rw [a2.length_eq]; exact hl
  exact ⟨.ref (s.heap.objs.size + 1), _, I.laid (t' := s.toks) (o := .lst (ms.map V.int)) (fun _ _ => sortedAll_old) (Nat.le_succ _) ⟨by rw [List.length_map, sizeLine_eq]; omega, out.toList, e, valsI a1, by simpa using he⟩, rfl, q _ ms (I.hok.fresh (Nat.le_succ _)) a2 a3⟩
end
end Nd
namespace NdS
open PySem
theorem laid_led {mask finger moves : Nat} {led plain : Bool} {hs : Array Int} {t : SetTable} {order : Array Nat} (h : SetTable.laid mask finger moves led plain hs = some (t, order)) : t.led = led ∧ t.mask = mask ∧ t.plain = plain ∧ t.dummies = #[] := by
  unfold SetTable.laid at h
  cases hl : SetTable.layClean mask hs with
  | none => rw [hl] at h; cases h
  | some owner =>
    rw [hl] at h
    cases h
    exact ⟨rfl, rfl, rfl, rfl⟩
def st (m i : Nat) : Nat := (i * 5 + 1) % m
def it (m : Nat) : Nat → Nat → Nat
  | 0, i => i
  | t + 1, i => it m t (st m i)
theorem it_add (m : Nat) : ∀ (a b i : Nat), it m (a + b) i = it m b (it m a i)
  | 0, b, i => by rw [Nat.zero_add]; rfl
  | a + 1, b, i => by rw [Nat.add_right_comm]; exact it_add m a b (st m i)
def orb (m : Nat) : Nat → Nat → List Nat
  | 0, _ => []
  | f + 1, i => i :: orb m f (st m i)
theorem mem_orb {m : Nat} : ∀ {f i e : Nat}, e ∈ orb m f i → ∃ t, t < f ∧ it m t i = e
  | 0, _, _, h => by cases h
  | f + 1, i, e, h => by
    rcases List.mem_cons.mp h with z | z
    · exact ⟨0, Nat.succ_pos _, z.symm⟩
    · obtain ⟨t, h1, h2⟩ := mem_orb z
      exact ⟨t + 1, Nat.succ_lt_succ h1, h2⟩
def goodM (m : Nat) : Prop := 0 < m ∧ it m m 0 = 0 ∧ ∀ e, e < m → e ∈ orb m m 0
theorem goodM_of {m : Nat} (h0 : 0 < m) (h1 : (it m m 0 == 0) = true) (h2 : ((List.range m).all fun e => (orb m m 0).contains e) = true) : goodM m :=
  ⟨h0, by simpa using h1, fun e he => by
    have := List.all_eq_true.mp h2 e (List.mem_range.mpr he)
    simpa using this⟩
theorem good8 : goodM 8 := goodM_of (by decide) (by decide +kernel) (by decide +kernel)
theorem good16 : goodM 16 := goodM_of (by decide) (by decide +kernel) (by decide +kernel)
theorem good32 : goodM 32 := goodM_of (by decide) (by decide +kernel) (by decide +kernel)
theorem good64 : goodM 64 := goodM_of (by decide) (by decide +kernel) (by decide +kernel)
theorem good128 : goodM 128 := goodM_of (by decide) (by decide +kernel) (by decide +kernel)
theorem good256 : goodM 256 := goodM_of (by decide) (by decide +kernel) (by decide +kernel)
theorem cover {m : Nat} (g : goodM m) {i e : Nat} (hi : i < m) (he : e < m) : ∃ t, t < m ∧ it m t i = e := by
  obtain ⟨h0, h1, h2⟩ := g
  obtain ⟨a, ha, ea⟩ := mem_orb (h2 i hi)
  obtain ⟨b, hb, eb⟩ := mem_orb (h2 e he)
  by_cases hab : a ≤ b
  · refine ⟨b - a, by omega, ?_⟩
    rw [← ea, ← it_add, Nat.add_sub_cancel' hab]
    exact eb
  · refine ⟨b + m - a, by omega, ?_⟩
    rw [← ea, ← it_add, show a + (b + m - a) = m + b by omega, it_add, h1]
    exact eb
def lp (m : Nat) : Nat → Nat → Nat → Nat × Nat
  | 0, i, p => (i, p)
  | t + 1, i, p => lp m t ((i * 5 + 1 + p / 32) % m) (p / 32)
theorem lp_add (m : Nat) : ∀ (a b i p : Nat), lp m (a + b) i p = lp m b (lp m a i p).1 (lp m a i p).2
  | 0, b, i, p => by rw [Nat.zero_add]; rfl
  | a + 1, b, i, p => by rw [Nat.add_right_comm]; exact lp_add m a b _ _
theorem lp_zero (m : Nat) : ∀ (t i : Nat), lp m t i 0 = (it m t i, 0)
  | 0, _ => rfl
  | t + 1, i => lp_zero m t (st m i)
theorem lp_small {m : Nat} : ∀ (n i p : Nat), p < 32 ^ n → (lp m n i p).2 = 0
  | 0, i, p, h => by show p = 0; simpa using h
  | n + 1, i, p, h => lp_small n _ _ (by rw [Nat.pow_succ] at h; exact Nat.div_lt_of_lt_mul (by omega))
theorem lp_lt {m : Nat} (h0 : 0 < m) : ∀ (n i p : Nat), i < m → (lp m n i p).1 < m
  | 0, i, p, h => h
  | n + 1, i, p, h => lp_lt h0 n _ _ (Nat.mod_lt _ h0)
theorem lp_cover {m : Nat} (g : goodM m) {i p e : Nat} (hi : i < m) (hp : p < 2 ^ 64) (he : e < m) : ∃ t, t < m + 14 ∧ (lp m t i p).1 = e := by
  have h13 := lp_small (m := m) 13 i p (Nat.lt_of_lt_of_le hp (by decide))
  obtain ⟨t, ht, e1⟩ := cover g (lp_lt g.1 13 i p hi) he
  refine ⟨13 + t, by omega, ?_⟩
  rw [lp_add, h13, lp_zero]
  exact e1
theorem runEnd_ge (mask i : Nat) : i ≤ SetTable.runEnd mask i := by unfold SetTable.runEnd; split <;> omega
theorem free_some {mask : Nat} {owner : Array (Option Nat)} : ∀ (fuel i p t : Nat), t < fuel → (owner.getD (lp (mask + 1) t i p).1 (some 0)).isNone = true → ∃ j, SetTable.layClean.free mask owner fuel i p = some j ∧ (owner.getD j (some 0)).isNone = true
  | 0, _, _, _, h, _ => absurd h (Nat.not_lt_zero _)
  | fuel + 1, i, p, t, h, hn => by
    unfold SetTable.layClean.free
    split
    · rename_i k hk
      exact ⟨i + k, rfl, by have := List.find?_some hk; exact this⟩
    · rename_i hk
      rw [List.find?_eq_none] at hk
      cases t with
      | zero =>
        have := hk 0 (List.mem_range.mpr (by have := runEnd_ge mask i; omega))
        exact absurd hn (by simpa [lp] using this)
      | succ t =>
        exact free_some fuel _ _ t (by omega) hn
theorem filterMap_set_perm {L : List (Option Nat)} : ∀ {j x : Nat}, L[j]? = some none → ((L.set j (some x)).filterMap id).Perm (x :: L.filterMap id) := by
  induction L with
  | nil => intro j x h; simp at h
  | cons a L ih =>
    intro j x h
    cases j with
    | zero =>
      simp at h
      subst h
      simp
    | succ j =>
      have h' : L[j]? = some none := by simpa using h
      have := ih (x := x) h'
      cases a with
      | none => simpa using this
      | some b => simpa using (List.Perm.cons b this).trans (List.Perm.swap x b _)
theorem some_none {L : List (Option Nat)} : (L.filterMap id).length < L.length → ∃ j : Nat, L[j]? = some none := by
  induction L with
  | nil => intro h; simp at h
  | cons a L ih =>
    intro h
    cases a with
    | none => exact ⟨0, rfl⟩
    | some b =>
      have : (L.filterMap id).length < L.length := by simpa using h
      obtain ⟨j, hj⟩ := ih this
      exact ⟨j + 1, by simpa using hj⟩
theorem bits_lt (h : Int) : SetTable.bits h < 2 ^ 64 := by
  unfold SetTable.bits
  have h1 := Int.emod_nonneg h (show (2 ^ 64 : Int) ≠ 0 by decide)
  have h2 := Int.emod_lt_of_pos h (show (0 : Int) < 2 ^ 64 by decide)
  omega
def layF (mask : Nat) (acc : Option (Array (Option Nat) × Nat)) (h : Int) : Option (Array (Option Nat) × Nat) := do
  let (owner, k) ← acc
  let j ← SetTable.layClean.free mask owner (SetTable.turns mask) (SetTable.bits h % (mask + 1)) (SetTable.bits h)
  pure (owner.setIfInBounds j (some k), k + 1)
theorem lay_fold {mask : Nat} (g : goodM (mask + 1)) : ∀ (hs : List Int) (owner : Array (Option Nat)) (n : Nat), owner.size = mask + 1 → (owner.toList.filterMap id).Perm (List.range n) → n + hs.length ≤ mask →
    ∃ owner' : Array (Option Nat), hs.foldl (layF mask) (some (owner, n)) = some (owner', n + hs.length) ∧ owner'.size = mask + 1 ∧ (owner'.toList.filterMap id).Perm (List.range (n + hs.length))
  | [], owner, n, h1, h2, _ => ⟨owner, rfl, h1, h2⟩
  | h :: hs, owner, n, h1, h2, h3 => by
    rw [List.length_cons] at h3
    have len : (owner.toList.filterMap id).length = n := by rw [h2.length_eq, List.length_range]
    obtain ⟨e, he⟩ := some_none (L := owner.toList) (by rw [len, Array.length_toList]; omega)
    have he' : e < mask + 1 := by
      have := (List.getElem?_eq_some_iff.mp he).1
      rw [Array.length_toList] at this
      omega
    obtain ⟨t, ht, et⟩ := lp_cover g (i := SetTable.bits h % (mask + 1)) (p := SetTable.bits h) (e := e) (Nat.mod_lt _ g.1) (bits_lt h) he'
    have hn : (owner.getD (lp (mask + 1) t (SetTable.bits h % (mask + 1)) (SetTable.bits h)).1 (some 0)).isNone = true := by
      rw [et, Array.getD_eq_getD_getElem?, ← Array.getElem?_toList, he]
      rfl
    obtain ⟨j, ej, hj⟩ := free_some (mask := mask) (owner := owner) (SetTable.turns mask) _ _ t (by unfold SetTable.turns; omega) hn
    have hj' : owner.toList[j]? = some none := by
      rw [Array.getD_eq_getD_getElem?, ← Array.getElem?_toList] at hj
      cases q : owner.toList[j]? with
      | none => rw [q] at hj; simp at hj
      | some v =>
        rw [q] at hj
        cases v with
        | none => rfl
        | some v => simp at hj
    have e1 : layF mask (some (owner, n)) h = some (owner.setIfInBounds j (some n), n + 1) := by
      show (do
        let j ← SetTable.layClean.free mask owner (SetTable.turns mask) (SetTable.bits h % (mask + 1)) (SetTable.bits h)
        pure (owner.setIfInBounds j (some n), n + 1)) = _
      rw [ej]
      rfl
    rw [List.foldl_cons, e1]
    have p1 : ((owner.setIfInBounds j (some n)).toList.filterMap id).Perm (List.range (n + 1)) := by
      rw [Array.toList_setIfInBounds]
      refine (filterMap_set_perm hj').trans ?_
      rw [List.range_succ]
      exact (List.Perm.cons n h2).trans (List.perm_append_comm (l₁ := [n]) (l₂ := List.range n))
    obtain ⟨o', q1, q2, q3⟩ := lay_fold g hs (owner.setIfInBounds j (some n)) (n + 1) (by rw [Array.size_setIfInBounds]; exact h1) p1 (by omega)
    refine ⟨o', ?_, q2, ?_⟩
    · rw [q1, List.length_cons]
      congr 2
      omega
    · rw [List.length_cons, show n + (hs.length + 1) = n + 1 + hs.length by omega]
      exact q3
theorem layClean_ok {mask : Nat} (g : goodM (mask + 1)) (hs : Array Int) (hl : hs.size ≤ mask) :
    ∃ owner : Array (Option Nat), SetTable.layClean mask hs = some owner ∧ owner.size = mask + 1 ∧ (owner.toList.filterMap id).Perm (List.range hs.size) := by
  have h0 : ((Array.replicate (mask + 1) (none : Option Nat)).toList.filterMap id).Perm (List.range 0) := by
    rw [Array.toList_replicate]
    simp
  obtain ⟨o, h1, h2, h3⟩ := lay_fold g hs.toList (Array.replicate (mask + 1) none) 0 (by simp) h0 (by simpa using hl)
  rw [Array.length_toList, Nat.zero_add] at h1 h3
  refine ⟨o, ?_, h2, h3⟩
  unfold SetTable.layClean
  rw [← Array.foldl_toList]
  show (hs.toList.foldl (layF mask) (some (Array.replicate (mask + 1) none, 0))).map (·.1) = some o
  rw [h1]
  rfl
theorem live_order (owner : Array (Option Nat)) : ((List.range owner.size).filterMap fun j => (owner.getD j none).map fun x => (j, x)).map (·.2) = owner.toList.filterMap id := by
  obtain ⟨L⟩ := owner
  simp only [List.size_toArray]
  have h : ∀ (L : List (Option Nat)) (pre : List (Option Nat)), ((List.range' pre.length L.length).filterMap fun j => (((pre ++ L)[j]?).getD none).map fun x => (j, x)).map (·.2) = L.filterMap id := by
    intro L
    induction L with
    | nil => intro pre; rfl
    | cons a L ih =>
      intro pre
      rw [List.length_cons, List.range'_succ, List.filterMap_cons]
      have e : ((pre ++ a :: L)[pre.length]?).getD none = a := by simp
      have ih' := ih (pre ++ [a])
      rw [List.length_append, List.length_singleton, List.append_assoc, List.singleton_append] at ih'
      cases a with
      | none =>
        simp only [e, Option.map_none, List.filterMap_cons_none, id]
        exact ih'
      | some b =>
        simp only [e, Option.map_some, List.map_cons, List.filterMap_cons_some, id]
        rw [ih']
        simp
  have := h L []
  rw [List.length_nil, ← List.range_eq_range', List.nil_append] at this
  rw [← this]
  congr 1
  congr 1
  funext j
  rw [Array.getD_eq_getD_getElem?]
  simp
theorem laid_ok {mask finger moves : Nat} {led plain : Bool} (g : goodM (mask + 1)) (hs : Array Int) (hl : hs.size ≤ mask) :
    ∃ (t : SetTable) (order : Array Nat), SetTable.laid mask finger moves led plain hs = some (t, order) ∧ order.toList.Perm (List.range hs.size) ∧ t.fits hs.size = true ∧ t.led = led := by
  obtain ⟨o, h1, h2, h3⟩ := layClean_ok g hs hl
  have e : SetTable.laid mask finger moves led plain hs = some ({ mask := mask, place := (((List.range (mask + 1)).filterMap fun j => (o.getD j none).map fun x => (j, x)).map (·.1)).toArray, dummies := #[], finger := finger, led := led, moves := moves, plain := plain },
      (((List.range (mask + 1)).filterMap fun j => (o.getD j none).map fun x => (j, x)).map (·.2)).toArray) := by
    unfold SetTable.laid
    rw [h1]
    rfl
  have lo := live_order o
  rw [h2] at lo
  have len : ((List.range (mask + 1)).filterMap fun j => (o.getD j none).map fun x => (j, x)).length = hs.size := by
    have := congrArg List.length lo
    rw [List.length_map, h3.length_eq, List.length_range] at this
    exact this
  refine ⟨_, _, e, by rw [List.toList_toArray, lo]; exact h3, ?_, rfl⟩
  simp only [SetTable.fits, SetTable.fill, List.size_toArray, List.length_map, len, Bool.and_eq_true, beq_self_eq_true, true_and, decide_eq_true_eq]
  show hs.size + 0 ≤ mask
  omega
theorem picked {α : Type} (es : Array α) {order : Array Nat} (p : order.toList.Perm (List.range es.size)) : (order.filterMap (es[·]?)).toList.Perm es.toList ∧ (order.filterMap (es[·]?)).size = es.size := by
  have e : (order.filterMap (es[·]?)).toList.Perm es.toList := by
    rw [Array.toList_filterMap]
    have := p.filterMap (es[·]?)
    rw [filterMap_getElem?_range] at this
    exact this
  exact ⟨e, by rw [← Array.length_toList, e.length_eq, Array.length_toList]⟩
theorem sizeAbove_good {n : Nat} (h : n < 256) : ∃ m, SetTable.sizeAbove n = m + 1 ∧ goodM (m + 1) ∧ n ≤ m := by
  have key : ∀ k : Fin 256, (SetTable.sizeAbove k.1 == 8 && decide (k.1 < 8)) || (SetTable.sizeAbove k.1 == 16 && decide (k.1 < 16)) || (SetTable.sizeAbove k.1 == 32 && decide (k.1 < 32)) || (SetTable.sizeAbove k.1 == 64 && decide (k.1 < 64)) || (SetTable.sizeAbove k.1 == 128 && decide (k.1 < 128)) || (SetTable.sizeAbove k.1 == 256 && decide (k.1 < 256)) = true := by decide +kernel
  have q := key ⟨n, h⟩
  simp only [Bool.or_eq_true, Bool.and_eq_true, beq_iff_eq, decide_eq_true_eq] at q
  rcases q with ((((q | q) | q) | q) | q) | q
  · exact ⟨7, q.1, good8, by omega⟩
  · exact ⟨15, q.1, good16, by omega⟩
  · exact ⟨31, q.1, good32, by omega⟩
  · exact ⟨63, q.1, good64, by omega⟩
  · exact ⟨127, q.1, good128, by omega⟩
  · exact ⟨255, q.1, good256, by omega⟩
end NdS
namespace NdS
open PySem
abbrev Rise (p : Array Nat) : Prop := p.toList.Pairwise (· < ·)
theorem rise_lt {p : Array Nat} (r : Rise p) {i j : Nat} (h : i < j) (hj : j < p.size) : p[i]'(by omega) < p[j] := by
  have := List.pairwise_iff_getElem.mp r i j (by rw [Array.length_toList]; omega) (by rw [Array.length_toList]; exact hj) h
  simpa using this
structure Below (p : Array Nat) (j b : Nat) : Prop where
  le : b ≤ p.size
  lo : ∀ i (h : i < p.size), i < b → p[i] < j
  hi : ∀ i (h : i < p.size), b ≤ i → j ≤ p[i]
theorem below_go {p : Array Nat} {j : Nat} (r : Rise p) : ∀ (fuel lo hi : Nat), hi ≤ p.size → lo ≤ hi → hi - lo ≤ fuel → (∀ i (h : i < p.size), i < lo → p[i] < j) → (∀ i (h : i < p.size), hi ≤ i → j ≤ p[i]) → Below p j (SetTable.below.go p j fuel lo hi)
  | 0, lo, hi, h1, h2, h3, h4, h5 => by
    unfold SetTable.below.go
    have e : lo = hi := by omega
    exact ⟨by omega, fun i h hl => h4 i h hl, fun i h hl => h5 i h (by omega)⟩
  | fuel + 1, lo, hi, h1, h2, h3, h4, h5 => by
    unfold SetTable.below.go
    split
    · rename_i hl
      have hm : (lo + hi) / 2 < p.size := by omega
      have e : p.getD ((lo + hi) / 2) j = p[(lo + hi) / 2] := by simp [Array.getD, hm]
      dsimp only
      rw [e]
      split
      · rename_i hc
        refine below_go r fuel _ hi h1 (by omega) (by omega) (fun i h hi' => ?_) h5
        by_cases z : i = (lo + hi) / 2
        · subst z; exact hc
        · exact Nat.lt_trans (rise_lt r (show i < (lo + hi) / 2 by omega) hm) hc
      · rename_i hc
        refine below_go r fuel lo _ (by omega) (by omega) (by omega) h4 (fun i h hi' => ?_)
        by_cases z : i = (lo + hi) / 2
        · subst z; omega
        · exact Nat.le_trans (by omega) (Nat.le_of_lt (rise_lt r (show (lo + hi) / 2 < i by omega) h))
    · exact ⟨by omega, fun i h hl => h4 i h hl, fun i h hl => h5 i h (by omega)⟩
theorem below_ok {p : Array Nat} (r : Rise p) (j : Nat) : Below p j (SetTable.below p j) :=
  below_go r _ _ _ (Nat.le_refl _) (Nat.zero_le _) (by omega) (fun i h hl => absurd hl (Nat.not_lt_zero _)) (fun i h hl => absurd hl (by omega))
theorem Below.eq {p : Array Nat} {j b b' : Nat} (x : Below p j b) (y : Below p j b') : b = b' := by
  rcases Nat.lt_trichotomy b b' with z | z | z
  · have h : b < p.size := Nat.lt_of_lt_of_le z y.le
    exact absurd (y.lo b h z) (Nat.not_lt.mpr (x.hi b h (Nat.le_refl _)))
  · exact z
  · have h : b' < p.size := Nat.lt_of_lt_of_le z x.le
    exact absurd (x.lo b' h z) (Nat.not_lt.mpr (y.hi b' h (Nat.le_refl _)))
theorem below_first {p : Array Nat} (r : Rise p) : SetTable.below p 0 = 0 :=
  (below_ok r 0).eq ⟨Nat.zero_le _, fun i h hl => absurd hl (Nat.not_lt_zero _), fun i h _ => Nat.zero_le _⟩
theorem below_next {p : Array Nat} (r : Rise p) {i : Nat} (h : i < p.size) : SetTable.below p (p[i] + 1) = i + 1 :=
  (below_ok r _).eq ⟨h, fun k hk hl => by
    by_cases z : k = i
    · subst z; exact Nat.lt_succ_self _
    · exact Nat.lt_succ_of_lt (rise_lt r (show k < i by omega) h), fun k hk hl => rise_lt r (show i < k by omega) hk⟩
structure TabOk (n : Nat) (t : SetTable) : Prop where
  good : goodM (t.mask + 1)
  dum : t.dummies = #[]
  plain : t.plain = true
  rise : Rise t.place
  top : ∀ j ∈ t.place.toList, j ≤ t.mask
  size : t.place.size = n
structure Tab (n : Nat) (t : SetTable) : Prop extends TabOk n t where
  room : n * 5 < t.mask * 3
theorem mask_ge {t : SetTable} {n : Nat} (x : Tab n t) : n + 1 ≤ t.mask := by have := x.room; omega
theorem TabOk.fits {t : SetTable} {n : Nat} (x : TabOk n t) (h : n ≤ t.mask) : t.fits n = true := by
  simp only [SetTable.fits, SetTable.fill, x.dum, x.size, Bool.and_eq_true, beq_self_eq_true, true_and, decide_eq_true_eq]
  show n + 0 ≤ t.mask
  omega
theorem Tab.fits {t : SetTable} {n : Nat} (x : Tab n t) : t.fits n = true := x.toTabOk.fits (by have := mask_ge x; omega)
theorem slot_empty {t : SetTable} {n j : Nat} (x : TabOk n t) : t.slot j = .empty ↔ j ∉ t.place.toList := by
  have nd : SetTable.has t.dummies j = false := by rw [x.dum]; rfl
  unfold SetTable.slot
  dsimp only
  rw [nd]
  constructor
  · intro h hm
    obtain ⟨i, hi, e⟩ := List.mem_iff_getElem.mp hm
    rw [Array.length_toList] at hi
    have e' : t.place[i] = j := by simpa using e
    have b : SetTable.below t.place j = i := (below_ok x.rise j).eq ⟨Nat.le_of_lt hi, fun k hk hl => by rw [← e']; exact rise_lt x.rise hl hi, fun k hk hl => by
      by_cases z : i = k
      · subst z; exact Nat.le_of_eq e'.symm
      · rw [← e']; exact Nat.le_of_lt (rise_lt x.rise (show i < k by omega) hk)⟩
    rw [b, Array.getElem?_eq_getElem hi, e', if_pos (by simp)] at h
    cases h
  · intro h
    rw [if_neg (fun z => h ?_)]
    · rfl
    · have z' : t.place[SetTable.below t.place j]? = some j := by simpa using z
      have := Array.mem_of_getElem? z'
      exact Array.mem_def.mp this
theorem slot_not_dummy {t : SetTable} {n j : Nat} (x : TabOk n t) : t.slot j ≠ .dummy := by
  have nd : SetTable.has t.dummies j = false := by rw [x.dum]; rfl
  unfold SetTable.slot
  dsimp only
  rw [nd]
  split
  · intro h; cases h
  · intro h; cases h
theorem runEnd_le {mask i : Nat} (h : i ≤ mask) : SetTable.runEnd mask i ≤ mask := by unfold SetTable.runEnd; split <;> omega
theorem run_short (mask i : Nat) : SetTable.runEnd mask i - i ≤ 9 := by unfold SetTable.runEnd; split <;> omega
theorem leap_eq (mask i p : Nat) : SetTable.leap mask i p = ((i * 5 + 1 + p / 32) % (mask + 1), p / 32) := rfl
theorem probe_go {t : SetTable} {n : Nat} {h : Int} (x : TabOk n t) : ∀ (fuel u : Nat) (p : SetTable.Probe), p.more ≤ 9 → p.j + p.more ≤ t.mask → p.dummy = none → p.more + 2 + 10 * u ≤ fuel → t.slot (lp (t.mask + 1) (u + 1) p.i p.perturb).1 = .empty →
    ∃ j, SetTable.probe.go t (fun _ => h + 1) h fuel p = some (.empty j none) ∧ t.slot j = .empty ∧ j ≤ t.mask
  | 0, u, p, _, _, _, h3, _ => absurd h3 (by omega)
  | fuel + 1, u, p, h1, h2, hd, h3, h4 => by
    unfold SetTable.probe.go
    split
    · rename_i hs
      exact ⟨p.j, by rw [hd], hs, by omega⟩
    · rename_i hs
      exact absurd hs (slot_not_dummy x)
    · rw [if_neg (by simp; omega)]
      unfold SetTable.advance
      split
      · rename_i hm
        exact probe_go x fuel u _ (by dsimp only; omega) (by dsimp only; omega) hd (by dsimp only; omega) h4
      · rename_i hm
        rw [leap_eq]
        dsimp only
        have hi : (p.i * 5 + 1 + p.perturb / 32) % (t.mask + 1) ≤ t.mask := Nat.lt_succ_iff.mp (Nat.mod_lt _ (Nat.succ_pos _))
        cases u with
        | zero =>
          cases fuel with
          | zero => omega
          | succ fuel =>
            unfold SetTable.probe.go
            dsimp only
            have h4' : t.slot ((p.i * 5 + 1 + p.perturb / 32) % (t.mask + 1)) = .empty := h4
            rw [h4']
            exact ⟨_, by rw [hd], h4', hi⟩
        | succ u =>
          refine probe_go x fuel u _ (run_short _ _) ?_ hd ?_ h4
          · dsimp only
            have := runEnd_le hi
            have := runEnd_ge t.mask ((p.i * 5 + 1 + p.perturb / 32) % (t.mask + 1))
            omega
          · dsimp only
            have := run_short t.mask ((p.i * 5 + 1 + p.perturb / 32) % (t.mask + 1))
            omega
theorem len_le : ∀ {l1 l2 : List Nat}, l1.Nodup → (∀ e ∈ l1, e ∈ l2) → l1.length ≤ l2.length
  | [], _, _, _ => Nat.zero_le _
  | a :: l1, l2, nd, h => by
    have nd' := List.nodup_cons.mp nd
    have ha := h a (List.mem_cons_self ..)
    have := len_le (l2 := l2.erase a) nd'.2 fun e he => (List.mem_erase_of_ne (show e ≠ a from fun z => nd'.1 (by rw [← z]; exact he))).mpr (h e (List.mem_cons_of_mem _ he))
    rw [List.length_erase_of_mem ha] at this
    have p : 0 < l2.length := List.length_pos_of_mem ha
    rw [List.length_cons]
    omega
theorem not_all {m : Nat} {l : List Nat} (nd : l.Pairwise (· < ·)) (h : l.length < m) : ∃ e, e < m ∧ e ∉ l := by
  refine Classical.byContradiction fun z => ?_
  have all : ∀ e, e ∈ List.range m → e ∈ l := fun e he => Classical.byContradiction fun q => z ⟨e, List.mem_range.mp he, q⟩
  have := len_le List.nodup_range all
  rw [List.length_range] at this
  omega
theorem freeSlot_ok {t : SetTable} {n : Nat} (x : Tab n t) (h : Int) : ∃ j, t.freeSlot h = some (j, false) ∧ j ∉ t.place.toList ∧ j ≤ t.mask := by
  have hm := mask_ge x
  obtain ⟨e, he, hn⟩ := not_all (m := t.mask + 1) x.rise (by rw [Array.length_toList, x.size]; omega)
  obtain ⟨u, hu, eu⟩ := lp_cover x.good (i := SetTable.bits h % (t.mask + 1)) (p := SetTable.bits h) (e := e) (Nat.mod_lt _ (Nat.succ_pos _)) (bits_lt h) he
  have hi : SetTable.bits h % (t.mask + 1) ≤ t.mask := Nat.lt_succ_iff.mp (Nat.mod_lt _ (Nat.succ_pos _))
  have key : ∃ j, t.probe (fun _ => h + 1) h (t.probeStart h) = some (.empty j none) ∧ t.slot j = .empty ∧ j ≤ t.mask := by
    unfold SetTable.probe
    cases u with
    | zero =>
      have e0 : t.slot (SetTable.bits h % (t.mask + 1)) = .empty := (slot_empty x.toTabOk).mpr (by rw [show SetTable.bits h % (t.mask + 1) = e from eu]; exact hn)
      obtain ⟨f, hf⟩ : ∃ f, 10 * SetTable.turns t.mask = f + 1 := ⟨10 * SetTable.turns t.mask - 1, by unfold SetTable.turns; omega⟩
      rw [hf]
      unfold SetTable.probe.go
      have e0' : t.slot (t.probeStart h).j = .empty := e0
      rw [e0']
      exact ⟨_, rfl, e0', hi⟩
    | succ u =>
      refine probe_go x.toTabOk _ u (t.probeStart h) (run_short _ _) ?_ rfl ?_ ?_
      · have := runEnd_le hi
        have := runEnd_ge t.mask (SetTable.bits h % (t.mask + 1))
        show SetTable.bits h % (t.mask + 1) + (SetTable.runEnd t.mask (SetTable.bits h % (t.mask + 1)) - SetTable.bits h % (t.mask + 1)) ≤ t.mask
        omega
      · have := run_short t.mask (SetTable.bits h % (t.mask + 1))
        show SetTable.runEnd t.mask (SetTable.bits h % (t.mask + 1)) - SetTable.bits h % (t.mask + 1) + 2 + 10 * u ≤ 10 * SetTable.turns t.mask
        unfold SetTable.turns
        omega
      · exact (slot_empty x.toTabOk).mpr (by rw [show (lp (t.mask + 1) (u + 1) (t.probeStart h).i (t.probeStart h).perturb).1 = e from eu]; exact hn)
  obtain ⟨j, h1, h2, h3⟩ := key
  refine ⟨j, ?_, (slot_empty x.toTabOk).mp h2, h3⟩
  unfold SetTable.freeSlot
  rw [h1]
  rfl
theorem rise_insert {p : Array Nat} (r : Rise p) {j : Nat} (h : j ∉ p.toList) : Rise (SetTable.insertAt p (SetTable.below p j) j) := by
  have b := below_ok r j
  show (SetTable.insertAt p (SetTable.below p j) j).toList.Pairwise (· < ·)
  rw [SetTable.toList_insertAt]
  have r1 : (p.toList.take (SetTable.below p j)).Pairwise (· < ·) := r.sublist (List.take_sublist _ _)
  have r2 : (p.toList.drop (SetTable.below p j)).Pairwise (· < ·) := r.sublist (List.drop_sublist _ _)
  have lo : ∀ e ∈ p.toList.take (SetTable.below p j), e < j := fun e he => by
    obtain ⟨i, hi, ei⟩ := List.mem_take_iff_getElem.mp he
    rw [Array.length_toList] at hi
    have := b.lo i (by omega) (by omega)
    rw [← ei]
    simpa using this
  have hi : ∀ e ∈ p.toList.drop (SetTable.below p j), j < e := fun e he => by
    have hm : e ∈ p.toList := List.mem_of_mem_drop he
    obtain ⟨i, hi, ei⟩ := List.mem_drop_iff_getElem.mp he
    rw [Array.length_toList] at hi
    have := b.hi (i + SetTable.below p j) (by omega) (by omega)
    have e1 : j ≤ e := by
      rw [← ei]
      simpa [Nat.add_comm] using this
    exact Nat.lt_of_le_of_ne e1 fun z => h (by rw [z]; exact hm)
  simp only [List.pairwise_append, List.pairwise_cons, List.mem_cons, List.mem_append]
  first
    | exact ⟨r1, ⟨hi, r2⟩, fun a ha c hc => by
        rcases hc with z | z
        · rw [z]; exact lo a ha
        · exact Nat.lt_trans (lo a ha) (hi c z)⟩
    | (refine ⟨⟨r1, ⟨by simp, List.Pairwise.nil⟩, fun a ha c hc => ?_⟩, r2, fun a ha c hc => ?_⟩
       · have z : c = j := by simpa using hc
         rw [z]; exact lo a ha
       · rcases ha with z | z | z
         · exact Nat.lt_trans (lo a z) (hi c hc)
         · rw [z]; exact hi c hc
         · cases z)
theorem new_ok {t : SetTable} {es : Array (Int × Value)} (x : Tab es.size t) (h : Int) (v : Value) : ∃ (es1 : Array (Int × Value)) (t1 : SetTable), layNew t es h v = (es1, t1, false, false) ∧ es1.toList.Perm (es.toList ++ [(h, v)]) ∧ es1.size = es.size + 1 ∧ TabOk es1.size t1 ∧ t1.mask = t.mask ∧ t1.led = t.led := by
  obtain ⟨j, h1, h2, h3⟩ := freeSlot_ok x h
  have hm := mask_ge x
  have perm := SetTable.insertAt_perm es (SetTable.below t.place j) (h, v)
  rw [Array.toList_push] at perm
  have size : (SetTable.insertAt es (SetTable.below t.place j) (h, v)).size = es.size + 1 := by
    rw [← Array.length_toList, perm.length_eq, List.length_append, Array.length_toList]
    rfl
  have p2 := SetTable.insertAt_perm t.place (SetTable.below t.place j) j
  rw [Array.toList_push] at p2
  have size2 : (SetTable.insertAt t.place (SetTable.below t.place j) j).size = es.size + 1 := by
    rw [← Array.length_toList, p2.length_eq, List.length_append, Array.length_toList, x.size]
    rfl
  have nd : SetTable.has t.dummies j = false := by rw [x.dum]; rfl
  have ok : TabOk (es.size + 1) { t with place := SetTable.insertAt t.place (SetTable.below t.place j) j } :=
    ⟨x.good, x.dum, x.plain, rise_insert x.rise h2, fun e he => by
      rcases List.mem_append.mp (p2.mem_iff.mp he) with z | z
      · exact x.top e z
      · rw [List.mem_singleton.mp z]; exact h3, size2⟩
  refine ⟨_, { t with place := SetTable.insertAt t.place (SetTable.below t.place j) j }, ?_, perm, size, by rw [size]; exact ok, rfl, rfl⟩
  have f : ({ t with place := SetTable.insertAt t.place (SetTable.below t.place j) j } : SetTable).fits (SetTable.insertAt es (SetTable.below t.place j) (h, v)).size = true := by
    rw [size]
    exact ok.fits (by omega)
  unfold layNew
  rw [h1]
  simp only [SetTable.put, nd, Bool.false_eq_true, if_false, SetTable.orStandIn, f, if_true, Bool.not_true]
theorem laid_rise {mask finger moves : Nat} {led plain : Bool} {hs : Array Int} {t : SetTable} {order : Array Nat} (h : SetTable.laid mask finger moves led plain hs = some (t, order)) : Rise t.place ∧ (∀ j ∈ t.place.toList, j ≤ mask) := by
  unfold SetTable.laid at h
  cases hl : SetTable.layClean mask hs with
  | none => rw [hl] at h; cases h
  | some owner =>
    rw [hl] at h
    cases h
    have sub : ∀ (l : List Nat), l.Pairwise (· < ·) → (((l.filterMap fun j => (owner.getD j none).map fun x => (j, x)).map (·.1)).Pairwise (· < ·)) ∧ ∀ j ∈ ((l.filterMap fun j => (owner.getD j none).map fun x => (j, x)).map (·.1)), j ∈ l := by
      intro l hl
      have m : ∀ j ∈ ((l.filterMap fun j => (owner.getD j none).map fun x => (j, x)).map (·.1)), j ∈ l := fun j hj => by
        obtain ⟨q, hq, rfl⟩ := List.mem_map.mp hj
        obtain ⟨k, hk, ek⟩ := List.mem_filterMap.mp hq
        cases hg : owner.getD k none with
        | none => rw [hg] at ek; cases ek
        | some v => rw [hg] at ek; cases ek; exact hk
      refine ⟨?_, m⟩
      clear m
      induction l with
      | nil => exact List.Pairwise.nil
      | cons a l ih =>
        have hl' := List.pairwise_cons.mp hl
        have ih' := ih hl'.2
        rw [List.filterMap_cons]
        cases hg : owner.getD a none with
        | none => simpa [hg] using ih'
        | some v =>
          simp only [Option.map_some, List.map_cons, List.pairwise_cons]
          refine ⟨fun j hj => ?_, ih'⟩
          obtain ⟨q, hq, rfl⟩ := List.mem_map.mp hj
          obtain ⟨k, hk, ek⟩ := List.mem_filterMap.mp hq
          cases hg2 : owner.getD k none with
          | none => rw [hg2] at ek; cases ek
          | some v2 => rw [hg2] at ek; cases ek; exact hl'.1 k hk
    obtain ⟨s1, s2⟩ := sub (List.range (mask + 1)) List.pairwise_lt_range
    exact ⟨s1, fun j hj => Nat.lt_succ_iff.mp (List.mem_range.mp (s2 j hj))⟩
theorem laid_tab {mask finger moves : Nat} {led : Bool} (g : goodM (mask + 1)) (hs : Array Int) (hl : hs.size * 5 < mask * 3) :
    ∃ (t : SetTable) (order : Array Nat), SetTable.laid mask finger moves led true hs = some (t, order) ∧ order.toList.Perm (List.range hs.size) ∧ Tab hs.size t ∧ t.led = led := by
  obtain ⟨t, order, h1, h2, h3, h4⟩ := laid_ok (finger := finger) (moves := moves) (led := led) (plain := true) g hs (by omega)
  obtain ⟨l1, l2, l3, l4⟩ := laid_led h1
  obtain ⟨r1, r2⟩ := laid_rise h1
  have sz : t.place.size = hs.size := by
    have := h3
    simp only [SetTable.fits, Bool.and_eq_true, beq_iff_eq] at this
    exact this.1
  exact ⟨t, order, h1, h2, ⟨⟨by rw [l2]; exact g, l4, l3, r1, by rw [l2]; exact r2, sz⟩, by rw [l2]; exact hl⟩, l1⟩
theorem relay_ok {t : SetTable} {es : Array (Int × Value)} {wanted : Nat} (hp : t.plain = true) (hw : wanted < 256) (h2 : es.size * 2 ≤ wanted) : ∃ (t' : SetTable) (order : Array Nat), t.relaid (es.map (·.1)) wanted = some (t', order) ∧ order.toList.Perm (List.range es.size) ∧ Tab es.size t' ∧ t'.led = t.led := by
  obtain ⟨m, e1, g, hm⟩ := sizeAbove_good hw
  have sz : (es.map (·.1)).size = es.size := Array.size_map ..
  have m7 : 7 ≤ m := by
    have : 8 ≤ SetTable.sizeAbove wanted := by
      have key : ∀ k : Fin 256, decide (8 ≤ SetTable.sizeAbove k.1) = true := by decide +kernel
      exact of_decide_eq_true (key ⟨wanted, hw⟩)
    omega
  obtain ⟨t', order, q1, q2, q3, q4⟩ := laid_tab (mask := m) (finger := t.finger) (moves := t.movedTo m) (led := t.led) g (es.map (·.1)) (by rw [sz]; omega)
  rw [sz] at q2 q3
  refine ⟨t', order, ?_, q2, q3, q4⟩
  unfold SetTable.relaid
  rw [e1, Nat.add_sub_cancel, hp]
  exact q1
theorem relayAll_ok {t : SetTable} {es : Array (Int × Value)} (hp : t.plain = true) (hn : es.size < 64) : ∃ (es' : Array (Int × Value)) (t' : SetTable), relayAll t es (SetTable.grown es.size) = (es', t', false) ∧ es'.toList.Perm es.toList ∧ es'.size = es.size ∧ Tab es'.size t' ∧ t'.led = t.led := by
  have gr : SetTable.grown es.size = es.size * 4 := by unfold SetTable.grown; rw [if_neg (by omega)]
  obtain ⟨t', order, q1, q2, q3, q4⟩ := relay_ok (t := t) (es := es) (wanted := es.size * 4) hp (by omega) (by omega)
  obtain ⟨p1, p2⟩ := picked es q2
  refine ⟨order.filterMap (es[·]?), t', ?_, p1, p2, by rw [p2]; exact q3, q4⟩
  unfold relayAll
  rw [gr, q1]
  dsimp only
  have c : coversAll order es.size = true := by
    unfold coversAll
    exact List.isPerm_iff.mpr q2
  have f : t'.fits (order.filterMap (es[·]?)).size = true := by rw [p2]; exact q3.fits
  rw [c, f]
  rfl
end NdS
namespace NdS
open PySem
abbrev bt (w : World) : Bool := w.params.followText "set-order"
def keyOf : Int × Value → Int
  | (_, .int k _) => k
  | _ => 0
def isEnt (e : Int × Value) : Prop := ∃ k tk, e = (hashInt k, Value.int k tk)
abbrev keys (es : Array (Int × Value)) : List Int := es.toList.map keyOf
abbrev setObj (es : Array (Int × Value)) (ep : Nat) (t : SetTable) : Obj := { cls := .type "set", dict := none, data := .set es ep t }
structure SetS (w : World) (h : Heap) (a : Addr) (es : Array (Int × Value)) (ep : Nat) (t : SetTable) : Prop where
  obj : h.get? a = some (setObj es ep t)
  ent : ∀ e ∈ es.toList, isEnt e
  nd : (keys es).Nodup
  tab : Tab es.size t
  led : bt w = false → t.led = true
  few : es.size < 64
theorem SetS.keep {w : World} {h h' : Heap} {a : Addr} {es : Array (Int × Value)} {ep : Nat} {t : SetTable} (S : SetS w h a es ep t) (k : ∀ o, h.get? a = some o → h'.get? a = some o) : SetS w h' a es ep t :=
  ⟨k _ S.obj, S.ent, S.nd, S.tab, S.led, S.few⟩
def ins (k : Int) (l : List Int) : List Int := if k ∈ l then l else k :: l
theorem elems {prog : Program} {w : World} {h : Heap} {a : Addr} {es : Array (Int × Value)} {ep : Nat} {t : SetTable} (S : SetS w h a es ep t) : ElemsOf (intKind prog w) es.toList := fun e he => by
  obtain ⟨k, tk, rfl⟩ := S.ent e he
  exact ⟨⟨k, intKind_is _ _ _ _, rfl⟩, rfl⟩
theorem is_iff {prog : Program} {w : World} {e : Int × Value} (h : isEnt e) (k : Int) : (intKind prog w).is k e.2 = true ↔ keyOf e = k := by
  obtain ⟨k', tk, rfl⟩ := h
  show Value.isInt k (.int k' tk) = true ↔ k' = k
  simp [Value.isInt]
  try exact eq_comm
theorem small {n : Nat} (h : n < 64) : n ≤ sizeLine := by rw [sizeLine_eq]; omega
theorem put_obj {es : Array (Int × Value)} {ep : Nat} {t : SetTable} (es' : Array (Int × Value)) (t' : SetTable) : Obj.putSet es' t' (setObj es ep t) = setObj es' (ep + 1) t' := putSet_of es' t' rfl
theorem put_get {h : Heap} {a : Addr} {es : Array (Int × Value)} {ep : Nat} {t : SetTable} (ho : h.get? a = some (setObj es ep t)) (es' : Array (Int × Value)) (t' : SetTable) : (h.update a (Obj.putSet es' t')).get? a = some (setObj es' (ep + 1) t') := by
  have := Heap.get?_update_self (Obj.putSet es' t') ho (by rw [put_obj]; rfl)
  rw [put_obj] at this
  exact this
section
variable {prog : Program} {w : World} {A : Around} {E : Value → Shared → Prop} {s : Shared}
theorem state_ok {a : Addr} {es : Array (Int × Value)} {ep : Nat} {t : SetTable} {Q : (Array (Int × Value) × Nat × SetTable) → Shared → Prop} (S : SetS w s.heap a es ep t) (h : Q (es, ep, t) s) : wpAny (model prog w) A (setState a) Q E s :=
  wpAny_setState_of S.obj rfl S.tab.fits h
theorem store_set {a : Addr} {es es' : Array (Int × Value)} {ep : Nat} {t t' : SetTable} {Q : Unit → Shared → Prop} (S : SetS w s.heap a es ep t) (he : ∀ e ∈ es'.toList, isEnt e) (nd : (keys es').Nodup) (tab : Tab es'.size t') (led : bt w = false → t'.led = true) (few : es'.size < 64)
    (h : ∀ h', Heap.SameBut a s.heap h' → SetS w h' a es' (ep + 1) t' → Q () { s with heap := h' }) : wpAny (model prog w) A (storeSet a es' t') Q E s :=
  wpAny_storeSet_of S.obj rfl (h _ (Heap.SameBut.update ..) ⟨put_get S.obj es' t', he, nd, tab, led, few⟩) (small few)
theorem find_none {es : Array (Int × Value)} {k : Int} (he : ∀ e ∈ es.toList, isEnt e) : es.toList.findIdx? (fun e => (intKind prog w).is k e.2) = none ↔ k ∉ keys es := by
  rw [List.findIdx?_eq_none_iff]
  constructor
  · intro h hm
    obtain ⟨e, hm', rfl⟩ := List.mem_map.mp hm
    have := h e hm'
    rw [(is_iff (he e hm') _).mpr rfl] at this
    cases this
  · intro h e hm
    cases q : (intKind prog w).is k e.2 with
    | false => rfl
    | true => exact absurd (List.mem_map.mpr ⟨e, hm, (is_iff (he e hm) k).mp q⟩) h
theorem add_ok {a : Addr} {es : Array (Int × Value)} {ep : Nat} {t : SetTable} {k : Int} {tk : Tok} {Q : Bool → Shared → Prop} (S : SetS w s.heap a es ep t) (hn : es.size < 63)
    (h : ∀ b es' ep' t' h', Heap.SameBut a s.heap h' → SetS w h' a es' ep' t' → (keys es').Perm (ins k (keys es)) → Q b { s with heap := h' }) : wpAny (model prog w) A (setAddHashed a (.int k tk) (hashInt k)) Q E s := by
  unfold setAddHashed setAddHashedIn
  refine wpAny_holding (wpAny_bind (state_ok S ?_))
  dsimp only
  rw [byScan_of (knd := intKind prog w) (x := .int k tk) rfl (Nat.lt_trans S.few (by decide)) (elems S), if_pos rfl]
  unfold setAddByScan
  refine wpAny_bind (wpAny_bind (wpAny_rule (wpAny_bind ?_)))
  refine wpAny_setScan_of (knd := intKind prog w) (k := k) (intKind_is _ _ _ _) S.obj rfl S.tab.fits (elems S) ?_
  cases hr : es.toList.findIdx? (fun e => (intKind prog w).is k e.2) with
  | some j =>
    dsimp only
    have hk : k ∈ keys es := Classical.byContradiction fun z => by
      rw [(find_none (prog := prog) (w := w) S.ent).mpr z] at hr
      cases hr
    refine wpAny_pure (wpAny_pure ?_)
    have := h false es ep t s.heap (Heap.SameBut.refl a s.heap) S (by unfold ins; rw [if_pos hk])
    exact this
  | none =>
    dsimp only
    have hk : k ∉ keys es := (find_none (prog := prog) (w := w) S.ent).mp hr
    obtain ⟨es1, t1, e1, p1, z1, ok1, m1, l1⟩ := new_ok S.tab (hashInt k) (.int k tk)
    rw [e1]
    dsimp only
    have ent1 : ∀ e ∈ es1.toList, isEnt e := fun e he => by
      rcases List.mem_append.mp (p1.mem_iff.mp he) with z | z
      · exact S.ent e z
      · rw [List.mem_singleton.mp z]; exact ⟨k, tk, rfl⟩
    have pk1 : (keys es1).Perm (k :: keys es) := by
      have := p1.map keyOf
      rw [List.map_append] at this
      exact this.trans List.perm_append_comm
    have nd1 : (keys es1).Nodup := pk1.nodup_iff.mpr (List.nodup_cons.mpr ⟨hk, S.nd⟩)
    have few1 : es1.size < 64 := by omega
    have led1 : bt w = false → t1.led = true := fun z => by rw [l1]; exact S.led z
    refine wpAny_bind (m := (pure () : Sem Unit)) (wpAny_pure ?_)
    rw [ok1.plain, if_pos rfl]
    refine wpAny_bind (m := hashByValue 8 (.int k tk)) (wpAny_pure ?_)
    simp only [if_true]
    by_cases tf : t1.tooFull = true
    · obtain ⟨es2, t2, e2, p2, z2, tab2, l2⟩ := relayAll_ok (es := es1) ok1.plain few1
      have ent2 : ∀ e ∈ es2.toList, isEnt e := fun e he => ent1 e (p2.mem_iff.mp he)
      have pk2 : (keys es2).Perm (k :: keys es) := (p2.map keyOf).trans pk1
      refine wpAny_bind (wpAny_storeSet_of S.obj rfl ?_ (small few1))
      rw [tf, if_pos (by decide), e2]
      dsimp only
      refine wpAny_bind (m := (pure () : Sem Unit)) (wpAny_pure ?_)
      have o1 := put_get S.obj es1 t1
      refine wpAny_bind (wpAny_storeSet_of o1 rfl (wpAny_pure ?_) (small (by omega)))
      dsimp only
      refine wpAny_pure (h true es2 (ep + 1 + 1) t2 _ ((Heap.SameBut.update s.heap a _).trans (Heap.SameBut.update _ a _)) ⟨put_get o1 es2 t2, ent2, pk2.nodup_iff.mpr (List.nodup_cons.mpr ⟨hk, S.nd⟩), tab2, fun z => by rw [l2, l1]; exact S.led z, by omega⟩ ?_)
      unfold ins
      rw [if_neg hk]
      exact pk2
    · have room : es1.size * 5 < t1.mask * 3 := by
        have : ¬ (t1.fill * 5 ≥ t1.mask * 3) := fun z => tf (by unfold SetTable.tooFull; exact decide_eq_true z)
        have e : t1.fill = es1.size := by
          unfold SetTable.fill
          rw [ok1.dum, ok1.size]
          rfl
        omega
      refine wpAny_bind (wpAny_storeSet_of S.obj rfl ?_ (small few1))
      rw [Bool.not_eq_true] at tf
      rw [tf]
      simp only [Bool.and_false, Bool.false_eq_true, if_false]
      refine wpAny_pure ?_
      dsimp only
      refine wpAny_pure (h true es1 (ep + 1) t1 _ (Heap.SameBut.update s.heap a _) ⟨put_get S.obj es1 t1, ent1, nd1, ⟨ok1, room⟩, led1, few1⟩ ?_)
      unfold ins
      rw [if_neg hk]
      exact pk1
end
end NdS
namespace NdS
open PySem
theorem erase_perm {α : Type} : ∀ {l : List α} {i : Nat} (h : i < l.length), (l[i] :: l.eraseIdx i).Perm l
  | [], _, h => absurd h (Nat.not_lt_zero _)
  | a :: l, 0, h => List.Perm.refl _
  | a :: l, i + 1, h => by
    have := erase_perm (l := l) (i := i) (by simpa using h)
    exact (List.Perm.swap a _ _).trans (List.Perm.cons a this)
theorem pick_go {α : Type} (next : Nat → Nat) : ∀ (fuel k : Nat) (left : List α) (out : Array α), left.length = fuel → (pickOrder.go next fuel k left out).toList.Perm (out.toList ++ left)
  | 0, k, left, out, h => by
    unfold pickOrder.go
    have : left = [] := List.eq_nil_of_length_eq_zero h
    subst this
    simp
  | fuel + 1, k, left, out, h => by
    unfold pickOrder.go
    have hi : next k % left.length < left.length := Nat.mod_lt _ (by omega)
    rw [List.getElem?_eq_getElem hi]
    dsimp only
    refine (pick_go next fuel (k + 1) _ _ (by rw [List.length_eraseIdx, if_pos hi]; omega)).trans ?_
    rw [Array.toList_push, List.append_assoc]
    exact List.Perm.append_left _ (erase_perm hi)
theorem pick_perm {α : Type} (next : Nat → Nat) (xs : Array α) : (pickOrder next xs).toList.Perm xs.toList := by
  unfold pickOrder
  simpa using pick_go next xs.size 0 xs.toList #[] (by simp)
section
variable {prog : Program} {w : World} {A : Around} {E : Value → Shared → Prop} {s : Shared}
theorem byText_ok {Q : Bool → Shared → Prop} (h : Q (bt w) s) : wpAny (model prog w) A setsByText Q E s := by
  unfold setsByText
  exact wpAny_bind (wpAny_askSetting (wpAny_pure h))
theorem walk_ok {a : Addr} {es : Array (Int × Value)} {ep : Nat} {t : SetTable} {Q : Array (Int × Value) → Shared → Prop} (S : SetS w s.heap a es ep t) (h : Q (if bt w then pickOrder (w.params.setOrder a ep) es else es) s) : wpAny (model prog w) A (setWalk a) Q E s := by
  unfold setWalk
  refine wpAny_bind (state_ok S ?_)
  dsimp only
  refine wpAny_bind (byText_ok ?_)
  cases hb : bt w with
  | true =>
    rw [hb] at h
    rw [if_pos rfl] at h ⊢
    exact wpAny_bind (wpAny_askSetting (wpAny_pure h))
  | false =>
    have hl := S.led hb
    have hp := S.tab.plain
    rw [hb] at h
    obtain ⟨mask, place, dummies, finger, led, moves, plain⟩ := t
    have hl' : led = true := hl
    have hp' : plain = true := hp
    subst hl' hp'
    exact wpAny_bind (m := (pure () : Sem Unit)) (wpAny_pure (wpAny_pure h))
theorem walk_perm {a : Addr} {es : Array (Int × Value)} {ep : Nat} : (if bt w then pickOrder (w.params.setOrder a ep) es else es).toList.Perm es.toList := by
  cases bt w with
  | true => exact pick_perm _ _
  | false => exact List.Perm.refl _
theorem unseen_ok {a : Addr} {others : List Addr} {filled : Option Addr} {es : Array (Int × Value)} {ep : Nat} {t : SetTable} {Q : Array (Int × Value) → Shared → Prop} (S : SetS w s.heap a es ep t) (h : Q (if bt w then pickOrder (w.params.setOrder a ep) es else es) s) :
    wpAny (model prog w) A (setWalkUnseen a others filled) Q E s := by
  unfold setWalkUnseen
  refine wpAny_bind (state_ok S ?_)
  dsimp only
  refine wpAny_bind (byText_ok ?_)
  have c : (bt w || (t.led && t.plain) || decide (es.size ≤ 1)) = true := by
    cases hb : bt w with
    | true => rfl
    | false => rw [S.led hb, S.tab.plain]; rfl
  rw [if_pos c]
  exact walk_ok S h
theorem relay_set {a : Addr} {es : Array (Int × Value)} {ep : Nat} {t : SetTable} {wanted : Nat} {Q : Unit → Shared → Prop} (S : SetS w s.heap a es ep t) (hw : wanted < 256) (h2 : es.size * 2 ≤ wanted)
    (h : ∀ es' t' h', Heap.SameBut a s.heap h' → SetS w h' a es' (ep + 1) t' → (keys es').Perm (keys es) → wanted ≤ t'.mask → 7 ≤ t'.mask → Q () { s with heap := h' }) : wpAny (model prog w) A (setRelay a wanted) Q E s := by
  obtain ⟨t', order, q1, q2, q3, q4⟩ := relay_ok (es := es) S.tab.plain hw h2
  obtain ⟨p1, p2⟩ := picked es q2
  obtain ⟨m, e1, g, hm⟩ := sizeAbove_good hw
  have mk : t'.mask = m := by
    unfold SetTable.relaid at q1
    rw [(laid_led q1).2.1, e1]
    rfl
  have m7 : 7 ≤ t'.mask := by
    have : 8 ≤ SetTable.sizeAbove wanted := by
      have key : ∀ k : Fin 256, decide (8 ≤ SetTable.sizeAbove k.1) = true := by decide +kernel
      exact of_decide_eq_true (key ⟨wanted, hw⟩)
    omega
  have sz : SetTable.sizeAbove wanted ≤ 256 := by
    have key : ∀ k : Fin 256, decide (SetTable.sizeAbove k.1 ≤ 256) = true := by decide +kernel
    exact of_decide_eq_true (key ⟨wanted, hw⟩)
  unfold setRelay
  refine wpAny_bind (state_ok S ?_)
  dsimp only
  rw [if_neg (by rw [sizeLine_eq]; omega), q1]
  refine wpAny_bind ?_
  show wpAny (model prog w) A (do
    if (order.filterMap (es[·]?)).size != es.size then unsupported "internal:set-table-lost-an-element"
    pure (order.filterMap (es[·]?), t')) _ _ _
  rw [if_neg (by rw [p2]; simp)]
  refine wpAny_pure ?_
  dsimp only
  refine store_set S (fun e he => S.ent e (p1.mem_iff.mp he)) ((p1.map keyOf).nodup_iff.mpr S.nd) (by rw [p2]; exact q3) (fun z => by rw [q4]; exact S.led z) (by rw [p2]; exact S.few) fun h' sb S' => ?_
  exact h _ _ h' sb S' (p1.map keyOf) (by omega) m7
theorem keys_size {es es' : Array (Int × Value)} (p : (keys es').Perm (keys es)) : es'.size = es.size := by
  have := p.length_eq
  rw [List.length_map, List.length_map, Array.length_toList, Array.length_toList] at this
  exact this
theorem room_ok {a : Addr} {es : Array (Int × Value)} {ep more : Nat} {t : SetTable} {Q : Unit → Shared → Prop} (S : SetS w s.heap a es ep t) (hm : es.size + more < 128)
    (h : ∀ es' ep' t' h', Heap.SameBut a s.heap h' → SetS w h' a es' ep' t' → (keys es').Perm (keys es) → (es.size + more) * 5 < t'.mask * 3 → Q () { s with heap := h' }) : wpAny (model prog w) A (setRoomFor a more) Q E s := by
  have fl : t.fill = es.size := by
    unfold SetTable.fill
    rw [S.tab.dum, S.tab.size]
    rfl
  unfold setRoomFor
  refine wpAny_bind (state_ok S ?_)
  dsimp only
  unfold SetTable.roomFor
  rw [fl, S.tab.size]
  by_cases c : (es.size + more) * 5 ≥ t.mask * 3
  · rw [if_pos c]
    dsimp only
    refine relay_set S (by omega) (by omega) fun es' t' h' sb S' p m1 m7 => h es' _ t' h' sb S' p ?_
    omega
  · rw [if_neg c]
    dsimp only
    exact wpAny_pure (h es ep t s.heap (Heap.SameBut.refl _ _) S (List.Perm.refl _) (by omega))
end
def Among (U : List Int) (l : List Int) : Prop := ∀ x ∈ l, x ∈ U
theorem len_leI : ∀ {l1 l2 : List Int}, l1.Nodup → (∀ e ∈ l1, e ∈ l2) → l1.length ≤ l2.length
  | [], _, _, _ => Nat.zero_le _
  | a :: l1, l2, nd, h => by
    have nd' := List.nodup_cons.mp nd
    have ha := h a (List.mem_cons_self ..)
    have := len_leI (l2 := l2.erase a) nd'.2 fun e he => (List.mem_erase_of_ne (show e ≠ a from fun z => nd'.1 (by rw [← z]; exact he))).mpr (h e (List.mem_cons_of_mem _ he))
    rw [List.length_erase_of_mem ha] at this
    have p : 0 < l2.length := List.length_pos_of_mem ha
    rw [List.length_cons]
    omega
theorem Among.size {U : List Int} {es : Array (Int × Value)} (h : Among U (keys es)) (nd : (keys es).Nodup) : es.size ≤ U.length := by
  have := len_leI nd h
  rw [List.length_map, Array.length_toList] at this
  exact this
theorem mem_ins {x k : Int} {l : List Int} : x ∈ ins k l ↔ x = k ∨ x ∈ l := by
  unfold ins
  split
  · rename_i h
    constructor
    · exact .inr
    · rintro (z | z)
      · rw [z]; exact h
      · exact z
  · rw [List.mem_cons]
section
variable {prog : Program} {w : World} {A : Around} {E : Value → Shared → Prop}
theorem merge_loop {U : List Int} (hU : U.length ≤ 62) {a o : Addr} (ao : a ≠ o) {eo : Array (Int × Value)} {epo : Nat} {to : SetTable} {each : Sem Unit}
    (hE : ∀ (s : Shared) (Q : Unit → Shared → Prop), SetS w s.heap o eo epo to → Q () s → wpAny (model prog w) A each Q E s) :
    ∀ (l : List (Int × Value)) (s : Shared) (es : Array (Int × Value)) (ep : Nat) (t : SetTable) (Q : Unit → Shared → Prop), (∀ e ∈ l, isEnt e) → Among U (l.map keyOf) → Among U (keys es) → SetS w s.heap a es ep t → SetS w s.heap o eo epo to →
      (∀ es' ep' t' h', Heap.SameBut a s.heap h' → SetS w h' a es' ep' t' → (∀ x, x ∈ keys es' ↔ x ∈ keys es ∨ x ∈ l.map keyOf) → Q () { s with heap := h' }) →
      wpAny (model prog w) A (forIn l PUnit.unit fun (x : Int × Value) _ => do
        let _ ← holding [x.2] (setAddHashed a x.2 x.1)
        each
        if (← setState o).2.1 != epo then unsupported "set.changed-during-merge"
        pure (ForInStep.yield PUnit.unit)) Q E s
  | [], s, es, ep, t, Q, _, _, _, S, _, h => by
    rw [List.forIn_nil]
    exact wpAny_pure (h es ep t s.heap (Heap.SameBut.refl _ _) S (by simp))
  | e :: l, s, es, ep, t, Q, he, hl, hk, S, So, h => by
    obtain ⟨k, tk, rfl⟩ := he e (List.mem_cons_self ..)
    rw [List.forIn_cons]
    have n1 := hk.size S.nd
    refine wpAny_bind (wpAny_bind (wpAny_holding (add_ok S (by omega) fun b es1 ep1 t1 h1 sb1 S1 p1 => ?_)))
    have So1 : SetS w h1 o eo epo to := So.keep fun ob q => (sb1.2 o (Ne.symm ao)).trans q
    refine wpAny_bind (hE { s with heap := h1 } _ So1 ?_)
    refine wpAny_bind (state_ok (s := { s with heap := h1 }) So1 ?_)
    dsimp only
    rw [if_neg (by simp)]
    refine wpAny_pure ?_
    have m1 : ∀ x, x ∈ keys es1 ↔ x = k ∨ x ∈ keys es := fun x => by rw [p1.mem_iff, mem_ins]
    have hk1 : Among U (keys es1) := fun x hx => by
      rcases (m1 x).mp hx with z | z
      · rw [z]; exact hl k (List.mem_cons_self ..)
      · exact hk x z
    refine merge_loop hU ao hE l { s with heap := h1 } es1 ep1 t1 Q (fun e hm => he e (List.mem_cons_of_mem _ hm)) (fun x hx => hl x (List.mem_cons_of_mem _ hx)) hk1 S1 So1 fun es2 ep2 t2 h2 sb2 S2 m2 => ?_
    refine h es2 ep2 t2 h2 (sb1.trans sb2) S2 fun x => ?_
    rw [m2, m1, List.map_cons, List.mem_cons]
    show (x = k ∨ x ∈ keys es) ∨ x ∈ l.map keyOf ↔ x ∈ keys es ∨ x = k ∨ x ∈ l.map keyOf
    constructor
    · rintro ((z | z) | z)
      · exact .inr (.inl z)
      · exact .inl z
      · exact .inr (.inr z)
    · rintro (z | z | z)
      · exact .inl (.inr z)
      · exact .inl (.inl z)
      · exact .inr z
end
end NdS
namespace NdS
open PySem
section
variable {prog : Program} {w : World} {A : Around} {E : Value → Shared → Prop} {s : Shared}
theorem merge_ok {U : List Int} (hU : U.length ≤ 62) {a o : Addr} (ao : a ≠ o) {es eo : Array (Int × Value)} {ep epo : Nat} {t to : SetTable} {each : Sem Unit} {Q : Unit → Shared → Prop}
    (hE : ∀ (s : Shared) (Q : Unit → Shared → Prop), SetS w s.heap o eo epo to → Q () s → wpAny (model prog w) A each Q E s) (S : SetS w s.heap a es ep t) (So : SetS w s.heap o eo epo to) (hk : Among U (keys es)) (ho : Among U (keys eo))
    (h : ∀ es' ep' t' h', Heap.SameBut a s.heap h' → SetS w h' a es' ep' t' → (∀ x, x ∈ keys es' ↔ x ∈ keys es ∨ x ∈ keys eo) → Q () { s with heap := h' }) : wpAny (model prog w) A (setMerge a o each) Q E s := by
  have n1 := hk.size S.nd
  have n2 := ho.size So.nd
  unfold setMerge
  rw [if_neg (by simpa using ao)]
  refine wpAny_bind (state_ok So ?_)
  dsimp only
  by_cases em : eo.isEmpty = true
  · rw [if_pos em]
    have : eo = #[] := by simpa using em
    refine wpAny_pure (h es ep t s.heap (Heap.SameBut.refl _ _) S fun x => ?_)
    rw [this]
    simp
  rw [if_neg em]
  refine wpAny_bind (room_ok S (by omega) fun es1 ep1 t1 h1 sb1 S1 p1 r1 => ?_)
  have So1 : SetS w h1 o eo epo to := So.keep fun ob q => (sb1.2 o (Ne.symm ao)).trans q
  refine wpAny_bind (state_ok (s := { s with heap := h1 }) S1 ?_)
  dsimp only
  have z1 := keys_size p1
  have fl : t1.fill = es.size := by
    unfold SetTable.fill
    rw [S1.tab.dum, S1.tab.size]
    exact z1
  have empty : t1.fill = 0 → ∀ x, x ∉ keys es := fun z x hx => by
    have : es.size = 0 := by omega
    have e : es = #[] := Array.eq_empty_of_size_eq_zero this
    rw [e] at hx
    simp at hx
  cases hr : t1.road to with
  | slotForSlot =>
    unfold SetTable.road at hr
    split at hr
    · cases hr
    · rename_i hf
      have hf' : t1.fill = 0 := by simpa using hf
      split at hr
      · rename_i hm
        simp only [Bool.and_eq_true, beq_iff_eq] at hm
        refine store_set S1 So1.ent So1.nd (t' := { to with finger := t1.finger, led := t1.led && to.led, moves := t1.moves, plain := t1.plain && to.plain }) ⟨⟨So1.tab.good, So1.tab.dum, by show (t1.plain && to.plain) = true; rw [S1.tab.plain, So1.tab.plain]; rfl, So1.tab.rise, So1.tab.top, So1.tab.size⟩, So1.tab.room⟩
          (fun z => by show (t1.led && to.led) = true; rw [S1.led z, So1.led z]; rfl) So1.few fun h2 sb2 S2 => ?_
        refine h eo _ _ h2 (sb1.trans sb2) S2 fun x => ⟨.inr, fun z => z.elim (fun q => absurd q (empty hf' x)) id⟩
      · cases hr
  | clean =>
    have hf' : t1.fill = 0 := by
      unfold SetTable.road at hr
      split at hr
      · cases hr
      · rename_i hf
        simpa using hf
    have sz : (eo.map (·.1)).size = eo.size := Array.size_map ..
    obtain ⟨t2, order, q1, q2, q3, q4⟩ := laid_tab (mask := t1.mask) (finger := t1.finger) (moves := t1.moves) (led := t1.led && to.led) S1.tab.good (eo.map (·.1)) (by rw [sz]; omega)
    rw [sz] at q2 q3
    obtain ⟨pk, ps⟩ := picked eo q2
    dsimp only
    have pl : (t1.plain && to.plain) = true := by rw [S1.tab.plain, So1.tab.plain]; rfl
    rw [pl, q1]
    refine wpAny_bind ?_
    show wpAny (model prog w) A (do
      if (order.filterMap (eo[·]?)).size != eo.size then unsupported "internal:set-table-lost-an-element"
      pure (order.filterMap (eo[·]?), t2)) _ _ _
    rw [if_neg (by rw [ps]; simp)]
    refine wpAny_pure ?_
    dsimp only
    refine store_set S1 (fun e he => So1.ent e (pk.mem_iff.mp he)) ((pk.map keyOf).nodup_iff.mpr So1.nd) (by rw [ps]; exact q3) (fun z => by rw [q4, S1.led z, So1.led z]; rfl) (by rw [ps]; exact So1.few) fun h2 sb2 S2 => ?_
    refine h _ _ _ h2 (sb1.trans sb2) S2 fun x => ?_
    rw [(pk.map keyOf).mem_iff]
    exact ⟨.inr, fun z => z.elim (fun q => absurd q (empty hf' x)) id⟩
  | oneByOne =>
    dsimp only
    refine wpAny_bind (unseen_ok (s := { s with heap := h1 }) So1 ?_)
    have wp := walk_perm (w := w) (a := o) (es := eo) (ep := epo)
    generalize (if bt w then pickOrder (w.params.setOrder o epo) eo else eo) = arr at wp
    rw [← Array.forIn_toList]
    refine wpAny_bind (merge_loop hU ao hE arr.toList { s with heap := h1 } es1 ep1 t1 _ (fun e he => So1.ent e (wp.mem_iff.mp he)) (fun x hx => ho x ((wp.map keyOf).mem_iff.mp hx)) (fun x hx => hk x (p1.mem_iff.mp hx)) S1 So1 fun es2 ep2 t2 h2 sb2 S2 m2 => wpAny_pure ?_)
    refine h es2 ep2 t2 h2 (sb1.trans sb2) S2 fun x => ?_
    rw [m2, p1.mem_iff, (wp.map keyOf).mem_iff]
end
end NdS
namespace NdS
open PySem
theorem entry_set_or : entryFor table "set.__or__" = some Builtin.«frozenset.__or__» :=
  entryFor_alias (id' := "frozenset.__or__") (by kernel_rfl) (by first | rfl | decide +kernel) (by decide +kernel) (by kernel_rfl)
theorem sub_set_set : isSubtype (.type "set") (.type "set") = pure true := by rw [isSubtype_type]; kernel_rfl
section
variable {prog : Program} {w : World} {A : Around} {E : Value → Shared → Prop} {s : Shared}
theorem SetS.ty {a : Addr} {es : Array (Int × Value)} {ep : Nat} {t : SetTable} (S : SetS w s.heap a es ep t) : s.TypeIs (.ref a) "set" := ⟨_, S.obj, rfl⟩
theorem fresh_set {h : Heap} : SetS w (h.push (setObj #[] 0 (.fresh 0 0 (!bt w)))) h.objs.size #[] 0 (.fresh 0 0 (!bt w)) :=
  ⟨Heap.get?_push_size _ rfl, (fun e he => by simp at he), List.Pairwise.nil, ⟨⟨good8, rfl, rfl, List.Pairwise.nil, (fun j hj => by simp [SetTable.fresh] at hj), rfl⟩, by show 0 * 5 < 7 * 3; decide⟩, (fun z => by show (!bt w) = true; rw [z]; rfl), by decide⟩
theorem newSet_ok {Q : Value → Shared → Prop} (h : Q (.ref s.heap.objs.size) { s with heap := s.heap.push (setObj #[] 0 (.fresh 0 0 (!bt w))) }) : wpAny (model prog w) A (newSet (.type "set")) Q E s := by
  unfold newSet
  refine wpAny_bind (byText_ok ?_)
  dsimp only
  simp only [newObj]
  exact wpAny_bind (wpAny_alloc (wpAny_pure h))
theorem anySet_ok {a : Addr} {Q : Bool → Shared → Prop} (T : s.TypeIs (.ref a) "set") (h : Q true s) : wpAny (model prog w) A (Builtin.Frozenset.isAnySet (.ref a)) Q E s := by
  unfold Builtin.Frozenset.isAnySet
  exact wpAny_bind (wpAny_isInstance T sub_set_set (wpAny_pure h))
theorem base_ok {a : Addr} {Q : Value → Shared → Prop} (T : s.TypeIs (.ref a) "set") (h : Q (.type "set") s) : wpAny (model prog w) A (Builtin.Frozenset.baseOf a) Q E s := by
  unfold Builtin.Frozenset.baseOf
  exact wpAny_bind (wpAny_isInstance T sub_set_set (wpAny_pure h))
theorem keep_of {h h' h2 : Heap} {a : Addr} (k : ∀ b o, h.get? b = some o → h'.get? b = some o) (n : h.get? a = none) (sb : Heap.SameBut a h' h2) : ∀ b o, h.get? b = some o → h2.get? b = some o := fun b o e =>
  (sb.2 b (fun z => by rw [z, n] at e; cases e)).trans (k b o e)
theorem copy_ok {U : List Int} (hU : U.length ≤ 62) {a : Addr} {es : Array (Int × Value)} {ep : Nat} {t : SetTable} {Q : Value → Shared → Prop} (S : SetS w s.heap a es ep t) (hk : Among U (keys es))
    (h : ∀ es' ep' t' h', (∀ b o, s.heap.get? b = some o → h'.get? b = some o) → SetS w h' s.heap.objs.size es' ep' t' → (∀ x, x ∈ keys es' ↔ x ∈ keys es) → Q (.ref s.heap.objs.size) { s with heap := h' }) :
    wpAny (model prog w) A (Builtin.Frozenset.copyOf a) Q E s := by
  have lt := Heap.lt_size S.obj
  have ne : s.heap.objs.size ≠ a := Nat.ne_of_gt lt
  unfold Builtin.Frozenset.copyOf
  refine wpAny_bind (base_ok S.ty (wpAny_bind (newSet_ok ?_)))
  refine wpAny_bind (m := Builtin.Frozenset.addrOf (.ref s.heap.objs.size)) (wpAny_pure ?_)
  refine wpAny_bind (merge_ok (s := { s with heap := s.heap.push (setObj #[] 0 (.fresh 0 0 (!bt w))) }) hU ne (each := pure ()) (fun s' Q' _ q => wpAny_pure q) fresh_set (S.keep fun o q => Heap.get?_push_of_some _ q) (fun x hx => by simp at hx) hk fun es' ep' t' h' sb S' m => wpAny_pure ?_)
  exact h es' ep' t' h' (keep_of (fun b o e => Heap.get?_push_of_some _ e) (Heap.get?_none_of_le (Nat.le_refl _)) sb) S' fun x => by rw [m]; simp
theorem or_ok {U : List Int} (hU : U.length ≤ 62) {a b : Addr} (ab : a ≠ b) {ea eb : Array (Int × Value)} {epa epb : Nat} {ta tb : SetTable} {Q : Value → Shared → Prop} (Sa : SetS w s.heap a ea epa ta) (Sb : SetS w s.heap b eb epb tb) (ka : Among U (keys ea)) (kb : Among U (keys eb))
    (h : ∀ es' ep' t' h', (∀ c o, s.heap.get? c = some o → h'.get? c = some o) → SetS w h' s.heap.objs.size es' ep' t' → (∀ x, x ∈ keys es' ↔ x ∈ keys ea ∨ x ∈ keys eb) → Q (.ref s.heap.objs.size) { s with heap := h' }) :
    wpAny (model prog w) A (binaryOp .BitOr (.ref a) (.ref b)) Q E s := by
  refine wpAny_binaryOp_same (id := "set.__or__") Sa.ty Sb.ty PySem.F.fills_set_or PySem.F.slot_set_or (wpAny_call_entry PySem.F.slot_set_or Sa.ty entry_set_or ?_ (PySem.F.args_set_or_2 _ _))
  show wpAny (model prog w) _ (do
    let (self, other) ← Builtin.Frozenset.slot1 "__or__" ⟨[.ref a, .ref b], []⟩
    let (l, r) := (self, other)
    if !(← Builtin.Frozenset.isAnySet l <&&> Builtin.Frozenset.isAnySet r) then rule s!"frozenset.{"__or__"}.declined"; return ← ret .notImplemented
    ret (← (do
      let result ← Builtin.Frozenset.copyOf (← Builtin.Frozenset.addrOf l)
      if r != .ref (← Builtin.Frozenset.addrOf l) then holding [result] (Builtin.Frozenset.updateFrom s!"frozenset.{"__or__"}" (← Builtin.Frozenset.addrOf result) r)
      return result))) _ _ _
  refine wpAny_bind (m := Builtin.Frozenset.slot1 "__or__" ⟨[.ref a, .ref b], []⟩) (wpAny_of_eq (a := (Value.ref a, Value.ref b)) rfl ?_)
  dsimp only
  refine wpAny_bind (wpAny_bind (anySet_ok Sa.ty ?_))
  refine anySet_ok Sb.ty ?_
  simp only [Bool.not_true, Bool.false_eq_true, if_false]
  refine wpAny_bind (wpAny_bind (m := Builtin.Frozenset.addrOf (.ref a)) (wpAny_pure (wpAny_bind (copy_ok hU Sa ka fun e1 p1 t1 h1 k1 S1 m1 => ?_))))
  have ne : s.heap.objs.size ≠ b := Nat.ne_of_gt (Heap.lt_size Sb.obj)
  have nr : s.heap.get? s.heap.objs.size = none := Heap.get?_none_of_le (Nat.le_refl _)
  have Sb1 : SetS w h1 b eb epb tb := Sb.keep fun o q => k1 b o q
  refine wpAny_bind (m := Builtin.Frozenset.addrOf (.ref a)) (wpAny_pure ?_)
  rw [if_pos (show (Value.ref b != Value.ref a) = true by simpa using Ne.symm ab)]
  refine wpAny_bind (m := Builtin.Frozenset.addrOf (.ref s.heap.objs.size)) (wpAny_pure (wpAny_bind (wpAny_holding ?_)))
  unfold Builtin.Frozenset.updateFrom
  refine wpAny_bind (anySet_ok (s := { s with heap := h1 }) (w := w) Sb1.ty ?_)
  rw [if_pos rfl]
  refine wpAny_bind (m := Builtin.Frozenset.addrOf (.ref b)) (wpAny_pure ?_)
  unfold Builtin.Frozenset.merge setEpoch
  refine wpAny_bind (wpAny_bind (state_ok (s := { s with heap := h1 }) Sb1 (wpAny_pure ?_)))
  refine merge_ok (s := { s with heap := h1 }) hU ne (fun s' Q' So' q' => ?_) S1 Sb1 (fun x hx => ka x ((m1 x).mp hx)) kb fun e2 p2 t2 h2 sb2 S2 m2 => ?_
  · unfold Builtin.Frozenset.unchanged setEpoch
    refine wpAny_bind (wpAny_bind (state_ok So' (wpAny_pure ?_)))
    dsimp only
    rw [if_neg (by simp)]
    exact wpAny_pure q'
  · refine wpAny_pure (wpAny_pure ⟨_, rfl, (fun z => nomatch z), h e2 p2 t2 h2 (keep_of k1 nr sb2) S2 fun x => by rw [m2, m1]⟩)
end
end NdS
namespace NdS
open PySem PyProof.Rows
section
variable {prog : Program} {w : World} {A : Around} {R : Result → Shared → Prop}
theorem upd_loop {U : List Int} (hU : U.length ≤ 62) {a it l : Addr} (n1 : a ≠ it) (n2 : a ≠ l) (n3 : l ≠ it) {items : Array Value} {ns : List Int} (hI : IntsAre items.toList ns) (hN : Among U ns) (hh : A.in1.handled = none) :
    ∀ (k i : Nat) (s : Shared) (es : Array (Int × Value)) (ep : Nat) (t : SetTable), items.size - i = k → i ≤ items.size → s.heap.IsTupleIter it l i → s.heap.IsTuple l items → SetS w s.heap a es ep t → Among U (keys es) →
      (∀ es' ep' t' h' tk, (∀ b o, b ≠ a → b ≠ it → s.heap.get? b = some o → h'.get? b = some o) → SetS w h' a es' ep' t' → (∀ x, x ∈ keys es' ↔ x ∈ keys es ∨ x ∈ ns.drop i) → R (.ok (.ret .none)) { s with heap := h', toks := tk }) →
      codeAny (model prog w) A (.builtin "set.update.loop" ⟨[.ref a, .ref it], []⟩) R s := by
  have len : ns.length = items.size := by rw [← hI.length, Array.length_toList]
  intro k
  induction k with
  | zero =>
    intro i s es ep t hk hi hit hl S hu hR
    have e : i = items.size := by omega
    refine codeAny_builtin PyProof.Rows.F.entry_set_update_loop ?_
    rw [Around.under_plainId PyProof.Rows.F.plain_set_update_loop _]
    show wpAny _ A.in1 (pyNext (.ref it) >>= _) _ _ s
    refine wpAny_bind (wpAny_pyNext_tuple_end hh hit hl (by rw [e]; simp) fun h' x => ?_)
    refine wpAny_pure (hR es ep t h' s.toks (fun b o _ q e => x b o q e) (S.keep fun o q => x a o n1 q) fun x => ?_)
    rw [e, ← len, List.drop_length]
    simp
  | succ k ih =>
    intro i s es ep t hk hi hit hl S hu hR
    have lt : i < items.size := by omega
    have lt' : i < ns.length := by omega
    obtain ⟨tk, ev⟩ := IntsAre.int_at hI i items[i] (by simp [lt])
    have eg : ns.getD i 0 = ns[i] := by simp [List.getD, lt']
    rw [eg] at ev
    refine codeAny_builtin PyProof.Rows.F.entry_set_update_loop ?_
    rw [Around.under_plainId PyProof.Rows.F.plain_set_update_loop _]
    show wpAny _ A.in1 (pyNext (.ref it) >>= _) _ _ s
    refine wpAny_bind (wpAny_pyNext_tuple_item hit hl (x := items[i]) (by simp [lt]) fun h1 hit1 sb1 => ?_)
    rw [ev]
    show wpAny _ A.in1 (holding [Value.int ns[i] tk] (setAdd a (.int ns[i] tk)) >>= _) _ _ _
    refine wpAny_bind (wpAny_holding ?_)
    unfold setAdd
    refine wpAny_holding (wpAny_bind ((intKind prog w).pyHash (k := ns[i]) (intKind_is _ _ _ _) ?_))
    have S1 : SetS w h1 a es ep t := S.keep fun o q => (sb1.2 a n1).trans q
    have z := hu.size S1.nd
    refine add_ok (s := { s with heap := h1, toks := s.toks + 1 }) S1 (by omega) fun b es2 ep2 t2 h2 sb2 S2 p2 => ?_
    have m2 : ∀ x, x ∈ keys es2 ↔ x = ns[i] ∨ x ∈ keys es := fun x => by rw [p2.mem_iff, mem_ins]
    refine wpAny_pure ⟨plainId_quiet PyProof.Rows.F.plain_set_update_loop _, ?_⟩
    refine ih (i + 1) { s with heap := h2, toks := s.toks + 1 } es2 ep2 t2 (by omega) lt ?_ ?_ S2 (fun x hx => ?_) fun es3 ep3 t3 h3 tk3 k3 S3 m3 => ?_
    · obtain ⟨o, ho, r⟩ := hit1
      exact ⟨o, (sb2.2 it (Ne.symm n1)).trans ho, r⟩
    · obtain ⟨o, ho, r⟩ := hl
      exact ⟨o, (sb2.2 l (Ne.symm n2)).trans ((sb1.2 l n3).trans ho), r⟩
    · rcases (m2 x).mp hx with q | q
      · rw [q]; exact hN _ (List.getElem_mem lt')
      · exact hu x q
    · refine hR es3 ep3 t3 h3 tk3 (fun b o q1 q2 e => k3 b o q1 q2 ((sb2.2 b q1).trans ((sb1.2 b q2).trans e))) S3 fun x => ?_
      rw [m3, m2, List.drop_eq_getElem_cons lt', List.mem_cons]
      constructor
      · rintro ((q | q) | q)
        · exact .inr (.inl q)
        · exact .inl q
        · exact .inr (.inr q)
      · rintro (q | q | q)
        · exact .inl (.inr q)
        · exact .inl (.inl q)
        · exact .inr q
end
section
variable {prog : Program} {w : World} {A : Around} {E : Value → Shared → Prop} {s : Shared}
theorem new_code (v : Value) {Q : Value → Shared → Prop} (h : Q (.ref s.heap.objs.size) { s with heap := s.heap.push (setObj #[] 0 (.fresh 0 0 (!bt w))) }) :
    codeAny (model prog w) A (.call (.builtin "set.__new__") ⟨[.type "set", v], []⟩) (wants Q E) s := by
  have sub := sub_set_set
  obtain ⟨hp, g, d, tk, os⟩ := s
  refine codeAny_of_tree (show wpAny _ A.in1 (do checkBuiltinCall "set.__new__" ⟨[.type "set", v], []⟩; again (.builtin "set.__new__" ⟨[.type "set", v], []⟩)) _ _ _ from ?_)
  refine wpAny_bind (wpAny_of_eq (PySem.F.newCall_set_1 v) (wpAny_pure ⟨plainId_quiet PySem.F.plain_set_new _, codeAny_builtin PySem.F.entry_set_new ?_⟩))
  rw [Around.under_plainId PySem.F.plain_set_new _]
  unfold Builtin.«set.__new__» Builtin.Frozenset.newClass
  dsimp only
  wp_walk
  refine wpAny_askSetting (wpAny_pure ?_)
  dsimp only
  simp only [newObj]
  exact wpAny_bind (wpAny_alloc (wpAny_pure (wpAny_pure h)))
theorem set_tup {U : List Int} (hU : U.length ≤ 62) {l : Addr} {items : Array Value} {ns : List Int} {Q : Value → Shared → Prop} (hh : A.handled = none) (hl : s.heap.IsTuple l items) (hI : IntsAre items.toList ns) (hN : Among U ns)
    (h : ∀ es ep t h' tk, (∀ b o, s.heap.get? b = some o → h'.get? b = some o) → SetS w h' s.heap.objs.size es ep t → (∀ x, x ∈ keys es ↔ x ∈ ns) → Q (.ref s.heap.objs.size) { s with heap := h', toks := tk }) :
    wpAny (model prog w) A (call (.type "set") [.ref l]) Q E s := by
  obtain ⟨c, tl, hmro⟩ := PySem.F.called_set.mro
  have hmade := PySem.F.called_set.made
  have hsub := PySem.F.called_set.sub
  have h1 := PySem.F.called_set.notType
  have h2 := PySem.F.called_set.canCreate
  have hct := PySem.F.typeCall_set_1 (.ref l)
  refine wpAny_call (codeAny_of_tree (show wpAny _ _ (callAny (.type "set") _) _ _ _ from ?_))
  refine wpAny_pure ⟨Code.quiet_builtin _ (by decide +kernel), codeAny_builtin PySem.F.entry_type_call ?_⟩
  rw [Around.under_plain (weight_type_call_type "set" [.ref l] []) rfl]
  repeat (any_goals (first | assumption | wp_step))
  refine codeAny_mono (new_code (.ref l) (E := E) (Q := fun v s1 => v = .ref s.heap.objs.size ∧ s1 = { s with heap := s.heap.push (setObj #[] 0 (.fresh 0 0 (!bt w))) }) ⟨rfl, rfl⟩) fun r s1 hr => ?_
  rcases r with e | (_ | _ | _ | v)
  · exact hr
  · exact hr.elim
  · exact hr.elim
  · exact hr.elim
  obtain ⟨rfl, rfl⟩ := hr
  have S0 := fresh_set (w := w) (h := s.heap)
  have T0 : Shared.TypeIs { s with heap := s.heap.push (setObj #[] 0 (.fresh 0 0 (!bt w))) } (.ref s.heap.objs.size) "set" := ⟨_, S0.obj, rfl⟩
  have hli := PySem.F.called_set.init.lookup
  have hbi := PySem.F.called_set.init.bind (.ref s.heap.objs.size)
  repeat (any_goals (first | assumption | wp_step))
  refine codeAny_mono (codeAny_call_builtin (R := wants (fun r s2 => r = .none ∧ ∃ es ep t h' tk, s2 = { s with heap := h', toks := tk } ∧ (∀ b o, s.heap.get? b = some o → h'.get? b = some o) ∧ SetS w h' s.heap.objs.size es ep t ∧ ∀ x, x ∈ keys es ↔ x ∈ ns) E)
    PySem.F.called_set.init.plain PySem.F.entry_set_init (check_set_init_1 T0 ?_)) fun r s2 hr => ?_
  · obtain ⟨⟨oc, od, odt, osl⟩, ho, hc, n, hd⟩ := id hl
    have hc' : oc = .type "tuple" := hc
    have hd' : odt = .seq items n := hd
    subst hc' hd'
    have ho' := Heap.get?_push_of_some (setObj #[] 0 (.fresh 0 0 (!bt w))) ho
    have hl1 : (s.heap.push (setObj #[] 0 (.fresh 0 0 (!bt w)))).IsTuple l items := ⟨_, ho', rfl, n, rfl⟩
    have f1 := PySem.F.sub_tuple_set
    have f2 := PySem.F.sub_tuple_frozenset
    have f3 : (Value.type "tuple" == Value.type "dict") = false := by decide
    have lt := Heap.lt_size ho
    unfold Builtin.«set.__init__» noKeywords Builtin.Frozenset.updateFrom
    generalize hPI : pyIter = PI
    wp_walk
    subst hPI
    refine wpAny_pyIter_tuple hl1 (wpAny_bind (wpAny_runValue ?_))
    have sz : (s.heap.push (setObj #[] 0 (.fresh 0 0 (!bt w)))).objs.size = s.heap.objs.size + 1 := Heap.size_push _ _
    have g1 : ((s.heap.push (setObj #[] 0 (.fresh 0 0 (!bt w)))).push { cls := .type "tuple_iterator", data := .fields #[.ref l, .int 0 0] }).get? (s.heap.push (setObj #[] 0 (.fresh 0 0 (!bt w)))).objs.size = some { cls := .type "tuple_iterator", data := .fields #[.ref l, .int 0 0] } := Heap.get?_push_size _ rfl
    refine upd_loop hU (by rw [sz]; exact Nat.ne_of_lt (Nat.lt_succ_self _)) (Nat.ne_of_gt lt) (by rw [sz]; exact Nat.ne_of_lt (Nat.lt_succ_of_lt lt)) hI hN (by simp [hh]) (items.size - 0) 0 _ #[] 0 (.fresh 0 0 (!bt w)) rfl (Nat.zero_le _) ⟨_, g1, rfl, rfl⟩ ⟨_, Heap.get?_push_of_some _ ho', rfl, n, rfl⟩
      (S0.keep fun o q => Heap.get?_push_of_some _ q) (fun x hx => by simp at hx) fun es ep t h' tk k' S' m' => ?_
    refine wpAny_pure (wpAny_pure ⟨rfl, es, ep, t, h', tk, rfl, fun b o e => ?_, S', fun x => ?_⟩)
    · have lb := Heap.lt_size e
      exact k' b o (Nat.ne_of_lt lb) (by rw [sz]; exact Nat.ne_of_lt (Nat.lt_succ_of_lt lb)) (Heap.get?_push_of_some _ (Heap.get?_push_of_some _ e))
    · rw [m', List.drop_zero]
      simp
  · rcases r with e | (_ | _ | _ | v)
    · exact hr
    · exact hr.elim
    · exact hr.elim
    · exact hr.elim
    obtain ⟨rfl, es, ep, t, h', tk, rfl, k', S', m'⟩ := hr
    repeat (any_goals (first | assumption | wp_step))
    exact h es ep t h' tk k' S' m'
end
end NdS
namespace NdS
open PySem PyProof.Rows
theorem slot_next : Slot "set_iterator" "__next__" "set_iterator.__next__" :=
  .of (owner := "set_iterator") (n := "__next__") (by rw [typeLookup_type, builtinLookup_eq_fast]; kernel_rfl) (by decide +kernel) (by decide +kernel) (by decide +kernel) (by first | exact .inl (by decide +kernel) | exact .inr (by decide +kernel)) (by rw [isSubtype_type]; kernel_rfl)
theorem entry_next : entryFor table "set_iterator.__next__" = some Builtin.«set_iterator.__next__» := entryFor_of_tree (by kernel_rfl)
theorem args_next (a : Value) : argsOk "set_iterator.__next__" ⟨[a], []⟩ := by unfold argsOk; kernel_rfl
theorem entry_iter : entryFor table "set.__iter__" = some Builtin.«frozenset.__iter__» :=
  entryFor_alias (id' := "frozenset.__iter__") (by kernel_rfl) (by first | rfl | decide +kernel) (by decide +kernel) (by kernel_rfl)
abbrev itObj (f i : Nat) (a : Addr) (n ep : Nat) : Obj := { cls := .type "set_iterator", data := .fields #[rawInt f, rawInt i, .ref a, rawInt n, rawInt ep] }
def arrOf (w : World) (a : Addr) (ep : Nat) (es : Array (Int × Value)) : Array (Int × Value) := if bt w then pickOrder (w.params.setOrder a ep) es else es
theorem arr_perm {w : World} {a : Addr} {ep : Nat} {es : Array (Int × Value)} : (arrOf w a ep es).toList.Perm es.toList := walk_perm
theorem arr_size {w : World} {a : Addr} {ep : Nat} {es : Array (Int × Value)} : (arrOf w a ep es).size = es.size := by
  have := (arr_perm (w := w) (a := a) (ep := ep) (es := es)).length_eq
  rw [Array.length_toList, Array.length_toList] at this
  exact this
def Stand (w : World) (I a : Addr) (es : Array (Int × Value)) (ep : Nat) (t : SetTable) (i : Nat) (h : Heap) : Prop :=
  (∃ f, h.get? I = some (itObj f i a es.size ep) ∧ (bt w = false → SetTable.below t.place f = i)) ∧ SetS w h a es ep t
section
variable {prog : Program} {w : World} {A : Around} {E : Value → Shared → Prop} {s : Shared}
theorem iter_ok {a : Addr} {es : Array (Int × Value)} {ep : Nat} {t : SetTable} {Q : Value → Shared → Prop} (S : SetS w s.heap a es ep t) (h : Q (.ref s.heap.objs.size) { s with heap := s.heap.push (itObj 0 0 a es.size ep) }) :
    wpAny (model prog w) A (pyIter (.ref a)) Q E s := by
  refine wpAny_pyIter_slot S.ty PySem.F.slot_set_iter (wpAny_call_entry PySem.F.slot_set_iter S.ty entry_iter ?_ (PySem.F.args_set_iter_1 _))
  unfold Builtin.«frozenset.__iter__»
  refine wpAny_bind (m := Builtin.Frozenset.slot0 "__iter__" ⟨[.ref a], []⟩) (wpAny_of_eq (a := a) rfl ?_)
  unfold Builtin.Frozenset.sizeOf setEntries setDrawn setEpoch
  refine wpAny_bind (wpAny_bind (wpAny_bind (state_ok S (wpAny_pure (wpAny_pure ?_)))))
  refine wpAny_bind (wpAny_bind (state_ok S ?_))
  dsimp only
  refine wpAny_bind (byText_ok (wpAny_pure ?_))
  have hp := S.tab.plain
  have tail : wpAny (model prog w) A.in1 (do
      let first ← (pure (rawInt 0) : Sem Value)
      ret (← newFields "set_iterator" [first, rawInt 0, .ref a, rawInt es.size, rawInt (← (do return (← setState a).2.1))])) (fun fin s' => ∃ v, fin = .done (.ret v) ∧ ∃ T' r, s'.TypeIs v T' ∧ typeLookup (.type T') "__next__" = pure (some r) ∧ Q v s') E s := by
    refine wpAny_bind (wpAny_pure ?_)
    refine wpAny_bind (wpAny_bind (state_ok S (wpAny_pure ?_)))
    refine wpAny_bind (wpAny_newObj_type (wpAny_pure ⟨_, rfl, "set_iterator", _, ⟨_, Heap.get?_push_size _ rfl, rfl⟩, slot_next.lookup, h⟩))
  obtain ⟨mask, place, dummies, finger, led, moves, plain⟩ := t
  have hp' : plain = true := hp
  subst hp'
  cases hb : bt w with
  | true => exact tail
  | false => exact tail
theorem setNext_at {a : Addr} {es : Array (Int × Value)} {ep f i : Nat} {t : SetTable} {Q : Option (Value × Nat) → Shared → Prop} (S : SetS w s.heap a es ep t) (hf : bt w = false → SetTable.below t.place f = i)
    (h1 : ∀ (hi : i < es.size) f', (bt w = false → SetTable.below t.place f' = i + 1) → Q (some (((arrOf w a ep es)[i]'(by rw [arr_size]; exact hi)).2, f')) s) (h2 : es.size ≤ i → Q none s) : wpAny (model prog w) A (setNext a f i ep) Q E s := by
  unfold setNext
  refine wpAny_bind (state_ok S ?_)
  dsimp only
  refine wpAny_bind (byText_ok ?_)
  cases hb : bt w with
  | true =>
    rw [if_pos rfl, if_neg (by simp)]
    refine wpAny_bind (walk_ok S (wpAny_pure ?_))
    show Q (((arrOf w a ep es)[i]?).map fun e => (e.2, f)) s
    by_cases hi : i < es.size
    · rw [Array.getElem?_eq_getElem (by rw [arr_size]; exact hi)]
      exact h1 hi f (fun z => by rw [hb] at z; cases z)
    · rw [Array.getElem?_eq_none (by rw [arr_size]; omega)]
      exact h2 (by omega)
  | false =>
    have hl := S.led hb
    have hp := S.tab.plain
    have tail : wpAny (model prog w) A (pure (match es[SetTable.below t.place f]?, t.place[SetTable.below t.place f]? with
        | some (_, x), some j => some (x, j + 1)
        | _, _ => none) : Sem (Option (Value × Nat))) Q E s := by
      rw [hf hb]
      by_cases hi : i < es.size
      · have hi2 : i < t.place.size := by rw [S.tab.size]; exact hi
        rw [Array.getElem?_eq_getElem hi, Array.getElem?_eq_getElem hi2]
        refine wpAny_pure ?_
        have := h1 hi (t.place[i] + 1) (fun _ => below_next S.tab.rise hi2)
        have e : arrOf w a ep es = es := by unfold arrOf; rw [hb]; rfl
        simp only [e] at this
        exact this
      · rw [Array.getElem?_eq_none (by omega)]
        exact wpAny_pure (h2 (by omega))
    obtain ⟨mask, place, dummies, finger, led, moves, plain⟩ := t
    have hl' : led = true := hl
    have hp' : plain = true := hp
    subst hl' hp'
    exact wpAny_bind (m := (pure () : Sem Unit)) (wpAny_pure tail)
theorem next_item {I a : Addr} {es : Array (Int × Value)} {ep : Nat} {t : SetTable} {i : Nat} {Q : Option Value → Shared → Prop} (st : Stand w I a es ep t i s.heap) (ne : a ≠ I) (hi : i < es.size)
    (h : ∀ h', Stand w I a es ep t (i + 1) h' → Heap.SameBut I s.heap h' → Q (some ((arrOf w a ep es)[i]'(by rw [arr_size]; exact hi)).2) { s with heap := h' }) :
    wpAny (model prog w) A (pyNext (.ref I)) Q E s := by
  obtain ⟨⟨f, ho, hf⟩, S⟩ := st
  have T : s.TypeIs (.ref I) "set_iterator" := ⟨_, ho, rfl⟩
  unfold pyNext
  refine wpAny_bind (wpAny_attempt (wpAny_callSpecial?_slot (name := Str.ofString "__next__") T slot_next (wpAny_call_entry slot_next T entry_next ?_ (args_next _))))
  unfold Builtin.«set_iterator.__next__»
  refine wpAny_bind (m := slotArgs "__next__" 0 ⟨[.ref I], []⟩) (wpAny_of_eq (a := (Value.ref I, [])) rfl ?_)
  dsimp only
  refine wpAny_bind (wpAny_fieldsOf ho rfl ?_)
  show wpAny (model prog w) A.in1 (do
    if (((← setEntries a).size : Nat) : Int) != (es.size : Int) then
      rule "set_iterator.__next__.size-changed"
      setField (.ref I) 3 (rawInt (-1))
      raiseError "RuntimeError" "Set changed size during iteration"
    match ← setNext a (f : Int).toNat (i : Int).toNat (ep : Int).toNat with
    | some (x, next) =>
      setField (.ref I) 0 (rawInt next)
      setField (.ref I) 1 (rawInt ((i : Int) + 1))
      ret x
    | none => setField (.ref I) 2 .none; raiseNew (← newExc (.type "StopIteration") [])) _ _ _
  unfold setEntries
  refine wpAny_bind (wpAny_bind (state_ok S (wpAny_pure ?_)))
  rw [if_neg (by simp)]
  simp only [Int.toNat_natCast]
  refine wpAny_bind (setNext_at S hf (fun _ f' hf' => ?_) (fun z => absurd hi (by omega)))
  dsimp only
  refine wpAny_bind (wpAny_setField ho rfl (by simp) ?_)
  have g1 : (s.heap.update I (Obj.mapFields (·.setIfInBounds 0 (rawInt f')))).get? I = some (itObj f' i a es.size ep) := Heap.get?_update_self _ ho rfl
  refine wpAny_bind (wpAny_setField g1 rfl (by simp) (wpAny_pure ⟨_, rfl, wpAny_pure (h _ ⟨⟨f', ?_, hf'⟩, ?_⟩ ((Heap.SameBut.update ..).trans (Heap.SameBut.update ..)))⟩))
  · exact Heap.get?_update_self _ g1 rfl
  · refine S.keep fun o q => ?_
    exact ((Heap.SameBut.update _ _ _).2 a ne).trans (((Heap.SameBut.update _ _ _).2 a ne).trans q)
theorem next_end {I a : Addr} {es : Array (Int × Value)} {ep : Nat} {t : SetTable} {Q : Option Value → Shared → Prop} (hh : A.handled = none) (st : Stand w I a es ep t es.size s.heap)
    (h : ∀ h', Heap.ExtBut I s.heap h' → Q none { s with heap := h' }) : wpAny (model prog w) A (pyNext (.ref I)) Q E s := by
  obtain ⟨⟨f, ho, hf⟩, S⟩ := st
  have T : s.TypeIs (.ref I) "set_iterator" := ⟨_, ho, rfl⟩
  unfold pyNext
  refine wpAny_bind (wpAny_attempt (wpAny_callSpecial?_slot (name := Str.ofString "__next__") T slot_next (wpAny_call_entry slot_next T entry_next ?_ (args_next _))))
  unfold Builtin.«set_iterator.__next__»
  refine wpAny_bind (m := slotArgs "__next__" 0 ⟨[.ref I], []⟩) (wpAny_of_eq (a := (Value.ref I, [])) rfl ?_)
  dsimp only
  refine wpAny_bind (wpAny_fieldsOf ho rfl ?_)
  show wpAny (model prog w) A.in1 (do
    if (((← setEntries a).size : Nat) : Int) != (es.size : Int) then
      rule "set_iterator.__next__.size-changed"
      setField (.ref I) 3 (rawInt (-1))
      raiseError "RuntimeError" "Set changed size during iteration"
    match ← setNext a (f : Int).toNat (es.size : Int).toNat (ep : Int).toNat with
    | some (x, next) =>
      setField (.ref I) 0 (rawInt next)
      setField (.ref I) 1 (rawInt ((es.size : Int) + 1))
      ret x
    | none => setField (.ref I) 2 .none; raiseNew (← newExc (.type "StopIteration") [])) _ _ _
  unfold setEntries
  refine wpAny_bind (wpAny_bind (state_ok S (wpAny_pure ?_)))
  rw [if_neg (by simp)]
  simp only [Int.toNat_natCast]
  refine wpAny_bind (setNext_at S hf (fun z _ _ => absurd z (Nat.lt_irrefl _)) (fun _ => ?_))
  dsimp only
  refine wpAny_bind (wpAny_setField ho rfl (by simp) (wpAny_bind ?_))
  simp only [newExc, newTuple]
  refine wpAny_bind (wpAny_newObj_type ?_ (by size_fits))
  refine wpAny_bind (m := firstArgMember _ _) (wpAny_of_eq (a := Value.none) (by first | rfl | (simp only [firstArgMember]; rfl)) (wpAny_newObj_type ?_ (by size_fits)))
  simp only [raiseNew]
  refine wpAny_bind (wpAny_handled ?_)
  rw [show A.in1.handled = none from hh]
  refine wpAny_bind (wpAny_pure (wpAny_throw ?_))
  refine wpAny_bind (wpAny_isInstance (T := "StopIteration") (b := true) ⟨_, Heap.get?_push_size _ rfl, rfl⟩ isSubtype_stop ?_)
  exact wpAny_pure (h _ (((Heap.SameBut.update ..).extBut.push _).push _))
end
end NdS
namespace NdS
open PySem PyProof.Rows
theorem slot_self : Slot "set_iterator" "__iter__" "set_iterator.__iter__" :=
  .of (owner := "set_iterator") (n := "__iter__") (by rw [typeLookup_type, builtinLookup_eq_fast]; kernel_rfl) (by decide +kernel) (by decide +kernel) (by decide +kernel) (by first | exact .inl (by decide +kernel) | exact .inr (by decide +kernel)) (by rw [isSubtype_type]; kernel_rfl)
theorem entry_self : entryFor table "set_iterator.__iter__" = some Builtin.«dict_keyiterator.__iter__» :=
  entryFor_alias (id' := "dict_keyiterator.__iter__") (by kernel_rfl) (by first | rfl | decide +kernel) (by decide +kernel) (by kernel_rfl)
theorem args_self (a : Value) : argsOk "set_iterator.__iter__" ⟨[a], []⟩ := by unfold argsOk; kernel_rfl
section
variable {prog : Program} {w : World} {A : Around} {E : Value → Shared → Prop} {s : Shared}
theorem walks_set (hh : A.handled = none) {I a : Addr} (ne : a ≠ I) (es : Array (Int × Value)) (ep : Nat) (t : SetTable) :
    Walks prog w A I [I, a] [I] es.size (fun i v => ∃ e, (arrOf w a ep es)[i]? = some e ∧ v = e.2) (fun i h => Stand w I a es ep t i h) where
  sub := fun b hb => by simp at hb; simp [hb]
  frame := fun i h h' ⟨⟨f, ho, hf⟩, S⟩ hk => ⟨⟨f, hk I (by simp) _ ho, hf⟩, S.keep fun o q => hk a (by simp) o q⟩
  item := fun i s Q E hi st hQ => next_item st ne hi fun h' st' sb => hQ _ h' s.toks ⟨_, Array.getElem?_eq_getElem (by rw [arr_size]; exact hi), rfl⟩ st' fun b o hb e => (sb.2 b (fun z => hb (by simp [z]))).trans e
  done := fun s Q E st hQ => next_end hh st fun h' x => hQ h' s.toks fun b o hb e => x b o (fun z => hb (by simp [z])) e
  self := fun i s Q E st hQ => by
    obtain ⟨⟨f, ho, hf⟩, S⟩ := st
    have T : s.TypeIs (.ref I) "set_iterator" := ⟨_, ho, rfl⟩
    refine wpAny_pyIter_slot T slot_self (wpAny_call_entry slot_self T entry_self ?_ (args_self _))
    exact wpAny_pure ⟨_, rfl, "set_iterator", _, T, slot_next.lookup, hQ⟩
theorem hint_set {r : Addr} {Q : Bool → Shared → Prop} (hT : s.TypeIs (.ref r) "set") (h : Q false s) : wpAny (model prog w) A (Builtin.List.listLengthHint (.ref r)) Q E s := by
  unfold Builtin.List.listLengthHint
  refine wpAny_bind (wpAny_specialOf hT PySem.F.slot_set_len.lookup ?_)
  generalize hid : ("set.__len__" : String) = id0
  wp_delta
  rw [show splitId id0 = some ("set", "__len__") from by subst hid; decide +kernel]
  subst hid
  refine wpAny_bind (wpAny_isInstance (T := "set") (b := true) hT sub_set_set ?_)
  refine wpAny_ite_split (fun z => absurd z (by decide)) (fun _ => wpAny_ite_split (fun _ => ?_) (fun z => absurd (by decide +kernel) z))
  exact wpAny_bind (wpAny_typeOf hT (wpAny_pure h))
theorem src_set (a : Addr) (es : Array (Int × Value)) (ep : Nat) (t : SetTable) : PySem.W.KdlSrc prog w "set" a a es.size (fun i v => ∃ e, (arrOf w a ep es)[i]? = some e ∧ v = e.2) (fun h => SetS w h a es ep t) where
  type := fun s S => S.ty
  there := fun h S => ⟨Heap.lt_size S.obj, Heap.lt_size S.obj⟩
  keep := fun h h' S k => S.keep fun o q => k a (.inl rfl) o q
  notList := by decide
  notTuple := by decide
  hint := fun A E s Q S h => hint_set S.ty h
  iter := fun A s hh S => by
    have lt := Heap.lt_size S.obj
    refine ⟨itObj 0 0 a es.size ep, fun i h => Stand w s.heap.objs.size a es ep t i h, fun E Q h => iter_ok S h, ?_, ⟨⟨0, Heap.get?_push_size _ rfl, fun _ => below_first S.tab.rise⟩, S.keep fun o q => Heap.get?_push_of_some _ q⟩⟩
    exact walks_set hh (Nat.ne_of_lt lt) es ep t
theorem ints_of_items {arr : Array (Int × Value)} (he : ∀ e ∈ arr.toList, isEnt e) {acc : Array Value} (h : ItemsOf (fun i v => ∃ e, arr[i]? = some e ∧ v = e.2) acc arr.size) : IntsAre acc.toList (arr.toList.map keyOf) := by
  have key : ∀ (l : List (Int × Value)) (vs : List Value), (∀ e ∈ l, isEnt e) → vs.length = l.length → (∀ (j : Nat) v, vs[j]? = some v → ∃ e, l[j]? = some e ∧ v = e.2) → IntsAre vs (l.map keyOf) := by
    intro l
    induction l with
    | nil =>
      intro vs _ hl _
      cases vs with
      | nil => exact .nil
      | cons v vs => cases hl
    | cons e l ih =>
      intro vs he hl hv
      cases vs with
      | nil => cases hl
      | cons v vs =>
        obtain ⟨k, tk, rfl⟩ := he e (List.mem_cons_self ..)
        obtain ⟨e', h1, h2⟩ := hv 0 v rfl
        cases h1
        subst h2
        exact .cons k tk (ih vs (fun e hm => he e (List.mem_cons_of_mem _ hm)) (by simpa using hl) fun j u hj => hv (j + 1) u (by simpa using hj))
  refine key arr.toList acc.toList he (by rw [Array.length_toList, Array.length_toList]; exact h.1) fun j v hj => ?_
  obtain ⟨e, h1, h2⟩ := h.2 j v (by rw [← Array.getElem?_toList]; exact hj)
  exact ⟨e, by rw [Array.getElem?_toList]; exact h1, h2⟩
theorem sorted_set {a : Addr} {es : Array (Int × Value)} {ep : Nat} {t : SetTable} {Q : Value → Shared → Prop} (hh : A.handled = none) (S : SetS w s.heap a es ep t)
    (h : ∀ (p : Addr) (out : Array Value) (ns : List Int) (n : Nat) (h1 h' : Heap) (tk : Nat), IntsAre out.toList ns → ns.Perm (keys es) → ns.Pairwise (· ≤ ·) → (∀ b o, s.heap.get? b = some o → h1.get? b = some o) → h1.objs.size ≤ p → (∀ b o, h1.get? b = some o → h'.get? b = some o) → h'.get? p = some (seqObj "list" out n) →
      Q (.ref p) { s with heap := h', toks := tk }) : wpAny (model prog w) A (call (.builtin "sorted") [.ref a]) Q E s := by
  refine Calls.call_function_entry kind_sorted plain_sorted entry_sorted (args_sorted1 _) ?_
  unfold Builtin.«sorted»
  refine wpAny_bind (m := checkCount "sorted" 1 1 _) (wpAny_pure (wpAny_bind (PySem.W.kdu_collect (A := A.in1) (src_set a es ep t) hh S (small S.few) fun h1 tk acc k1 hacc => ?_)))
  have hacc' : ItemsOf (fun i v => ∃ e, (arrOf w a ep es)[i]? = some e ∧ v = e.2) acc (arrOf w a ep es).size := by rw [arr_size]; exact hacc
  have hI := ints_of_items (fun e he => S.ent e (arr_perm.mem_iff.mp he)) hacc'
  have len : acc.toList.length < 64 := by rw [Array.length_toList, hacc.1]; exact S.few
  refine wpAny_bind (wpAny_newList ?_ (Nat.le_trans (Nat.le_of_lt len) (by rw [sizeLine_eq]; decide)))
  have g1 : (h1.push (seqObj "list" acc.toList.toArray 0)).get? h1.objs.size = some (seqObj "list" acc.toList.toArray 0) := Heap.get?_push_size _ rfl
  refine wpAny_bind (wpAny_holding (wpAny_call_entry slot_list_sort ⟨_, g1, rfl⟩ entry_list_sort (list_sort_tree (s := { s with heap := h1.push (seqObj "list" acc.toList.toArray 0), toks := tk }) g1 hI len fun out ns' a1 a2 a3 => ⟨_, rfl, ?_⟩) (args_list_sort _)))
  refine wpAny_pure ⟨_, rfl, ?_⟩
  have g2 := get?_update_seq g1 (fun _ => #[])
  have g3 := Heap.get?_push_of_some (seqObj "list" #[] 0) (Heap.get?_push_of_some (seqObj "tuple" acc.toList.toArray 0) g2)
  have g4 := get?_update_seq g3 (fun _ => out)
  refine h h1.objs.size out ns' _ h1 _ tk a1 (a2.trans (arr_perm.map keyOf)) a3 k1 (Nat.le_refl _) (fun b o e => ?_) g4
  have nb : b ≠ h1.objs.size := Nat.ne_of_lt (Heap.lt_size e)
  exact ((Heap.SameBut.update _ _ _).2 b nb).trans (Heap.get?_push_of_some _ (Heap.get?_push_of_some _ (((Heap.SameBut.update _ _ _).2 b nb).trans (Heap.get?_push_of_some _ e))))
end
end NdS
namespace Nd
open PySem PySem.Spec PyProof.Rows L2 NdS
def IsSet (w : World) (a : Addr) (ks : List Int) (h : Heap) : Prop := ∃ es ep t, SetS w h a es ep t ∧ ∀ x, x ∈ keys es ↔ x ∈ ks
abbrev SetO (w : World) (a : Addr) (ks : List Int) : HO := .ext (IsSet w a ks)
theorem setO_ok {P : Program} {w w' : World} {H : Hp} {h : Heap} {a : Addr} {ks : List Int} (e : IsSet w a ks h) : ObjOk P w' H h a (SetO w a ks) :=
  ⟨e, let ⟨_, _, _, S, _⟩ := e; ⟨_, S.obj⟩, fun h1 h2 ⟨es, ep, t, S, m⟩ k => ⟨es, ep, t, S.keep fun o q => k o q, m⟩⟩
theorem isSet_of {P : Program} {w : World} {H : Hp} {h : Heap} {a : Addr} {ks : List Int} (ok : HOk P w H h) (e : H a = some (SetO w a ks)) : IsSet w a ks h :=
  (show ObjOk P w H h a (SetO w a ks) from ok a _ e).1
section
variable {X : Cx}
def rSet (w : World) (K : PySem.W.Frag) : List V → Hp → VK → Prop := fun xs H Q => ∃ (a : Addr) (ns U : List Int), xs = [.ref a] ∧ SqT K H a (ns.map V.int) ∧ U.length ≤ 62 ∧ Among U ns ∧ ∀ p, H p = none → Q (.ref p) (upd H p (SetO w p ns))
theorem call_set (hc : X.calm = true) : CallR X (.type "set") (rSet X.w X.K) := by
  intro pins s σ H xs us Q I r h
  obtain ⟨a, ns, U, rfl, hs, hU, hN, q⟩ := h
  obtain ⟨u, rfl, ru⟩ := vals1 r
  cases ru
  obtain ⟨its, rv, ⟨o, e, hcl, n, hd⟩, _⟩ := I.tuple hs
  refine set_tup hU (I.ok.hd hc) ⟨o, e, hcl, n, hd⟩ (by simpa using intsAre_of rv) hN fun es ep t h' tk k S m => ?_
  exact ⟨.ref s.heap.objs.size, _, I.laid k (Nat.le_refl _) (setO_ok ⟨es, ep, t, S, m⟩), rfl, q _ (I.hok.fresh (Nat.le_refl _))⟩
def rOr (w : World) : R2 := fun x y H Q => ∃ (a b : Addr) (ks ls U : List Int), x = .ref a ∧ y = .ref b ∧ a ≠ b ∧ H a = some (SetO w a ks) ∧ H b = some (SetO w b ls) ∧ U.length ≤ 62 ∧ Among U ks ∧ Among U ls ∧ ∀ p, H p = none → Q (.ref p) (upd H p (SetO w p (ks ++ ls)))
theorem op_setOr : OpR X (binaryOp .BitOr) (rOr X.w) := by
  intro pins s σ H x y v u Q I rx ry h
  obtain ⟨a, b, ks, ls, U, rfl, rfl, ne, ha, hb, hU, h1, h2, q⟩ := h
  cases rx
  cases ry
  obtain ⟨ea, pa, ta, Sa, ma⟩ := isSet_of I.hok ha
  obtain ⟨eb, pb, tb, Sb, mb⟩ := isSet_of I.hok hb
  refine or_ok hU ne Sa Sb (fun x hx => h1 x ((ma x).mp hx)) (fun x hx => h2 x ((mb x).mp hx)) fun es ep t h' k S m => ?_
  exact ⟨.ref s.heap.objs.size, _, I.laid (t' := s.toks) k (Nat.le_refl _) (setO_ok ⟨es, ep, t, S, fun x => by rw [m, ma, mb, List.mem_append]⟩), rfl, q _ (I.hok.fresh (Nat.le_refl _))⟩
theorem vals_of_ints : ∀ {vs : List Value} {ns : List Int}, IntsAre vs ns → Vals (ns.map V.int) vs
  | _, _, .nil => .nil
  | _, _, .cons n t h => .cons ⟨t, rfl⟩ (vals_of_ints h)
def rSorted (w : World) : List V → Hp → VK → Prop := fun xs H Q => ∃ (a : Addr) (ks : List Int), xs = [.ref a] ∧ H a = some (SetO w a ks) ∧ ∀ (p : Addr) (ns : List Int), H p = none → ns.Nodup → ns.Pairwise (· ≤ ·) → (∀ x, x ∈ ns ↔ x ∈ ks) → Q (.ref p) (upd H p (.lst (ns.map V.int)))
theorem call_sortedS (hc : X.calm = true) : CallR X (.builtin "sorted") (rSorted X.w) := by
  intro pins s σ H xs us Q I r h
  obtain ⟨a, ks, rfl, ha, q⟩ := h
  obtain ⟨u, rfl, ru⟩ := vals1 r
  cases ru
  obtain ⟨es, ep, t, S, m⟩ := isSet_of I.hok ha
  refine sorted_set (I.ok.hd hc) S fun p out ns n h1 h' tk hi hp hs k1 hge k2 hg => ?_
  have I1 : Inv X pins σ H { s with heap := h1, toks := tk } := I.kept k1
  have nd : ns.Nodup := hp.nodup_iff.mpr S.nd
  have hl : ns.length < 64 := by
    rw [hp.length_eq, List.length_map, Array.length_toList]
    exact S.few
  refine ⟨.ref p, upd H p (.lst (ns.map V.int)), I1.laid (t' := tk) k2 hge ⟨by rw [List.length_map, sizeLine_eq]; omega, out.toList, n, vals_of_ints hi, by simpa using hg⟩, rfl, q p ns (I1.hok.fresh hge) nd hs fun x => by rw [hp.mem_iff, m]⟩
end
end Nd
namespace Nd
open PySem L2
def SameB (d : Addr) (H H' : Hp) : Prop := ∀ b o, b ≠ d → H b = some o → H' b = some o
theorem SameB.refl (d : Addr) (H : Hp) : SameB d H H := fun _ _ _ h => h
theorem SameB.trans {d : Addr} {H H1 H2 : Hp} (a : SameB d H H1) (b : SameB d H1 H2) : SameB d H H2 := fun c o n h => b c o n (a c o n h)
theorem SameB.of {d : Addr} {H H' : Hp} (a : Same H H') : SameB d H H' := fun b o _ h => a b o h
theorem SameB.upd {d : Addr} {H : Hp} {o : HO} : SameB d H (upd H d o) := fun b o n h => by rw [upd_ne n]; exact h
theorem SameB.free {d : Addr} {H H' : Hp} (a : SameB d H H') {l : Addr} (n : l ≠ d) (h : H' l = none) : H l = none := by
  cases q : H l with
  | none => rfl
  | some o => rw [a l o n q] at h; cases h
theorem Same.tup {K : PySem.W.Frag} {H H' : Hp} {a : Addr} {xs : List V} (e : Same H H') (h : SqT K H a xs) : SqT K H' a xs := by
  rcases h with (h | ⟨o, h⟩) | h
  · exact .inl (.inl (e _ _ h))
  · exact .inl (.inr ⟨o, e _ _ h⟩)
  · exact .inr h
theorem small {n : Nat} (h : n ≤ 1000) : n ≤ sizeLine := Nat.le_of_lt (small1000 h)
theorem sz2 {n : Nat} (h : n ≤ 1000000) : n ≤ sizeLine := by rw [sizeLine_eq]; omega
theorem atI_in {α : Type} {xs : List α} {i : Int} (h0 : 0 ≤ i) (h : i < xs.length) : ∃ v, atI xs i = some v ∧ v ∈ xs := by
  have hk : i.toNat < xs.length := by omega
  have ek : i = ((i.toNat : Nat) : Int) := by omega
  have q : atI xs ((i.toNat : Nat) : Int) = some xs[i.toNat] := atI_nat (by simp [hk])
  rw [← ek] at q
  exact ⟨_, q, List.getElem_mem hk⟩
theorem emod_in (a b : Int) (h : 0 < b) : 0 ≤ a % b ∧ a % b < b := ⟨Int.emod_nonneg _ (by omega), Int.emod_lt_of_pos _ h⟩
def Rising (h : Int) (ns : List Int) : Prop := ns.Pairwise (· < ·) ∧ ∀ x ∈ ns, 0 ≤ x ∧ x < h
theorem Rising.nil (h : Int) : Rising h [] := ⟨List.Pairwise.nil, fun x hx => by cases hx⟩
theorem Rising.more {h : Int} {ns : List Int} (r : Rising h ns) (h0 : 0 ≤ h) : Rising (h + 1) (ns ++ [h]) :=
  ⟨List.pairwise_append.mpr ⟨r.1, List.pairwise_singleton _ _, fun a ha b hb => by rw [List.mem_singleton.mp hb]; exact (r.2 a ha).2⟩, fun x hx => by
    rcases List.mem_append.mp hx with z | z
    · have := r.2 x z; omega
    · have := List.mem_singleton.mp z; omega⟩
theorem Rising.up {h h' : Int} {ns : List Int} (r : Rising h ns) (l : h ≤ h') : Rising h' ns := ⟨r.1, fun x hx => by have := r.2 x hx; omega⟩
def Draw (H : Hp) (d : Addr) (c k : Int) (f : Bool) : Prop := H d = some (.lst [.int c, .int k, .bl f])
def spDraws : Sp := fun vs H Q _ => ∃ c : Int, vs = [.int c] ∧ ∀ (p : Addr) (f : Bool) (H' : Hp), H p = none → Draw H' p c 0 f → Same H H' → Q (.ref p) H'
def spNext : Sp := fun vs H Q _ => ∃ (d : Addr) (c k : Int) (f : Bool), vs = [.ref d] ∧ Draw H d c k f ∧ 0 ≤ k ∧ k ≤ 1000000 ∧ ∀ (r c' : Int) (H' : Hp), Draw H' d c' (k + 1) f → SameB d H H' → Q (.int r) H'
def spWord : Sp := fun vs H Q _ => ∃ (d : Addr) (h c k : Int) (f : Bool), vs = [.ref d, .int h] ∧ Draw H d c k f ∧ 0 ≤ k ∧ k ≤ 500000 ∧ 0 ≤ h ∧ h ≤ 60 ∧
  ∀ (r : Addr) (ns : List Int) (c' k' : Int) (H' : Hp), H r = none → H' r = some (.tup (ns.map V.int)) → ns.length ≤ 60 → Rising h ns → Draw H' d c' k' f → k ≤ k' → k' ≤ k + 100 → SameB d H H' → Q (.ref r) H'
def Wd (H : Hp) (r : Addr) : Prop := ∃ ns : List Int, (ns.length ≤ 60 ∧ Rising 60 ns) ∧ H r = some (.tup (ns.map V.int))
theorem flat_ints (ms : List Int) : (ms.map V.int).all flatV = true := by
  rw [List.all_map]
  exact List.all_eq_true.mpr fun _ _ => rfl
theorem mem_int {x : V} {ns : List Int} (h : x ∈ ns.map V.int) : ∃ i, i ∈ ns ∧ x = .int i := by
  obtain ⟨i, hi, e⟩ := List.mem_map.mp h
  exact ⟨i, hi, e.symm⟩
theorem Draw.same {H H' : Hp} {d : Addr} {c k : Int} {f : Bool} (h : Draw H d c k f) (s : Same H H') : Draw H' d c k f := s _ _ h
theorem mods (pk : Int) : ∃ m : Int, atI [V.int 2, V.int 2, V.int 4, V.int 1] (pk % 4) = some (.int m) ∧ 0 < m := by
  have h := emod_in pk 4 (by decide)
  obtain ⟨v, e, m⟩ := atI_in (xs := [V.int 2, V.int 2, V.int 4, V.int 1]) h.1 (by simpa using h.2)
  rw [e]
  simp only [List.mem_cons, List.not_mem_nil, or_false] at m
  rcases m with rfl | rfl | rfl | rfl
  · exact ⟨2, rfl, by decide⟩
  · exact ⟨2, rfl, by decide⟩
  · exact ⟨4, rfl, by decide⟩
  · exact ⟨1, rfl, by decide⟩
theorem Wd.same {H H' : Hp} {r : Addr} (h : Wd H r) (s : Same H H') : Wd H' r := let ⟨ns, a, b⟩ := h; ⟨ns, a, s _ _ b⟩
theorem Wd.sameB {H H' : Hp} {r d : Addr} {c k : Int} {f : Bool} (h : Wd H r) (hd : Draw H d c k f) (s : SameB d H H') : Wd H' r := let ⟨ns, a, b⟩ := h; ⟨ns, a, s _ _ (ne_of b hd (by intro z; cases z)) b⟩
theorem Wd.upd {H : Hp} {r l : Addr} {xs ys : List V} (h : Wd H r) (hl : H l = some (.lst xs)) : Wd (upd H l (.lst ys)) r := let ⟨ns, a, b⟩ := h; ⟨ns, a, by rw [upd_ne (ne_of b hl (by intro z; cases z))]; exact b⟩
theorem draw_ne {H : Hp} {d l : Addr} {c k : Int} {f : Bool} (h : Draw H d c k f) (n : H l = none) : l ≠ d := fun z => by
  rw [z] at n
  unfold Draw at h
  rw [n] at h
  cases h
def cutI (xs : List Int) (lo hi : Option Int) : List Int := (xs.drop (HT.sIx xs.length 0 lo)).take (HT.sIx xs.length xs.length hi - HT.sIx xs.length 0 lo)
theorem cut_ints (xs : List Int) (lo hi : Option Int) : cutV (xs.map V.int) lo hi = (cutI xs lo hi).map V.int := by
  unfold cutV cutI
  rw [List.length_map, List.map_take, List.map_drop]
theorem cutI_sub (xs : List Int) (lo hi : Option Int) : (cutI xs lo hi).Sublist xs := (List.take_sublist _ _).trans (List.drop_sublist _ _)
theorem Rising.sub {h : Int} {xs ys : List Int} (r : Rising h xs) (s : ys.Sublist xs) : Rising h ys := ⟨List.Pairwise.sublist s r.1, fun x hx => r.2 x (s.subset hx)⟩
theorem sl_word {K : PySem.W.Frag} {H : Hp} {r : Addr} {lo hi : Option Int} {Q : VK} (h : Wd H r) (q : ∀ (z : Addr) (H' : Hp), Same H H' → Wd H' z → Q (.ref z) H') : rSlTA K (.ref r) lo hi H Q := by
  obtain ⟨ns, hn, e⟩ := h
  refine ⟨r, _, rfl, SqT.of e, q r H (Same.refl _) ⟨ns, hn, e⟩, fun p hp => ?_⟩
  rw [cut_ints]
  have s := cutI_sub ns lo hi
  exact q p _ (same_new hp _) ⟨cutI ns lo hi, ⟨Nat.le_trans s.length_le hn.1, hn.2.sub s⟩, upd_same⟩
def Cards (H : Hp) (rs : List Addr) (c : Addr → List Int) : Prop := ∀ r ∈ rs, ((c r).length ≤ 60 ∧ Rising 60 (c r)) ∧ H r = some (.tup ((c r).map V.int))
theorem cards_of {H : Hp} {rs : List Addr} (h : ∀ r ∈ rs, Wd H r) : ∃ c, Cards H rs c := by
  refine ⟨fun r => open Classical in if z : Wd H r then z.choose else [], fun r hr => ?_⟩
  have z := h r hr
  simp only [dif_pos z]
  exact z.choose_spec
def wordD (ns : List Int) : PyData := .tuple (ns.map PyData.int)
theorem depth_word (ns : List Int) : (wordD ns).depth ≤ 1 := by
  have : (wordD ns).depth ≤ PyData.depthAll (ns.map PyData.int) + 1 := by simp [wordD, PyData.depth]
  rw [depth_ints] at this
  exact this
def U60 : List Int := (List.range 60).map fun i : Nat => (i : Int)
theorem mem_U60 {x : Int} (h0 : 0 ≤ x) (h1 : x < 60) : x ∈ U60 := List.mem_map.mpr ⟨x.toNat, List.mem_range.mpr (by omega), by omega⟩
theorem cat_of {K : PySem.W.Frag} {H : Hp} {y z : Addr} {ny nz : List Int} {Q : VK} (ey : H y = some (.tup (ny.map V.int))) (ez : H z = some (.tup (nz.map V.int))) (ly : ny.length ≤ 60) (lz : nz.length ≤ 60)
    (k : ∀ (t : Addr) (ts : List Int) (H' : Hp), Same H H' → H' t = some (.tup (ts.map V.int)) → (∀ x ∈ ts, x ∈ ny ∨ x ∈ nz) → Q (.ref t) H') : rCatX K (.ref y) (.ref z) H Q :=
  ⟨y, z, _, _, rfl, rfl, SqT.of ey, SqT.of ez, by rw [List.length_map, List.length_map]; exact small (by omega), fun _ => k z nz H (Same.refl _) ez fun _ h => .inr h, fun _ => k y ny H (Same.refl _) ey fun _ h => .inl h, fun p np => by
    rw [← List.map_append]
    exact k p (ny ++ nz) _ (same_new np _) upd_same fun x hx => List.mem_append.mp hx⟩
def spCode : Sp := fun vs H Q _ => ∃ (d : Addr) (h m c k : Int) (f : Bool), vs = [.ref d, .int h, .int m] ∧ Draw H d c k f ∧ 0 ≤ k ∧ k ≤ 20000 ∧ 0 ≤ h ∧ h ≤ 60 ∧ 0 ≤ m ∧ m ≤ 60 ∧
  ∀ (l : Addr) (rs : List Addr) (c' k' : Int) (H' : Hp), H l = none → H' l = some (.lst (rs.map V.ref)) → (rs.length : Int) ≤ m → (∀ r ∈ rs, Wd H' r) → Draw H' d c' k' f → k ≤ k' → k' ≤ k + 10000 → SameB d H H' → Q (.ref l) H'
theorem ref_at {rs : List Addr} {i : Nat} {x : V} (h : (rs.map V.ref)[i]? = some x) : ∃ r, x = .ref r ∧ rs[i]? = some r ∧ r ∈ rs := by
  rw [List.getElem?_map] at h
  cases e : rs[i]? with
  | none => rw [e] at h; cases h
  | some r => rw [e] at h; cases h; exact ⟨r, rfl, rfl, List.mem_of_getElem? e⟩
def codeD (c : Addr → List Int) (rs : List Addr) : PyData := .list (rs.map fun r => wordD (c r))
theorem Cards.same {H H' : Hp} {rs : List Addr} {c : Addr → List Int} (h : Cards H rs c) (s : Same H H') : Cards H' rs c := fun r hr => ⟨(h r hr).1, s _ _ (h r hr).2⟩
theorem Cards.sq {K : PySem.W.Frag} {H : Hp} {rs : List Addr} {c : Addr → List Int} (h : Cards H rs c) : ∀ r ∈ rs, SqT K H r ((c r).map V.int) ∧ (c r).length ≤ 60 := fun r hr => ⟨SqT.of (h r hr).2, (h r hr).1.1⟩
theorem rd_code {K : PySem.W.Frag} {H : Hp} {l : Addr} {rs : List Addr} {c : Addr → List Int} (e : H l = some (.lst (rs.map V.ref))) (h : Cards H rs c) : RdV K H (.ref l) (codeD c rs) :=
  .lst (SqL.of e) (RdVs.of_map rs fun r hr => .tup (SqT.of (h r hr).2) (RdVs.ints _))
theorem depth_code (c : Addr → List Int) (rs : List Addr) : (codeD c rs).depth ≤ 60 := by
  have : PyData.depthAll (rs.map fun r => wordD (c r)) ≤ 1 := depthAll_le fun x hx => by
    obtain ⟨r, _, rfl⟩ := List.mem_map.mp hx
    exact depth_word _
  simp only [codeD, PyData.depth]
  omega
theorem eqD_nil (TD : List PyData) : eqD (.list TD) (.list []) = TD.isEmpty := by cases TD <;> simp [eqD, eqDs]
theorem rising_eq : ∀ {l1 l2 : List Int}, l1.Pairwise (· < ·) → l2.Pairwise (· < ·) → (∀ x, x ∈ l1 ↔ x ∈ l2) → l1 = l2
  | [], [], _, _, _ => rfl
  | [], b :: l, _, _, h => by have := (h b).mpr List.mem_cons_self; cases this
  | a :: l, [], _, _, h => by have := (h a).mp List.mem_cons_self; cases this
  | a :: l1, b :: l2, p1, p2, h => by
    obtain ⟨h1, q1⟩ := List.pairwise_cons.mp p1
    obtain ⟨h2, q2⟩ := List.pairwise_cons.mp p2
    have e : a = b := by
      rcases List.mem_cons.mp ((h a).mp List.mem_cons_self) with z | z
      · exact z
      · rcases List.mem_cons.mp ((h b).mpr List.mem_cons_self) with y | y
        · exact y.symm
        · have := h1 b y; have := h2 a z; omega
    subst e
    rw [rising_eq q1 q2 fun x => ⟨fun hx => ?_, fun hx => ?_⟩]
    · rcases List.mem_cons.mp ((h x).mp (List.mem_cons_of_mem _ hx)) with z | z
      · have := h1 x hx; omega
      · exact z
    · rcases List.mem_cons.mp ((h x).mpr (List.mem_cons_of_mem _ hx)) with z | z
      · have := h2 x hx; omega
      · exact z
def spLaw (K : PySem.W.Frag) : Sp := fun vs H Q _ => ∃ (a : Addr) (ns : List Int), vs = [.ref a] ∧ SqL K H a (ns.map V.int) ∧ ns.length ≤ 63 ∧ ∀ H', Q (.bl true) H'
theorem among {ns : List Int} (r : Rising 60 ns) : NdS.Among U60 ns := fun x hx => mem_U60 (r.2 x hx).1 (r.2 x hx).2
def spTog (K : PySem.W.Frag) : Sp := fun vs H Q _ => ∃ (a b : Addr) (ns ms : List Int), vs = [.ref a, .ref b] ∧ SqT K H a (ns.map V.int) ∧ SqT K H b (ms.map V.int) ∧ Rising 60 ns ∧ Rising 60 ms ∧
  ∀ (r : Addr) (ts : List Int) (H' : Hp), H r = none → H' r = some (.tup (ts.map V.int)) → ts.Nodup → ts.Pairwise (· ≤ ·) → (∀ x, x ∈ ts ↔ x ∈ ns ++ ms) → Same H H' → Q (.ref r) H'
def sideT (b : Bool) : Str := if b = true then "back" else "front"
def Ps (H : Hp) (p : Addr) : Prop := ∃ n b, H p = some (.tup [.ref n, .str (sideT b)]) ∧ Wd H n
theorem Ps.same {H H' : Hp} {p : Addr} (h : Ps H p) (s : Same H H') : Ps H' p := let ⟨n, b, e, w⟩ := h; ⟨n, b, s _ _ e, w.same s⟩
theorem Ps.sameB {H H' : Hp} {p d : Addr} {c k : Int} {f : Bool} (h : Ps H p) (hd : Draw H d c k f) (s : SameB d H H') : Ps H' p := let ⟨n, b, e, w⟩ := h; ⟨n, b, s _ _ (ne_of e hd (by intro z; cases z)) e, w.sameB hd s⟩
theorem Ps.upd {H : Hp} {p l : Addr} {xs ys : List V} (h : Ps H p) (hl : H l = some (.lst xs)) : Ps (upd H l (.lst ys)) p := let ⟨n, b, e, w⟩ := h; ⟨n, b, by rw [upd_ne (ne_of e hl (by intro z; cases z))]; exact e, w.upd hl⟩
def Passes4 (H : Hp) (ps : List Addr) (nn : Addr → Addr) (nd : Addr → List Int) (bk : Addr → Bool) : Prop := ∀ p ∈ ps, H p = some (.tup [.ref (nn p), .str (sideT (bk p))]) ∧ ((nd p).length ≤ 60 ∧ Rising 60 (nd p)) ∧ H (nn p) = some (.tup ((nd p).map V.int))
theorem Passes4.same {H H' : Hp} {ps : List Addr} {nn : Addr → Addr} {nd : Addr → List Int} {bk : Addr → Bool} (h : Passes4 H ps nn nd bk) (s : Same H H') : Passes4 H' ps nn nd bk := fun p hp => ⟨s _ _ (h p hp).1, (h p hp).2.1, s _ _ (h p hp).2.2⟩
theorem Cards.sameB {H H' : Hp} {rs : List Addr} {c : Addr → List Int} {d : Addr} {cc k : Int} {f : Bool} (h : Cards H rs c) (hd : Draw H d cc k f) (s : SameB d H H') : Cards H' rs c := fun r hr => ⟨(h r hr).1, s _ _ (ne_of (h r hr).2 hd (by intro z; cases z)) (h r hr).2⟩
theorem Passes4.sameB {H H' : Hp} {ps : List Addr} {nn : Addr → Addr} {nd : Addr → List Int} {bk : Addr → Bool} {d : Addr} {cc k : Int} {f : Bool} (h : Passes4 H ps nn nd bk) (hd : Draw H d cc k f) (s : SameB d H H') : Passes4 H' ps nn nd bk := fun p hp =>
  ⟨s _ _ (ne_of (h p hp).1 hd (by intro z; cases z)) (h p hp).1, (h p hp).2.1, s _ _ (ne_of (h p hp).2.2 hd (by intro z; cases z)) (h p hp).2.2⟩
theorem Passes4.sq {K : PySem.W.Frag} {H : Hp} {ps : List Addr} {nn : Addr → Addr} {nd : Addr → List Int} {bk : Addr → Bool} (h : Passes4 H ps nn nd bk) : ∀ p ∈ ps, ∃ n, SqT K H p [.ref n, .str (sideT (bk p))] ∧ SqT K H n ((nd p).map V.int) ∧ (nd p).length ≤ 60 :=
  fun p hp => ⟨nn p, SqT.of (h p hp).1, SqT.of (h p hp).2.2, (h p hp).2.1.1⟩
def cutA (xs : List Addr) (lo hi : Option Int) : List Addr := (xs.drop (HT.sIx xs.length 0 lo)).take (HT.sIx xs.length xs.length hi - HT.sIx xs.length 0 lo)
theorem cut_refs (xs : List Addr) (lo hi : Option Int) : cutV (xs.map V.ref) lo hi = (cutA xs lo hi).map V.ref := by
  unfold cutV cutA
  rw [List.length_map, List.map_take, List.map_drop]
theorem cutA_sub (xs : List Addr) (lo hi : Option Int) : (cutA xs lo hi).Sublist xs := (List.take_sublist _ _).trans (List.drop_sublist _ _)
def order {α : Type} (a b : α) (l : List α) : Option Bool → List α
  | none => l
  | some true => [a, b]
  | some false => [b, a]
theorem drop_more {α : Type} {xs : List α} {i : Nat} {x : α} (h : xs[i]? = some x) : xs.drop i = x :: xs.drop (i + 1) := by
  obtain ⟨hi, e⟩ := List.getElem?_eq_some_iff.mp h
  rw [List.drop_eq_getElem_cons hi, e]
theorem filt_ints (ns : List Int) (p : V → Bool) : ((ns.map V.int).filter p).map (fun x => x) = (ns.filter fun i => p (.int i)).map V.int := by
  rw [List.map_id', List.filter_map]
  rfl
structure TD (K : PySem.W.Frag) (H : Hp) (x : V) (d : PyData) (n m : Nat) : Prop where
  rd : RdV K H x d
  fits : Fits 22 d
  nd : nodes d ≤ n
  dp : d.depth ≤ m
structure TDs (K : PySem.W.Frag) (H : Hp) (xs : List V) (ds : List PyData) (n m : Nat) : Prop where
  rd : RdVs K H xs ds
  fits : FitsAll 22 ds
  nd : nodesAll ds ≤ n
  dp : PyData.depthAll ds ≤ m
section
variable {K : PySem.W.Frag} {H H' : Hp}
theorem TD.same {x : V} {d : PyData} {n m : Nat} (h : TD K H x d n m) (s : Same H H') : TD K H' x d n m := ⟨h.rd.same s, h.fits, h.nd, h.dp⟩
theorem TDs.same {x : List V} {d : List PyData} {n m : Nat} (h : TDs K H x d n m) (s : Same H H') : TDs K H' x d n m := ⟨h.rd.same s, h.fits, h.nd, h.dp⟩
theorem TDs.nil {m : Nat} : TDs K H [] [] 0 m := ⟨.nil, by simp [FitsAll], by simp [nodesAll], by simp [PyData.depthAll]⟩
theorem TDs.cons {x : V} {d : PyData} {xs : List V} {ds : List PyData} {n n' m : Nat} (h : TD K H x d n m) (t : TDs K H xs ds n' m) : TDs K H (x :: xs) (d :: ds) (n + n') m :=
  ⟨.cons h.rd t.rd, by simp only [FitsAll]; exact ⟨h.fits, t.fits⟩, by have := h.nd; have := t.nd; simp only [nodesAll]; omega, by have := h.dp; have := t.dp; simp only [PyData.depthAll]; omega⟩
theorem TDs.map {α : Type} {f : α → V} {g : α → PyData} {n m : Nat} : ∀ (l : List α), (∀ a ∈ l, TD K H (f a) (g a) n m) → TDs K H (l.map f) (l.map g) (n * l.length) m
  | [], _ => TDs.nil
  | a :: l, h => by
    have t := TDs.cons (h a List.mem_cons_self) (TDs.map l fun b hb => h b (List.mem_cons_of_mem _ hb))
    rw [List.length_cons, Nat.mul_add, Nat.mul_one, Nat.add_comm]
    exact t
theorem TD.lst {a : Addr} {xs : List V} {ds : List PyData} {n m : Nat} (e : SqL K H a xs) (t : TDs K H xs ds n m) : TD K H (.ref a) (.list ds) (n + 1) (m + 1) :=
  ⟨.lst e t.rd, by simp only [Fits]; exact t.fits, by have := t.nd; simp only [nodes]; omega, by have := t.dp; simp only [PyData.depth]; omega⟩
theorem TD.tup {a : Addr} {xs : List V} {ds : List PyData} {n m : Nat} (e : SqT K H a xs) (t : TDs K H xs ds n m) : TD K H (.ref a) (.tuple ds) (n + 1) (m + 1) :=
  ⟨.tup e t.rd, by simp only [Fits]; exact t.fits, by have := t.nd; simp only [nodes]; omega, by have := t.dp; simp only [PyData.depth]; omega⟩
theorem TD.int {i : Int} {m : Nat} (h : i.natAbs < 10 ^ 22) : TD K H (.int i) (.int i) 1 m := ⟨.int i, fits_int h, by simp [nodes], by simp [PyData.depth]⟩
theorem TD.le {x : V} {d : PyData} {n m n' m' : Nat} (h : TD K H x d n m) (a : n ≤ n') (b : m ≤ m') : TD K H x d n' m' := ⟨h.rd, h.fits, Nat.le_trans h.nd a, Nat.le_trans h.dp b⟩
theorem TDs.ints {ns : List Int} {m : Nat} (h : ∀ i ∈ ns, i.natAbs < 10 ^ 22) : TDs K H (ns.map V.int) (ns.map PyData.int) ns.length m := by
  have := TDs.map (K := K) (H := H) (f := V.int) (g := PyData.int) (n := 1) (m := m) ns fun i hi => TD.int (h i hi)
  rw [Nat.one_mul] at this
  exact this
end
end Nd
namespace K23
open PySem L2 Nd
def top (i : Nat) : Stmt := PySem.Challenge.pw_needledeck_k23_codes_apart.main.body.getD i (.Pass ⟨0, 0, 0, 0⟩)
abbrev sTogether : Stmt := top 4
abbrev s_choose : Stmt := top 6
abbrev s_word_at : Stmt := top 7
abbrev s_words_of : Stmt := top 8
abbrev s_cut_in : Stmt := top 10
abbrev s_number_lists : Stmt := top 11
abbrev s_apart : Stmt := top 12
abbrev sDraws : Stmt := top 14
abbrev sNext : Stmt := top 15
abbrev sWord : Stmt := top 16
abbrev sCode : Stmt := top 17
abbrev s__law_lists : Stmt := top 18
abbrev s__law_cut : Stmt := top 19
abbrev s__law_made : Stmt := top 20
abbrev sLaw : Stmt := top 21
section
variable {P : Program} {w : World} {K : PySem.W.Frag} {mg : Str → Option Value} {base : Heap}
theorem scT : FnScope ["one", "other"] ["one", "other"] (defScope sTogether) := ⟨rfl, rfl, rfl, by decide +kernel, rfl, by decide +kernel, by decide +kernel⟩
theorem ok_together {f : Addr} {fd : FuncData} (F : Fun K "together" "together" sTogether f fd) (mT : mg "tuple" = none) (mS : mg "sorted" = none) (mE : mg "set" = none) : FnOk P w K mg base CX0 1 f fd ["one", "other"] (spTog K) := by
  refine F.ok scT (fun vs H Q E h => ?_) (fun cdv A outer s H vs Q E hr h => ?_)
  · obtain ⟨a, b, ns, ms, rfl, _⟩ := h
    rfl
  obtain ⟨a, b, ns, ms, rfl, hA, hB, rn, rm, q⟩ := h
  refine ⟨_, pss_one (ps_ret (pe_callTy call_tuple_of rfl mT (by decide +kernel) (pa_cons (pe_callB (r := rSorted w) (call_sortedS rfl) rfl mS (by decide +kernel) (pa_cons
    (pe_op (r := rOr w) op_setOr (pe_callTy (r := rSet w K) (call_set rfl) rfl mE (by decide +kernel) (pa_cons (pv 0) pa_nil)) (pe_callTy (r := rSet w K) (call_set rfl) rfl mE (by decide +kernel) (pa_cons (pv 1) pa_nil))) pa_nil)) pa_nil))), ?_⟩
  refine ⟨_, rfl, a, ns, U60, rfl, hA, (by show U60.length ≤ 62; decide), among rn, fun p1 n1 => ?_⟩
  have s1 := same_new n1 (SetO w p1 ns)
  refine ⟨_, rfl, b, ms, U60, rfl, Same.tup s1 hB, (by show U60.length ≤ 62; decide), among rm, fun p2 n2 => ?_⟩
  have s2 := same_new n2 (SetO w p2 ms)
  refine ⟨p1, p2, ns, ms, U60, rfl, rfl, ne_of_none upd_same n2, s2 _ _ upd_same, upd_same, (by show U60.length ≤ 62; decide), among rn, among rm, fun p3 n3 => ?_⟩
  have s3 := same_new n3 (SetO w p3 (ns ++ ms))
  refine ⟨p3, _, rfl, upd_same, fun p4 ts n4 nd pw mem => ?_⟩
  have s4 := same_new n4 (.lst (ts.map V.int))
  refine ⟨p4, _, rfl, .inl ⟨SqL.of upd_same, fun p5 n5 => ?_⟩⟩
  have s5 := same_new n5 (.tup (ts.map V.int))
  have sA := ((s1.trans s2).trans (s3.trans s4))
  exact q p5 ts _ (sA.free n5) upd_same nd pw mem (sA.trans s5)
theorem scD : FnScope ["_law_cell"] ["_law_cell"] (defScope sDraws) := ⟨rfl, rfl, rfl, by decide +kernel, rfl, by decide +kernel, by decide +kernel⟩
theorem ok_draws {f : Addr} {fd : FuncData} (F : Fun K "_law_draws" "_law_draws" sDraws f fd) : FnOk P w K mg base CX0 1 f fd ["_law_cell"] spDraws := by
  refine F.ok scD (fun vs H Q E h => ?_) (fun cdv A outer s H vs Q E hr h => ?_)
  · obtain ⟨c, rfl, _⟩ := h
    rfl
  obtain ⟨c, rfl, q⟩ := h
  refine ⟨_, pss_one (ps_ret (pe_lst (pa_cons (pv 0) (pa_cons pe_int (pa_cons (pe_cmpR op_ge (pv 0) (pe_op op_pow pe_int pe_int) (nomark _)) pa_nil))))), ?_⟩
  refine ⟨_, rfl, _, rfl, 10, 18, rfl, rfl, ⟨by decide, by decide, by decide⟩, _, _, rfl, rfl, (by show 3 ≤ sizeLine; decide), fun p hp => ?_⟩
  exact q p _ _ hp upd_same (same_new hp _)
theorem scN : FnScope ["_law_draws_here", "_law_k", "_law_number"] ["_law_draws_here"] (defScope sNext) := ⟨rfl, rfl, rfl, by decide +kernel, rfl, by decide +kernel, by decide +kernel⟩
theorem ok_next {f : Addr} {fd : FuncData} (F : Fun K "_law_next" "_law_next" sNext f fd) : FnOk P w K mg base CX0 1 f fd ["_law_draws_here"] spNext := by
  refine F.ok scN (fun vs H Q E h => ?_) (fun cdv A outer s H vs Q E hr h => ?_)
  · obtain ⟨d, c, k, fl, rfl, _⟩ := h
    rfl
  obtain ⟨d, c, k, fl, rfl, hd, h0, h1, q⟩ := h
  refine ⟨_, pss_cons (ps_asg (pe_op op_add (pe_ix ix_list (pv 0) pe_int (fun _ _ => rfl)) pe_int) (pg_sub (pv 0) pe_int set_list))
    (pss_cons (ps_set (i := 1) scN.nd rfl (Or.inl rfl) (pe_ix ix_list (pv 0) pe_int (fun _ _ => rfl)))
    (pss_cons (ps_if (pt_val (pe_ix ix_list (pv 0) pe_int (fun _ _ => rfl)))
      (pss_cons (ps_set (i := 2) scN.nd rfl (Or.inl rfl) (pe_op op_mod (pe_ix ix_list (pv 0) pe_int (fun _ _ => rfl)) (pe_op op_pow pe_int pe_int)))
        (pss_cons (ps_asg (pe_op op_fdiv (pe_ix ix_list (pv 0) pe_int (fun _ _ => rfl)) (pe_op op_pow pe_int pe_int)) (pg_sub (pv 0) pe_int set_list))
        (pss_one (ps_ret (pv 2))))) pss_nil)
    (pss_cons (ps_set (i := 2) scN.nd rfl (Or.inl rfl) (pe_op op_mod (pe_op op_mul (pe_op op_add (pe_op op_add (pe_op op_mod (pe_ix ix_list (pv 0) pe_int (fun _ _ => rfl)) pe_int) (pe_op op_mul (pe_op op_mul (pv 1) (pv 1)) pe_int)) (pv 1)) pe_int) pe_int))
    (pss_cons (ps_set (i := 2) scN.nd rfl (Or.inl rfl) (pe_op op_mod (pe_op op_mul (pv 2) (pv 2)) pe_int))
    (pss_one (ps_ret (pe_op op_fdiv (pe_op op_mod (pe_op op_mul (pv 2) (pe_op op_add (pv 2) pe_int)) pe_int) pe_int))))))), ?_⟩
  -- draws[1] = draws[1] + 1
  refine ⟨_, rfl, d, _, 1, _, rfl, rfl, SqL.of hd, rfl, _, _, rfl, rfl, _, rfl, d, _, 1, 1, rfl, rfl, hd, rfl, ?_⟩
  have e1 : (upd H d (.lst ([V.int c, V.int k, V.bl fl].set 1 (V.int (k + 1))))) d = some (.lst [.int c, .int (k + 1), .bl fl]) := upd_same
  generalize hH1 : upd H d (.lst ([V.int c, V.int k, V.bl fl].set 1 (V.int (k + 1)))) = H1 at e1
  have s1 : SameB d H H1 := by rw [← hH1]; exact SameB.upd
  -- k = draws[1]; if draws[2]
  refine ⟨_, rfl, d, _, 1, _, rfl, rfl, SqL.of e1, rfl, _, rfl, d, _, 2, _, rfl, rfl, SqL.of e1, rfl, _, rfl, ?_⟩
  refine ite2 (fun _ => ?_) (fun _ => ?_)
  · refine ⟨_, rfl, d, _, 0, _, rfl, rfl, SqL.of e1, rfl, 10, 6, rfl, rfl, ⟨by decide, by decide, by decide⟩, _, _, rfl, rfl, (by show (0 : Int) < 10 ^ (6 : Int).toNat; decide), ?_⟩
    refine ⟨_, rfl, d, _, 0, _, rfl, rfl, SqL.of e1, rfl, 10, 6, rfl, rfl, ⟨by decide, by decide, by decide⟩, _, _, rfl, rfl, ⟨by decide, by decide⟩, _, rfl, d, _, 0, 0, rfl, rfl, e1, rfl, _, rfl, ?_⟩
    exact q _ _ _ upd_same (s1.trans SameB.upd)
  · have m1 := emod_in c 1000003 (by decide)
    have b1 := emod_in ((c % 1000003 + (k + 1) * (k + 1) * 7919 + (k + 1)) * 48271) 2147483629 (by decide)
    refine ⟨_, rfl, d, _, 0, _, rfl, rfl, SqL.of e1, rfl, _, _, rfl, rfl, (by show (0 : Int) < 1000003; decide), _, rfl, _, rfl, _, _, rfl, rfl, .inl ⟨by omega, by omega⟩, _, _, rfl, rfl, .inr ⟨by decide, by decide⟩, _, _, rfl, rfl, _, rfl, _, _, rfl, rfl,
      _, _, rfl, rfl, .inr ⟨by decide, by decide⟩, _, _, rfl, rfl, (by show (0 : Int) < 2147483629; decide), ?_⟩
    generalize ((c % 1000003 + (k + 1) * (k + 1) * 7919 + (k + 1)) * 48271) % 2147483629 = x at b1
    have b2 := emod_in (x * x) 2147483587 (by decide)
    refine ⟨_, rfl, _, rfl, _, _, rfl, rfl, .inl ⟨by omega, by omega⟩, _, _, rfl, rfl, (by show (0 : Int) < 2147483587; decide), ?_⟩
    generalize (x * x) % 2147483587 = y at b2
    refine ⟨_, rfl, _, rfl, _, _, rfl, rfl, _, _, rfl, rfl, .inl ⟨by omega, by omega⟩, _, _, rfl, rfl, (by show (0 : Int) < 2147483579; decide), _, _, rfl, rfl, ⟨by decide, by decide⟩, ?_⟩
    exact q _ _ _ e1 s1
theorem scWd : FnScope ["_law_draws_here", "_law_holes", "_law_pick", "_law_bits", "_law_told", "_law_place"] ["_law_draws_here", "_law_holes"] (defScope sWord) := ⟨rfl, rfl, rfl, by decide +kernel, rfl, by decide +kernel, by decide +kernel⟩
theorem ok_word {f g : Addr} {fd gd : FuncData} (F : Fun K "_law_word" "_law_word" sWord f fd) (G : FnOk P w K mg base CX0 1 g gd ["_law_draws_here"] spNext) (bG : Binds K gd ["_law_draws_here"] []) (kG : PySem.W.keepIn K (.ref g) = true) (mG : mg "_law_next" = some (.ref g))
    (mR : mg "range" = none) (mT : mg "tuple" = none) : FnOk P w K mg base CX0 2 f fd ["_law_draws_here", "_law_holes"] spWord := by
  refine F.ok scWd (fun vs H Q E h => ?_) (fun cdv A outer s H vs Q E hr h => ?_)
  · obtain ⟨d, h, c, k, fl, rfl, _⟩ := h
    rfl
  obtain ⟨d, h, c, k, fl, rfl, hd, k0, k1, h0, h1, q⟩ := h
  refine ⟨_, pss_cons (ps_set (i := 2) scWd.nd rfl (Or.inl rfl) (pe_call G hr rfl mG kG bG .nil pass0 (pa_cons (pv 0) pa_nil)))
    (pss_cons (ps_set (i := 3) scWd.nd rfl (Or.inl rfl) (pe_op op_fdiv (pv 2) pe_int))
    (pss_cons (ps_set (i := 4) scWd.nd rfl (Or.inl rfl) (pe_lst pa_nil))
    (pss_cons (ps_for PassesOwn.never rfl (pi_range1 rfl mR (pa_cons (pv 1) pa_nil)) (pg_name (i := 5) scWd.nd rfl (Or.inl rfl))
      (pss_cons (ps_if (pt_cmpR op_eq (pe_op op_mod (pv 5) pe_int) pe_int (nomark _)) (pss_one (ps_set (i := 3) scWd.nd rfl (Or.inl rfl) (pe_call G hr rfl mG kG bG .nil pass0 (pa_cons (pv 0) pa_nil)))) pss_nil)
      (pss_cons (ps_if (pt_cmpR op_eq (pe_op op_mod (pv 3) (pe_ix ix_list (pe_lst (pa_cons pe_int (pa_cons pe_int (pa_cons pe_int (pa_cons pe_int pa_nil))))) (pe_op op_mod (pv 2) pe_int) (fun _ _ => rfl))) pe_int (nomark _))
        (pss_one (ps_expr (pe_bm PySem.F.plainAttrs_list PySem.F.slot_list_append PySem.F.type_list_append mt_append (pv 4) (pa_cons (pv 5) pa_nil)))) pss_nil)
      (pss_one (ps_set (i := 3) scWd.nd rfl (Or.inl rfl) (pe_op op_fdiv (pv 3) pe_int))))))
    (pss_one (ps_ret (pe_callTy call_tuple_of rfl mT (by decide +kernel) (pa_cons (pv 4) pa_nil))))))), ?_⟩
  -- pick = next(draws)
  refine ⟨_, rfl, d, c, k, fl, rfl, hd, k0, by omega, fun pk c1 H1 d1 s1 => ?_⟩
  -- bits = pick // 4; told = []
  refine ⟨_, rfl, _, _, rfl, rfl, ⟨by decide, by decide⟩, (by show 0 ≤ sizeLine; decide), fun l nl => ?_⟩
  have ld : l ≠ d := fun z => by
    rw [z] at nl
    have := d1
    unfold Draw at this
    rw [nl] at this
    cases this
  have nl0 : H l = none := s1.free ld nl
  have sl : Same H1 (upd H1 l (.lst [])) := same_new nl _
  -- for place in range(holes)
  refine ⟨_, rfl, h, rfl, by omega, by omega, for_range (lo := 0) (n := h.toNat) (fun i σ H2 => ∃ (b : Int) (ts : List Int) (c2 k2 : Int) (pl : Option V), σ = [some (.ref d), some (.int h), some (.int pk), some (.int b), some (.ref l), pl] ∧ (ts.length ≤ i ∧ Rising i ts) ∧
      H2 l = some (.lst (ts.map V.int)) ∧ Draw H2 d c2 k2 fl ∧ k + 1 ≤ k2 ∧ k2 ≤ k + 1 + i ∧ SameB d H H2)
    ⟨_, [], c1, k + 1, none, rfl, ⟨Nat.le_refl _, Rising.nil _⟩, upd_same, d1.same sl, Int.le_refl _, by omega, s1.trans (SameB.of sl)⟩ ?_ ?_⟩
  · rintro i σ H2 hi ⟨b, ts, c2, k2, pl, rfl, ⟨hts, hri⟩, e1, d2, a1, a2, sm⟩
    -- the second half of the turn, for any bits, heap
    have rest : ∀ (b' c3 k3 : Int) (H3 : Hp) (D : Ends), H3 l = some (.lst (ts.map V.int)) → Draw H3 d c3 k3 fl → k + 1 ≤ k3 → k3 ≤ k + 1 + i + 1 → SameB d H H3 →
        (∀ σ' H', (∃ (b : Int) (ts : List Int) (c2 k2 : Int) (pl : Option V), σ' = [some (.ref d), some (.int h), some (.int pk), some (.int b), some (.ref l), pl] ∧ (ts.length ≤ i + 1 ∧ Rising ((i + 1 : Nat) : Int) ts) ∧
          H' l = some (.lst (ts.map V.int)) ∧ Draw H' d c2 k2 fl ∧ k + 1 ≤ k2 ∧ k2 ≤ k + 1 + ((i + 1 : Nat) : Int) ∧ SameB d H H') → D.nx σ' H') →
        tSeq (tIfS (tTest (tOp rEq (tOp (rI (fun _ j => 0 < j) fun i j => .int (i % j)) (tVar 3) (tOp (rIxL K) (tLst (tCons (tC (.int 2)) (tCons (tC (.int 2)) (tCons (tC (.int 4)) (tCons (tC (.int 1)) tNil))))) (tOp (rI (fun _ j => 0 < j) fun i j => .int (i % j)) (tVar 2) (tC (.int 4))))) (tC (.int 0))))
          (tDrop (tBM K "list" rAppend (tVar 4) (tCons (tVar 5) tNil))) tNext) (tAsg (tOp (rI CDiv fun i j => .int (i / j)) (tVar 3) (tC (.int 2))) (gName 3)) D
          [some (.ref d), some (.int h), some (.int pk), some (.int b'), some (.ref l), some (.int (0 + i))] H3 := by
      intro b' c3 k3 H3 D e3 d3 x1 x2 sm3 fin
      obtain ⟨m, hm, mpos⟩ := mods pk
      refine ⟨_, rfl, (by show 4 ≤ sizeLine; decide), fun p hp => ⟨_, rfl, _, _, rfl, rfl, (by show (0 : Int) < 4; decide), p, _, _, _, rfl, rfl, SqL.of upd_same, hm, _, _, rfl, rfl, mpos, rfl, _, rfl, ?_⟩⟩
      have s3 : Same H3 (upd H3 p (.lst [.int 2, .int 2, .int 4, .int 1])) := same_new hp _
      have e3' := s3 _ _ e3
      have d3' := d3.same s3
      have sm3' := sm3.trans (SameB.of s3)
      generalize upd H3 p (.lst [.int 2, .int 2, .int 4, .int 1]) = H4 at e3' d3' sm3'
      refine ite2 (fun _ => ?_) (fun _ => ?_)
      · refine ⟨_, rfl, .inl ⟨rfl, _, SqL.of e3'⟩, _, rfl, l, _, _, rfl, rfl, e3', by rw [List.length_map]; exact small1000 (by omega), _, rfl, _, _, rfl, rfl, ⟨by decide, by decide⟩, ?_⟩
        refine fin _ _ ⟨_, ts ++ [0 + (i : Int)], c3, k3, _, rfl, ⟨by rw [List.length_append, List.length_singleton]; omega, by rw [Int.zero_add]; exact hri.more (by omega)⟩, ?_, ?_, x1, by omega, fun b o n z => ?_⟩
        · rw [upd_same, List.map_append]; rfl
        · exact (upd_ne (Ne.symm ld)).trans d3'
        · rw [upd_ne (ne_of_none z nl0)]; exact sm3' b o n z
      · refine ⟨_, rfl, _, _, rfl, rfl, ⟨by decide, by decide⟩, ?_⟩
        exact fin _ _ ⟨_, ts, c3, k3, _, rfl, ⟨by omega, hri.up (by omega)⟩, e3', d3', x1, by omega, sm3'⟩
    -- if place % 16 == 15: bits = next(draws)
    refine ⟨_, rfl, _, _, rfl, rfl, (by show (0 : Int) < 16; decide), rfl, _, rfl, ?_⟩
    refine ite2 (fun _ => ?_) (fun _ => ?_)
    · refine ⟨_, rfl, d, c2, k2, fl, rfl, d2, by omega, by omega, fun b' c3 H3 d3 s3 => ?_⟩
      exact rest b' c3 (k2 + 1) H3 _ (s3 _ _ ld e1) d3 (by omega) (by omega) (sm.trans s3) fun σ' H' z => z
    · exact rest b c2 k2 H2 _ e1 d2 a1 (by omega) sm fun σ' H' z => z
  · rintro σ H2 ⟨b, ts, c2, k2, pl, rfl, ⟨hts, hri⟩, e1, d2, a1, a2, sm⟩
    refine ⟨_, rfl, l, _, rfl, .inl ⟨SqL.of e1, fun r nr => ?_⟩⟩
    have s3 : Same H2 (upd H2 r (.tup (ts.map V.int))) := same_new nr _
    have rd : r ≠ d := fun z => by
      rw [z] at nr
      have := d2
      unfold Draw at this
      rw [nr] at this
      cases this
    exact q r ts c2 k2 _ (sm.free rd nr) upd_same (by omega) (hri.up (by omega)) (d2.same s3) (by omega) (by omega) (sm.trans (SameB.of s3))
theorem scCo : FnScope ["_law_draws_here", "_law_holes", "_law_many", "_law_told", "_law_k", "_law_word_here", "_law_pick", "_law_other"] ["_law_draws_here", "_law_holes", "_law_many"] (defScope sCode) := ⟨rfl, rfl, rfl, by decide +kernel, rfl, by decide +kernel, by decide +kernel⟩
theorem ok_code {f g gw : Addr} {fd gd gwd : FuncData} (F : Fun K "_law_code" "_law_code" sCode f fd) (G : FnOk P w K mg base CX0 1 g gd ["_law_draws_here"] spNext) (bG : Binds K gd ["_law_draws_here"] []) (kG : PySem.W.keepIn K (.ref g) = true) (mG : mg "_law_next" = some (.ref g))
    (W : FnOk P w K mg base CX0 2 gw gwd ["_law_draws_here", "_law_holes"] spWord) (bW : Binds K gwd ["_law_draws_here", "_law_holes"] []) (kW : PySem.W.keepIn K (.ref gw) = true) (mW : mg "_law_word" = some (.ref gw))
    (mR : mg "range" = none) (mL : mg "len" = none) (mT : mg "tuple" = none) (mSo : mg "sorted" = none) (mSe : mg "set" = none) : FnOk P w K mg base CX0 3 f fd ["_law_draws_here", "_law_holes", "_law_many"] spCode := by
  refine F.ok scCo (fun vs H Q E h => ?_) (fun cdv A outer s H vs Q E hr h => ?_)
  · obtain ⟨d, h, m, c, k, fl, rfl, _⟩ := h
    rfl
  obtain ⟨d, h, m, c, k, fl, rfl, hd, k0, k1, h0, h1, m0, m1, q⟩ := h
  have hr1 : Room 1 _ := hr.mono (by decide)
  have hu := hu_of hr
  have hu64 := hr.units
  refine ⟨_, pss_cons (ps_set (i := 3) scCo.nd rfl (Or.inl rfl) (pe_lst pa_nil))
    (pss_cons (ps_for PassesOwn.never rfl (pi_range1 rfl mR (pa_cons (pe_op op_mod (pe_call G hr1 rfl mG kG bG .nil pass0 (pa_cons (pv 0) pa_nil)) (pe_op op_add (pv 2) pe_int)) pa_nil)) (pg_name (i := 4) scCo.nd rfl (Or.inl rfl))
      (pss_cons (ps_set (i := 5) scCo.nd rfl (Or.inl rfl) (pe_call W hr rfl mW kW bW .nil pass0 (pa_cons (pv 0) (pa_cons (pv 1) pa_nil))))
      (pss_cons (ps_set (i := 6) scCo.nd rfl (Or.inl rfl) (pe_call G hr1 rfl mG kG bG .nil pass0 (pa_cons (pv 0) pa_nil)))
      (pss_cons (ps_if (PW.pt (pw_and (pt_cmpR (op_neL hu) (pv 3) (pe_lst pa_nil) (nomark _)) (pw_and1 (pt_cmpR op_eq (pe_op op_mod (pv 6) pe_int) pe_int (nomark _)))))
        (pss_cons (ps_set (i := 7) scCo.nd rfl (Or.inl rfl) (pe_ix ix_list (pv 3) (pe_op op_mod (pe_op op_fdiv (pv 6) pe_int) (pe_callB call_len_seq rfl mL (by decide +kernel) (pa_cons (pv 3) pa_nil))) (fun _ _ => rfl)))
        (pss_one (ps_set (i := 5) scCo.nd rfl (Or.inl rfl) (pe_callTy call_tuple_of rfl mT (by decide +kernel) (pa_cons (pe_callB (r := rSorted w) (call_sortedS rfl) rfl mSo (by decide +kernel) (pa_cons (pe_callTy (r := rSet w K) (call_set rfl) rfl mSe (by decide +kernel) (pa_cons
          (pe_op op_catX (pv 7) (pe_slice sl_tupA (pv 5) po_none (po_some pe_int))) pa_nil)) pa_nil)) pa_nil))))) pss_nil)
      (pss_cons (ps_if (pt_cmpR op_eq (pe_op op_mod (pv 6) pe_int) pe_int (nomark _)) (pss_one (ps_set (i := 5) scCo.nd rfl (Or.inl rfl) (pe_slice sl_tupA (pv 5) po_none (po_some pe_int)))) pss_nil)
      (pss_one (ps_if (pt_cmpR (op_notInD hu64) (pv 5) (pv 3) (by with_unfolding_all rfl)) (pss_one (ps_expr (pe_bm PySem.F.plainAttrs_list PySem.F.slot_list_append PySem.F.type_list_append mt_append (pv 3) (pa_cons (pv 5) pa_nil)))) pss_nil)))))))
    (pss_one (ps_ret (pv 3)))), ?_⟩
  refine ⟨(by show 0 ≤ sizeLine; decide), fun l nl => ?_⟩
  have ld : l ≠ d := draw_ne hd nl
  have sl : Same H (upd H l (.lst [])) := same_new nl _
  have hm1 := fun r : Int => emod_in r (m + 1) (by omega)
  refine ⟨_, rfl, d, c, k, fl, rfl, hd.same sl, k0, by omega, fun r c1 H1 d1 s1 => ⟨_, rfl, _, _, rfl, rfl, _, _, rfl, rfl, (by show 0 < m + 1; omega), r % (m + 1), rfl, (by have := hm1 r; omega), (by have := hm1 r; omega), ?_⟩⟩
  have rn := hm1 r
  refine for_range (lo := 0) (n := (r % (m + 1)).toNat) (fun i σ H2 => ∃ (rs : List Addr) (c2 k2 : Int) (kv wv pv ov : Option V), σ = [some (.ref d), some (.int h), some (.int m), some (.ref l), kv, wv, pv, ov] ∧ rs.length ≤ i ∧
      H2 l = some (.lst (rs.map V.ref)) ∧ (∀ r ∈ rs, Wd H2 r) ∧ Draw H2 d c2 k2 fl ∧ k + 1 ≤ k2 ∧ k2 ≤ k + 1 + 110 * i ∧ SameB d H H2)
    ⟨[], c1, k + 1, none, none, none, none, rfl, Nat.le_refl _, s1 _ _ ld upd_same, fun _ z => (nomatch z), d1, Int.le_refl _, by omega, (SameB.of sl).trans s1⟩ ?_ ?_
  · rintro i σ H2 hi ⟨rs, c2, k2, kv, wv, pv, ov, rfl, hrs, e1, wd, d2, a1, a2, sm⟩
    have i60 : i < 60 := by omega
    refine ⟨_, rfl, _, rfl, d, h, c2, k2, fl, rfl, d2, by omega, by omega, h0, h1, fun r' ns c3 k3 H3 nr er ln ri d3 b1 b2 s3 => ?_⟩
    have w3 : Wd H3 r' := ⟨ns, ⟨ln, ri.up (by omega)⟩, er⟩
    refine ⟨_, rfl, d, c3, k3, fl, rfl, d3, by omega, by omega, fun pk c4 H4 d4 s4 => ?_⟩
    have s34 := s3.trans s4
    have e4 := s34 _ _ ld e1
    have wd4 : ∀ x ∈ rs, Wd H4 x := fun x hx => (wd x hx).sameB d2 s34
    have w4 := w3.sameB d3 s4
    have sm4 := sm.trans s34
    have last : ∀ (o : Option V) (n : Addr) (H5 : Hp) (D : Ends), Same H4 H5 → Wd H5 n → (∀ (rs : List Addr) (wv pv ov : Option V) (H' : Hp), rs.length ≤ i + 1 → H' l = some (.lst (rs.map V.ref)) → (∀ r ∈ rs, Wd H' r) → Draw H' d c4 (k3 + 1) fl → SameB d H H' → D.nx [some (.ref d), some (.int h), some (.int m), some (.ref l), some (.int (0 + i)), wv, pv, ov] H') →
        tIfS (tTest (tOp (rInD K true) (tVar 5) (tVar 3))) (tDrop (tBM K "list" rAppend (tVar 3) (tCons (tVar 5) tNil))) tNext D [some (.ref d), some (.int h), some (.int m), some (.ref l), some (.int (0 + i)), some (.ref n), some (.int pk), o] H5 := fun o n H5 D s5 w5 fin => by
      have e5 := s5 _ _ e4
      have wd5 : ∀ x ∈ rs, Wd H5 x := fun x hx => (wd4 x hx).same s5
      have sm5 := sm4.trans (SameB.of s5)
      obtain ⟨cc, hcc⟩ := cards_of wd5
      obtain ⟨nn, _, en⟩ := id w5
      refine ⟨_, rfl, _, rfl, l, _, wordD nn, rs.map (fun r => wordD (cc r)), rfl, .inl (SqL.of e5), .tup (SqT.of en) (RdVs.ints nn), RdVs.of_map rs fun r hr' => .tup (SqT.of (hcc r hr').2) (RdVs.ints _), Nat.le_trans (depthAll_le (m := 1) fun x hx => ?_) (by decide), _, rfl, ?_⟩
      · obtain ⟨r, _, rfl⟩ := List.mem_map.mp hx
        exact depth_word _
      refine ite2 (fun _ => ?_) (fun _ => ?_)
      · refine ⟨_, rfl, .inl ⟨rfl, _, SqL.of e5⟩, _, rfl, l, _, _, rfl, rfl, e5, by rw [List.length_map]; exact small1000 (by omega), ?_⟩
        refine fin (rs ++ [n]) _ _ _ _ (by rw [List.length_append, List.length_singleton]; omega) (by rw [upd_same, List.map_append]; rfl) (fun x hx => ?_) ((upd_ne (Ne.symm ld)).trans (s5 _ _ d4)) (fun b o nb z => by rw [upd_ne (ne_of_none z nl)]; exact sm5 _ _ nb z)
        rcases List.mem_append.mp hx with hx | hx
        · exact (wd5 x hx).upd e5
        · rw [List.mem_singleton.mp hx]; exact w5.upd e5
      · exact fin rs _ _ _ H5 (by omega) e5 wd5 (s5 _ _ d4) sm5
    have mid : ∀ (o : Option V) (n : Addr) (H5 : Hp) (D : Ends), Same H4 H5 → Wd H5 n → (∀ (rs : List Addr) (wv pv ov : Option V) (H' : Hp), rs.length ≤ i + 1 → H' l = some (.lst (rs.map V.ref)) → (∀ r ∈ rs, Wd H' r) → Draw H' d c4 (k3 + 1) fl → SameB d H H' → D.nx [some (.ref d), some (.int h), some (.int m), some (.ref l), some (.int (0 + i)), wv, pv, ov] H') →
        tSeq (tIfS (tTest (tOp rEq (tOp (rI (fun _ j => 0 < j) fun i j => .int (i % j)) (tVar 6) (tC (.int 4))) (tC (.int 2)))) (tAsg (tSl (rSlTA K) (tVar 5) tNoPart (tPart (tC (.int 2)))) (gName 5)) tNext) (tIfS (tTest (tOp (rInD K true) (tVar 5) (tVar 3))) (tDrop (tBM K "list" rAppend (tVar 3) (tCons (tVar 5) tNil))) tNext) D
          [some (.ref d), some (.int h), some (.int m), some (.ref l), some (.int (0 + i)), some (.ref n), some (.int pk), o] H5 := fun o n H5 D s5 w5 fin => by
      refine ⟨_, rfl, _, _, rfl, rfl, (by show (0 : Int) < 4; decide), rfl, _, rfl, ?_⟩
      refine ite2 (fun _ => ?_) (fun _ => ?_)
      · exact ⟨_, rfl, 2, rfl, sl_word w5 fun z H6 s6 w6 => last o z H6 D (s5.trans s6) w6 fin⟩
      · exact last o n H5 D s5 w5 fin
    have kk : ∀ (rs : List Addr) (wv pv ov : Option V) (H' : Hp), rs.length ≤ i + 1 → H' l = some (.lst (rs.map V.ref)) → (∀ r ∈ rs, Wd H' r) → Draw H' d c4 (k3 + 1) fl → SameB d H H' → ∃ (rs' : List Addr) (c2 k2 : Int) (kv' wv' pv' ov' : Option V), [some (V.ref d), some (.int h), some (.int m), some (.ref l), some (.int (0 + i)), wv, pv, ov] = [some (.ref d), some (.int h), some (.int m), some (.ref l), kv', wv', pv', ov'] ∧ rs'.length ≤ i + 1 ∧
        H' l = some (.lst (rs'.map V.ref)) ∧ (∀ r ∈ rs', Wd H' r) ∧ Draw H' d c2 k2 fl ∧ k + 1 ≤ k2 ∧ k2 ≤ k + 1 + 110 * ((i + 1 : Nat) : Int) ∧ SameB d H H' := fun rs wv pv ov H' x1 x2 x3 x4 x5 => ⟨rs, c4, k3 + 1, _, wv, pv, ov, rfl, x1, x2, x3, x4, by omega, by omega, x5⟩
    -- if told != [] and pick % 4 == 1
    refine ⟨_, rfl, (by show 0 ≤ sizeLine; decide), fun p5 np5 => ⟨l, p5, _, [], rfl, rfl, SqL.of (same_new np5 _ _ _ e4), SqL.of upd_same, ?_⟩⟩
    have s5 := same_new np5 (.lst [])
    by_cases hrs0 : rs = []
    · subst hrs0
      exact .inl ⟨EqVs.same rfl, _, rfl, iteF (iteF (mid _ r' _ _ s5 (w4.same s5) kk))⟩
    · refine .inr ⟨by rw [List.length_map]; intro z; exact hrs0 (List.eq_nil_of_length_eq_zero z), _, rfl, iteT ⟨_, rfl, _, _, rfl, rfl, (by show (0 : Int) < 4; decide), rfl, _, rfl, ?_⟩⟩
      refine ite2 (fun _ => ?_) (fun _ => mid _ r' _ _ s5 (w4.same s5) kk)
      have e5 := s5 _ _ e4
      have lpos : 0 < rs.length := Nat.pos_of_ne_zero fun z => hrs0 (List.eq_nil_of_length_eq_zero z)
      have in6 := emod_in (pk / 4) ((rs.map V.ref).length : Int) (by rw [List.length_map]; omega)
      obtain ⟨v, hv, mv⟩ := atI_in (xs := rs.map V.ref) in6.1 in6.2
      obtain ⟨y, my, rfl⟩ := List.mem_map.mp mv
      refine ⟨_, rfl, _, rfl, _, _, rfl, rfl, ⟨by decide, by decide⟩, _, rfl, l, _, rfl, .inl (SqL.of e5), _, _, rfl, rfl, (by show (0 : Int) < _; rw [List.length_map]; omega), l, _, _, _, rfl, rfl, SqL.of e5, hv, ?_⟩
      have wy := (wd4 y my).same s5
      -- other + word[:1]
      refine ⟨_, rfl, _, rfl, 1, rfl, sl_word (w4.same s5) fun z H6 s6 w6 => ?_⟩
      obtain ⟨ny, ⟨ly, ry⟩, ey⟩ := wy.same s6
      obtain ⟨nz, ⟨lz, rz⟩, ez⟩ := id w6
      refine cat_of ey ez ly lz fun t ts H7 s7 et mt => ?_
      have bt : ∀ x ∈ ts, 0 ≤ x ∧ x < 60 := fun x hx => (mt x hx).elim (ry.2 x) (rz.2 x)
      refine ⟨t, ts, U60, rfl, SqT.of et, (by show U60.length ≤ 62; decide), (fun x hx => mem_U60 (bt x hx).1 (bt x hx).2), fun p8 np8 => ?_⟩
      refine ⟨p8, _, rfl, upd_same, fun p9 ks np9 nd9 pw9 mem9 => ?_⟩
      refine ⟨p9, _, rfl, .inl ⟨SqL.of upd_same, fun p10 np10 => ?_⟩⟩
      have s8 := same_new np8 (SetO w p8 ts)
      have s9 := same_new np9 (.lst (ks.map V.int))
      have s10 := same_new np10 (.tup (ks.map V.int))
      have bk : ∀ x ∈ ks, 0 ≤ x ∧ x < 60 := fun x hx => bt x ((mem9 x).mp hx)
      have lk : ks.length ≤ 60 := Nat.le_trans (NdS.len_leI nd9 fun e he => mem_U60 (bk e he).1 (bk e he).2) (by decide)
      exact mid _ p10 _ _ (s5.trans (s6.trans (s7.trans (s8.trans (s9.trans s10))))) ⟨ks, ⟨lk, strict_of nd9 pw9, bk⟩, upd_same⟩ kk
  · rintro σ H2 ⟨rs, c2, k2, kv, wv, pv, ov, rfl, hrs, e1, wd, d2, a1, a2, sm⟩
    exact ⟨_, rfl, q l rs c2 k2 H2 nl e1 (by omega) wd d2 (by omega) (by omega) sm⟩
end
end K23
namespace Nd
open PySem L2
abbrev rLen (K : PySem.W.Frag) : List V → Hp → VK → Prop := fun xs H Q => ∃ p ys, xs = [V.ref p] ∧ (SqL K H p ys ∨ SqT K H p ys) ∧ Q (.int ys.length) H
theorem len_ok {X : Cx} : CallR X (.builtin "len") (rLen X.K) := call_len_seq
abbrev rLstC (K : PySem.W.Frag) : List V → Hp → VK → Prop := fun xs H Q => ∃ p ys, xs = [V.ref p] ∧ (SqL K H p ys ∨ SqT K H p ys) ∧ ∀ l, H l = none → Q (.ref l) (upd H l (.lst ys))
theorem list_ok {X : Cx} : CallR X (.type "list") (rLstC X.K) := call_list_of
theorem at_nx {i : Nat} {x : V} {σ : L2.St} {H : Hp} {Q b c : L2.St → Hp → Prop} {r : VK} (h : Q (σ.set i (some x)) H) : gName i x σ H (Ends.mk Q r b c).nx := h
theorem seq_join {t u : TS} {D : Ends} {σ : L2.St} {H : Hp} (J : L2.St → Hp → Prop) (hJ : ∀ σ' H', J σ' H' → u D σ' H') (h : ∀ N : L2.St → Hp → Prop, (∀ σ' H', J σ' H' → N σ' H') → t { D with nx := N } σ H) : tSeq t u D σ H := h (u D) hJ
end Nd
namespace Ts
open PySem PyProof.Rows
def gallopP : Bool → Keyed → Array Keyed → Nat → Nat → Nat → StateT SortSt Sem (Option Nat) := sortPriv% PySem.Builtin.gallop
structure Cmp (prog : Program) (w : World) (A : Around) (s : Shared) (kd : SortKind) (Ok : Keyed → Prop) (blt : Keyed → Keyed → Bool) : Prop where
  run : ∀ (x y : Keyed) (Q : Bool → Shared → Prop) (E : Value → Shared → Prop), Ok x → Ok y → Q (blt x y) s → wpAny (model prog w) A (keyLt' kd x.1 y.1) Q E s
  irr : ∀ x, blt x x = false
  tr : ∀ x y z, blt x y = true → blt y z = true → blt x z = true
  neg : ∀ x y z, blt x z = true → blt x y = true ∨ blt y z = true
def le (blt : Keyed → Keyed → Bool) (x y : Keyed) : Prop := blt y x = false
section
variable {prog : Program} {w : World} {A : Around} {s : Shared} {kd : SortKind} {Ok : Keyed → Prop} {blt : Keyed → Keyed → Bool}
theorem Cmp.refl (C : Cmp prog w A s kd Ok blt) (x : Keyed) : le blt x x := C.irr x
theorem Cmp.ofLt (C : Cmp prog w A s kd Ok blt) {x y : Keyed} (h : blt x y = true) : le blt x y := by
  unfold le
  cases q : blt y x with
  | false => rfl
  | true => have := C.tr _ _ _ h q; rw [C.irr] at this; cases this
theorem Cmp.trans (C : Cmp prog w A s kd Ok blt) {x y z : Keyed} (h1 : le blt x y) (h2 : le blt y z) : le blt x z := by
  unfold le at *
  cases q : blt z x with
  | false => rfl
  | true =>
    rcases C.neg _ y _ q with h | h
    · rw [h2] at h; cases h
    · rw [h1] at h; cases h
theorem Cmp.ltLe (C : Cmp prog w A s kd Ok blt) {x y z : Keyed} (h1 : blt x y = true) (h2 : le blt y z) : blt x z = true := by
  unfold le at h2
  rcases C.neg _ z _ h1 with h | h
  · exact h
  · rw [h2] at h; cases h
theorem Cmp.leLt (C : Cmp prog w A s kd Ok blt) {x y z : Keyed} (h1 : le blt x y) (h2 : blt y z = true) : blt x z = true := by
  unfold le at h1
  rcases C.neg _ x _ h2 with h | h
  · rw [h1] at h; cases h
  · exact h
variable {E : Value → Shared → Prop}
structure Kept (st st' : SortSt) : Prop where
  kind : kindOf st' = kindOf st
  arr : arrOf st' = arrOf st
  pend : pendingOf st' = pendingOf st
  fail : failedOf st' = failedOf st
theorem Kept.refl (st : SortSt) : Kept st st := ⟨rfl, rfl, rfl, rfl⟩
theorem Kept.trans {a b c : SortSt} (h : Kept a b) (k : Kept b c) : Kept a c := ⟨k.kind.trans h.kind, k.arr.trans h.arr, k.pend.trans h.pend, k.fail.trans h.fail⟩
theorem lt_ok (C : Cmp prog w A s kd Ok blt) {st : SortSt} {x y : Keyed} {Q : Option Bool → SortSt → Prop} (hk : kindOf st = kd) (ox : Ok x) (oy : Ok y) (h : Q (some (blt x y)) st) : wpS (model prog w) A E s (lt' x y) Q st := by
  rw [lt'_eq]
  refine wpS_bind (wpS_get ?_)
  rw [hk]
  exact wpS_bind (wpS_lift (wpAny_attempt (C.run x y _ _ ox oy ⟨rfl, wpS_pure h⟩)))
theorem elem_ok {st : SortSt} {xs : Array Keyed} {i : Nat} {p : Keyed} {Q : Keyed → SortSt → Prop} (h : xs[i]? = some p) (q : Q p st) : wpS (model prog w) A E s (elem' xs i) Q st := by
  rw [elem'_eq, h]
  exact wpS_pure q
def beyondP (left : Bool) (key : Keyed) (arr : Array Keyed) (base i : Nat) : StateT SortSt Sem (Option Bool) := do
  let x ← elem' arr (base + i)
  if left then lt' x key else return (← lt' key x).map (!·)
def findP (left : Bool) (key : Keyed) (arr : Array Keyed) (base n lo0 hi0 : Nat) : StateT SortSt Sem (Option Nat) := do
  let mut lo := lo0
  let mut hi := hi0
  for _ in [0:n] do
    if lo ≥ hi then break
    let mid := lo + (hi - lo) / 2
    let some up ← beyondP left key arr base mid | return none
    if up then lo := mid + 1 else hi := mid
  return some hi
theorem gallopP_eq (left : Bool) (key : Keyed) (arr : Array Keyed) (base n hint : Nat) : gallopP left key arr base n hint = (do
    let some right ← beyondP left key arr base hint | return none
    let mut last := 0
    let mut ofs := 1
    if right then
      let top := n - hint
      for _ in [0:n] do
        if ofs ≥ top then break
        let some up ← beyondP left key arr base (hint + ofs) | return none
        if !up then break
        last := ofs
        ofs := 2 * ofs + 1
      findP left key arr base n (hint + last + 1) (hint + min ofs top)
    else
      let top := hint + 1
      for _ in [0:n] do
        if ofs ≥ top then break
        let some got ← beyondP left key arr base (hint - ofs) | return none
        if got then break
        last := ofs
        ofs := 2 * ofs + 1
      findP left key arr base n (hint + 1 - min ofs top) (hint - last)) := rfl
def bval (blt : Keyed → Keyed → Bool) (left : Bool) (key x : Keyed) : Bool := if left then blt x key else !blt key x
structure Row (Ok : Keyed → Prop) (arr : Array Keyed) (base n : Nat) (el : Nat → Keyed) : Prop where
  at_ : ∀ i, i < n → arr[base + i]? = some (el i)
  ok : ∀ i, i < n → Ok (el i)
theorem beyond_ok (C : Cmp prog w A s kd Ok blt) {st : SortSt} {left : Bool} {key : Keyed} {arr : Array Keyed} {base n i : Nat} {el : Nat → Keyed} (R : Row Ok arr base n el) (ok : Ok key) (hk : kindOf st = kd) (hi : i < n)
    {Q : Option Bool → SortSt → Prop} (h : Q (some (bval blt left key (el i))) st) : wpS (model prog w) A E s (beyondP left key arr base i) Q st := by
  unfold beyondP
  refine wpS_bind (elem_ok (R.at_ i hi) ?_)
  cases left with
  | true =>
    rw [if_pos rfl]
    exact lt_ok C hk (R.ok i hi) ok h
  | false =>
    rw [if_neg Bool.false_ne_true]
    exact wpS_bind (lt_ok C hk ok (R.ok i hi) (wpS_pure h))
theorem find_ok (C : Cmp prog w A s kd Ok blt) {st : SortSt} {left : Bool} {key : Keyed} {arr : Array Keyed} {base n lo hi : Nat} {el : Nat → Keyed} (R : Row Ok arr base n el) (ok : Ok key) (hk : kindOf st = kd)
    (mono : ∀ i j, i ≤ j → j < n → bval blt left key (el j) = true → bval blt left key (el i) = true) (h1 : lo ≤ hi) (h2 : hi ≤ n) (t1 : ∀ i, i < lo → bval blt left key (el i) = true) (t2 : ∀ i, hi ≤ i → i < n → bval blt left key (el i) = false)
    {Q : Option Nat → SortSt → Prop} (h : ∀ k, k ≤ n → (∀ i, i < k → bval blt left key (el i) = true) → (∀ i, k ≤ i → i < n → bval blt left key (el i) = false) → Q (some k) st) : wpS (model prog w) A E s (findP left key arr base n lo hi) Q st := by
  unfold findP
  refine wpS_bind (wpS_mono (wpS_forRange (I := fun x c st' => ∃ l r, c = (none, l, r) ∧ st' = st ∧ l ≤ r ∧ r ≤ n ∧ r - l + x ≤ n ∧ (∀ i, i < l → bval blt left key (el i) = true) ∧ (∀ i, r ≤ i → i < n → bval blt left key (el i) = false))
    (Q := fun c st' => ∃ r, c = (none, r, r) ∧ st' = st ∧ r ≤ n ∧ (∀ i, i < r → bval blt left key (el i) = true) ∧ (∀ i, r ≤ i → i < n → bval blt left key (el i) = false)) ?_ ?_ ⟨lo, hi, rfl, rfl, h1, h2, by omega, t1, t2⟩) ?_)
  · rintro x c st' _ hx ⟨l, r, rfl, rfl, a1, a2, a3, b1, b2⟩
    dsimp only
    by_cases hlr : l ≥ r
    · rw [if_pos hlr]
      have e : l = r := by omega
      subst e
      exact wpS_pure ⟨l, rfl, rfl, a2, b1, b2⟩
    · rw [if_neg hlr]
      have hm : l + (r - l) / 2 < n := by omega
      refine wpS_bind (beyond_ok C R ok hk hm ?_)
      dsimp only
      cases hb : bval blt left key (el (l + (r - l) / 2)) with
      | true =>
        rw [if_pos rfl]
        exact wpS_pure ⟨l + (r - l) / 2 + 1, r, rfl, rfl, by omega, a2, by omega, fun i hi => mono i _ (by omega) hm hb, b2⟩
      | false =>
        rw [if_neg Bool.false_ne_true]
        refine wpS_pure ⟨l, l + (r - l) / 2, rfl, rfl, by omega, by omega, by omega, b1, fun i hi hn => ?_⟩
        cases q : bval blt left key (el i) with
        | false => rfl
        | true => rw [mono _ i hi hn q] at hb; cases hb
  · rintro c st' ⟨l, r, rfl, rfl, a1, a2, a3, b1, b2⟩
    have e : l = r := by
      have : max 0 n = n := by omega
      rw [this] at a3
      omega
    subst e
    exact ⟨l, rfl, rfl, a2, b1, b2⟩
  · rintro c st' ⟨r, rfl, rfl, a2, b1, b2⟩
    exact wpS_pure (h r a2 b1 b2)
theorem gallop_ok (C : Cmp prog w A s kd Ok blt) {st : SortSt} {left : Bool} {key : Keyed} {arr : Array Keyed} {base n hint : Nat} {el : Nat → Keyed} (R : Row Ok arr base n el) (ok : Ok key) (hk : kindOf st = kd) (hh : hint < n)
    (mono : ∀ i j, i ≤ j → j < n → bval blt left key (el j) = true → bval blt left key (el i) = true)
    {Q : Option Nat → SortSt → Prop} (h : ∀ k, k ≤ n → (∀ i, i < k → bval blt left key (el i) = true) → (∀ i, k ≤ i → i < n → bval blt left key (el i) = false) → Q (some k) st) : wpS (model prog w) A E s (gallopP left key arr base n hint) Q st := by
  have anti : ∀ i j, i ≤ j → j < n → bval blt left key (el i) = false → bval blt left key (el j) = false := fun i j hij hj q => by
    cases z : bval blt left key (el j) with
    | false => rfl
    | true => rw [mono i j hij hj z] at q; cases q
  rw [gallopP_eq]
  refine wpS_bind (beyond_ok C R ok hk hh ?_)
  dsimp only
  cases hb : bval blt left key (el hint) with
  | true =>
    rw [if_pos rfl]
    refine wpS_bind (wpS_mono (wpS_forRange (I := fun x c st' => ∃ la o, c = (none, la, o) ∧ st' = st ∧ la < o ∧ x + 1 ≤ o ∧ hint + la < n ∧ bval blt left key (el (hint + la)) = true)
      (Q := fun c st' => ∃ la o, c = (none, la, o) ∧ st' = st ∧ la < o ∧ hint + la < n ∧ bval blt left key (el (hint + la)) = true ∧ (o ≥ n - hint ∨ (hint + o < n ∧ bval blt left key (el (hint + o)) = false))) ?_ ?_
      ⟨0, 1, rfl, rfl, by omega, by omega, by omega, hb⟩) ?_)
    · rintro x c st' _ hx ⟨la, o, rfl, rfl, a1, a2, a3, b1⟩
      dsimp only
      by_cases ho : o ≥ n - hint
      · rw [if_pos ho]
        exact wpS_pure ⟨la, o, rfl, rfl, a1, a3, b1, .inl ho⟩
      · rw [if_neg ho]
        have hm : hint + o < n := by omega
        refine wpS_bind (beyond_ok C R ok hk hm ?_)
        dsimp only
        cases hb2 : bval blt left key (el (hint + o)) with
        | true =>
          simp only [Bool.not_true, Bool.false_eq_true, if_false]
          exact wpS_pure ⟨o, 2 * o + 1, rfl, rfl, by omega, by omega, hm, hb2⟩
        | false =>
          simp only [Bool.not_false, if_true]
          exact wpS_pure ⟨la, o, rfl, rfl, a1, a3, b1, .inr ⟨hm, hb2⟩⟩
    · rintro c st' ⟨la, o, rfl, rfl, a1, a2, a3, b1⟩
      have : max 0 n = n := by omega
      rw [this] at a2
      exact ⟨la, o, rfl, rfl, a1, a3, b1, .inl (by omega)⟩
    · rintro c st' ⟨la, o, rfl, rfl, a1, a3, b1, b2⟩
      dsimp only
      refine find_ok C R ok hk mono (by omega) (by omega) (fun i hi => mono i _ (by omega) a3 b1) (fun i hi hn => ?_) h
      rcases b2 with b2 | ⟨b2, b3⟩
      · exfalso; omega
      · exact anti _ i (by omega) hn b3
  | false =>
    rw [if_neg Bool.false_ne_true]
    refine wpS_bind (wpS_mono (wpS_forRange (I := fun x c st' => ∃ la o, c = (none, la, o) ∧ st' = st ∧ la < o ∧ x + 1 ≤ o ∧ la ≤ hint ∧ bval blt left key (el (hint - la)) = false)
      (Q := fun c st' => ∃ la o, c = (none, la, o) ∧ st' = st ∧ la < o ∧ la ≤ hint ∧ bval blt left key (el (hint - la)) = false ∧ (o ≥ hint + 1 ∨ (o ≤ hint ∧ bval blt left key (el (hint - o)) = true))) ?_ ?_
      ⟨0, 1, rfl, rfl, by omega, by omega, by omega, hb⟩) ?_)
    · rintro x c st' _ hx ⟨la, o, rfl, rfl, a1, a2, a3, b1⟩
      dsimp only
      by_cases ho : o ≥ hint + 1
      · rw [if_pos ho]
        exact wpS_pure ⟨la, o, rfl, rfl, a1, a3, b1, .inl ho⟩
      · rw [if_neg ho]
        have hm : hint - o < n := by omega
        refine wpS_bind (beyond_ok C R ok hk hm ?_)
        dsimp only
        cases hb2 : bval blt left key (el (hint - o)) with
        | true =>
          rw [if_pos rfl]
          exact wpS_pure ⟨la, o, rfl, rfl, a1, a3, b1, .inr ⟨by omega, hb2⟩⟩
        | false =>
          rw [if_neg Bool.false_ne_true]
          exact wpS_pure ⟨o, 2 * o + 1, rfl, rfl, by omega, by omega, by omega, hb2⟩
    · rintro c st' ⟨la, o, rfl, rfl, a1, a2, a3, b1⟩
      have : max 0 n = n := by omega
      rw [this] at a2
      exact ⟨la, o, rfl, rfl, a1, a3, b1, .inl (by omega)⟩
    · rintro c st' ⟨la, o, rfl, rfl, a1, a3, b1, b2⟩
      dsimp only
      refine find_ok C R ok hk mono (by omega) (by omega) (fun i hi => ?_) (fun i hi hn => anti _ i hi hn b1) h
      rcases b2 with b2 | ⟨b2, b3⟩
      · exfalso; omega
      · exact mono i _ (by omega) (by omega) b3
end
end Ts
namespace Ts
open PySem PyProof.Rows
structure MI {α : Type} (R : α → α → Prop) (xs ys out : List α) (i j : Nat) : Prop where
  perm : out.Perm (xs.take i ++ ys.take j)
  srt : out.Pairwise R
  lx : ∀ o ∈ out, ∀ z ∈ xs.drop i, R o z
  ly : ∀ o ∈ out, ∀ z ∈ ys.drop j, R o z
section
variable {α : Type} {R : α → α → Prop} {xs ys out : List α} {i j : Nat}
theorem drop_cons {l : List α} {n : Nat} {a : α} (h : l[n]? = some a) : l.drop n = a :: l.drop (n + 1) := by
  obtain ⟨hn, e⟩ := List.getElem?_eq_some_iff.mp h
  rw [List.drop_eq_getElem_cons hn, e]
theorem take_snoc {l : List α} {n : Nat} {a : α} (h : l[n]? = some a) : l.take (n + 1) = l.take n ++ [a] := by
  rw [List.take_succ, h]; rfl
theorem MI.pushY (M : MI R xs ys out i j) (sy : ys.Pairwise R) {y : α} (hy : ys[j]? = some y) (hx : ∀ z ∈ xs.drop i, R y z) : MI R xs ys (out ++ [y]) i (j + 1) := by
  have dy := drop_cons hy
  have sd : (y :: ys.drop (j + 1)).Pairwise R := by rw [← dy]; exact List.Pairwise.sublist (List.drop_sublist _ _) sy
  obtain ⟨s1, s2⟩ := List.pairwise_cons.mp sd
  refine ⟨?_, ?_, fun o ho z hz => ?_, fun o ho z hz => ?_⟩
  · rw [take_snoc hy, ← List.append_assoc]
    exact M.perm.append_right _
  · refine List.pairwise_append.mpr ⟨M.srt, List.pairwise_singleton _ _, fun o ho z hz => ?_⟩
    have e : z = y := by simpa using hz
    rw [e]
    exact M.ly o ho y (by rw [dy]; exact List.mem_cons_self)
  · rcases List.mem_append.mp ho with ho | ho
    · exact M.lx o ho z hz
    · have e : o = y := by simpa using ho
      rw [e]; exact hx z hz
  · rcases List.mem_append.mp ho with ho | ho
    · exact M.ly o ho z (by rw [dy]; exact List.mem_cons_of_mem _ hz)
    · have e : o = y := by simpa using ho
      rw [e]; exact s1 z hz
theorem MI.pushX (M : MI R xs ys out i j) (sx : xs.Pairwise R) {x : α} (hx : xs[i]? = some x) (hy : ∀ z ∈ ys.drop j, R x z) : MI R xs ys (out ++ [x]) (i + 1) j := by
  have dx := drop_cons hx
  have sd : (x :: xs.drop (i + 1)).Pairwise R := by rw [← dx]; exact List.Pairwise.sublist (List.drop_sublist _ _) sx
  obtain ⟨s1, s2⟩ := List.pairwise_cons.mp sd
  refine ⟨?_, ?_, fun o ho z hz => ?_, fun o ho z hz => ?_⟩
  · rw [take_snoc hx]
    have p1 : (out ++ [x]).Perm ((xs.take i ++ ys.take j) ++ [x]) := M.perm.append_right _
    refine p1.trans ?_
    rw [List.append_assoc, List.append_assoc]
    exact List.Perm.append_left _ List.perm_append_comm
  · refine List.pairwise_append.mpr ⟨M.srt, List.pairwise_singleton _ _, fun o ho z hz => ?_⟩
    have e : z = x := by simpa using hz
    rw [e]
    exact M.lx o ho x (by rw [dx]; exact List.mem_cons_self)
  · rcases List.mem_append.mp ho with ho | ho
    · exact M.lx o ho z (by rw [dx]; exact List.mem_cons_of_mem _ hz)
    · have e : o = x := by simpa using ho
      rw [e]; exact s1 z hz
  · rcases List.mem_append.mp ho with ho | ho
    · exact M.ly o ho z hz
    · have e : o = x := by simpa using ho
      rw [e]; exact hy z hz
theorem take_drop_snoc {l : List α} {n k : Nat} {a : α} (h : l[n + k]? = some a) : (l.drop n).take (k + 1) = (l.drop n).take k ++ [a] := take_snoc (by rw [List.getElem?_drop]; exact h)
theorem MI.blockX (M : MI R xs ys out i j) (sx : xs.Pairwise R) : ∀ k, i + k ≤ xs.length → (∀ m, m < k → ∀ x, xs[i + m]? = some x → ∀ z ∈ ys.drop j, R x z) → MI R xs ys (out ++ (xs.drop i).take k) (i + k) j
  | 0, _, _ => by simpa using M
  | k + 1, hk, h => by
    have ih := MI.blockX M sx k (by omega) fun m hm => h m (by omega)
    obtain ⟨x, hx⟩ : ∃ x, xs[i + k]? = some x := ⟨xs[i + k], by simp⟩
    rw [take_drop_snoc hx, ← List.append_assoc]
    exact ih.pushX sx hx (h k (by omega) x hx)
theorem MI.blockY (M : MI R xs ys out i j) (sy : ys.Pairwise R) : ∀ k, j + k ≤ ys.length → (∀ m, m < k → ∀ y, ys[j + m]? = some y → ∀ z ∈ xs.drop i, R y z) → MI R xs ys (out ++ (ys.drop j).take k) i (j + k)
  | 0, _, _ => by simpa using M
  | k + 1, hk, h => by
    have ih := MI.blockY M sy k (by omega) fun m hm => h m (by omega)
    obtain ⟨y, hy⟩ : ∃ y, ys[j + k]? = some y := ⟨ys[j + k], by simp⟩
    rw [take_drop_snoc hy, ← List.append_assoc]
    exact ih.pushY sy hy (h k (by omega) y hy)
theorem MI.endX (M : MI R xs ys out i j) (sx : xs.Pairwise R) (hj : ys.length ≤ j) : (out ++ xs.drop i ++ ys.drop j).Perm (xs ++ ys) ∧ (out ++ xs.drop i ++ ys.drop j).Pairwise R := by
  rw [List.drop_eq_nil_of_le hj, List.append_nil]
  constructor
  · have p1 : (out ++ xs.drop i).Perm ((xs.take i ++ ys.take j) ++ xs.drop i) := M.perm.append_right _
    refine p1.trans ?_
    rw [List.take_of_length_le hj]
    have p2 : (xs.take i ++ ys ++ xs.drop i).Perm (xs.take i ++ (xs.drop i ++ ys)) := by
      rw [List.append_assoc]
      exact List.Perm.append_left _ List.perm_append_comm
    refine p2.trans ?_
    rw [← List.append_assoc, List.take_append_drop]
  · exact List.pairwise_append.mpr ⟨M.srt, List.Pairwise.sublist (List.drop_sublist _ _) sx, M.lx⟩
theorem MI.endYX (M : MI R xs ys out i j) (sx : xs.Pairwise R) (sy : ys.Pairwise R) (h : ∀ y ∈ ys.drop j, ∀ x ∈ xs.drop i, R y x) : (out ++ ys.drop j ++ xs.drop i).Perm (xs ++ ys) ∧ (out ++ ys.drop j ++ xs.drop i).Pairwise R := by
  constructor
  · have p1 : (out ++ (ys.drop j ++ xs.drop i)).Perm ((xs.take i ++ ys.take j) ++ (ys.drop j ++ xs.drop i)) := M.perm.append_right _
    rw [List.append_assoc]
    refine p1.trans ?_
    rw [List.append_assoc, ← List.append_assoc (ys.take j), List.take_append_drop]
    have p2 : (xs.take i ++ (ys ++ xs.drop i)).Perm (xs.take i ++ (xs.drop i ++ ys)) := List.Perm.append_left _ List.perm_append_comm
    refine p2.trans ?_
    rw [← List.append_assoc, List.take_append_drop]
  · refine List.pairwise_append.mpr ⟨List.pairwise_append.mpr ⟨M.srt, List.Pairwise.sublist (List.drop_sublist _ _) sy, M.ly⟩, List.Pairwise.sublist (List.drop_sublist _ _) sx, fun a ha b hb => ?_⟩
    rcases List.mem_append.mp ha with ha | ha
    · exact M.lx a ha b hb
    · exact h a ha b hb
end
end Ts
namespace Ts
open PySem PyProof.Rows
def mergeLoP : Array Keyed → Array Keyed → StateT SortSt Sem (Array Keyed) := sortPriv% PySem.Builtin.mergeLo
def setMinP : Nat → StateT SortSt Sem Unit := sortPriv% PySem.Builtin.setMinGallop
abbrev setMin (st : SortSt) (g : Nat) : SortSt := SortSt.mk' (kindOf st) (arrOf st) (pendingOf st) g (failedOf st)
theorem setMinP_eq (g : Nat) : setMinP g = modify fun st => setMin st g := rfl
theorem ext_all (p : Array Keyed) (i : Nat) : (p.extract i p.size).toList = p.toList.drop i := by
  rw [Array.toList_extract, List.extract_eq_take_drop, List.take_of_length_le]
  rw [List.length_drop, Array.length_toList]
  exact Nat.le_refl _
theorem ext_some (p : Array Keyed) (i k : Nat) : (p.extract i (i + k)).toList = (p.toList.drop i).take k := by
  rw [Array.toList_extract, List.extract_eq_take_drop, Nat.add_sub_cancel_left]
abbrev dn (p q out : Array Keyed) (i j : Nat) : Array Keyed := out ++ p.extract i p.size ++ q.extract j q.size
abbrev lst (p q out : Array Keyed) (i j : Nat) : Array Keyed := out ++ q.extract j q.size ++ p.extract i p.size
theorem dn_list (p q out : Array Keyed) (i j : Nat) : (dn p q out i j).toList = out.toList ++ p.toList.drop i ++ q.toList.drop j := by
  rw [Array.toList_append, Array.toList_append, ext_all, ext_all]
theorem lst_list (p q out : Array Keyed) (i j : Nat) : (lst p q out i j).toList = out.toList ++ q.toList.drop j ++ p.toList.drop i := by
  rw [Array.toList_append, Array.toList_append, ext_all, ext_all]
abbrev LoSg := Option (Array Keyed) × Array Keyed × Nat × Nat × Nat × Nat × Nat
def loG3 (p q out : Array Keyed) (i j g ac k : Nat) : StateT SortSt Sem (ForInStep LoSg) := do
  let x ← elem' p i
  if (i + 1 + 1 == p.size) = true then pure (ForInStep.done (some (lst p q (out.push x) (i + 1) j), out.push x, i + 1, j, g, ac, k))
  else if (decide (ac < 7) && decide (k < 7)) = true then pure (ForInStep.done (none, out.push x, i + 1, j, g, ac, k))
  else pure (ForInStep.yield (none, out.push x, i + 1, j, g, ac, k))
def loG2 (p q out : Array Keyed) (i j g ac bc : Nat) : StateT SortSt Sem (ForInStep LoSg) := do
  let y ← elem' q j
  if (j + 1 == q.size) = true then pure (ForInStep.done (some (dn p q (out.push y) i (j + 1)), out.push y, i, j + 1, g, ac, bc))
  else do
    let x ← elem' p i
    let some k ← gallopP true x q (j + 1) (q.size - (j + 1)) 0 | pure (ForInStep.done (some (dn p q (out.push y) i (j + 1)), out.push y, i, j + 1, g, ac, bc))
    if k > 0 then
      if (j + 1 + k == q.size) = true then pure (ForInStep.done (some (dn p q (out.push y ++ q.extract (j + 1) (j + 1 + k)) i (j + 1 + k)), out.push y ++ q.extract (j + 1) (j + 1 + k), i, j + 1 + k, g, ac, k))
      else loG3 p q (out.push y ++ q.extract (j + 1) (j + 1 + k)) i (j + 1 + k) g ac k
    else loG3 p q (out.push y) i (j + 1) g ac k
def loG1 (p q out : Array Keyed) (i j g ac bc : Nat) : StateT SortSt Sem (ForInStep LoSg) := do
  setMinP g
  let y ← elem' q j
  let some k ← gallopP false y p i (p.size - i) 0 | pure (ForInStep.done (some (dn p q out i j), out, i, j, g, ac, bc))
  if k > 0 then
    if (i + k + 1 == p.size) = true then pure (ForInStep.done (some (lst p q (out ++ p.extract i (i + k)) (i + k) j), out ++ p.extract i (i + k), i + k, j, g, k, bc))
    else if (i + k == p.size) = true then pure (ForInStep.done (some (dn p q (out ++ p.extract i (i + k)) (i + k) j), out ++ p.extract i (i + k), i + k, j, g, k, bc))
    else loG2 p q (out ++ p.extract i (i + k)) (i + k) j g k bc
  else loG2 p q out i j g k bc
section
variable {prog : Program} {w : World} {A : Around} {s : Shared} {kd : SortKind} {Ok : Keyed → Prop} {blt : Keyed → Keyed → Bool} {E : Value → Shared → Prop}
theorem rule_ok {st : SortSt} {x : String} {Q : Unit → SortSt → Prop} (h : Q () st) : wpS (model prog w) A E s (liftM (rule x) : StateT SortSt Sem Unit) Q st := wpS_lift (wpAny_rule ⟨rfl, h⟩)
theorem setMin_ok {st : SortSt} {g : Nat} {Q : Unit → SortSt → Prop} (h : ∀ st', Kept st st' → Q () st') : wpS (model prog w) A E s (setMinP g) Q st := by
  rw [setMinP_eq]
  exact wpS_modify (h _ ⟨rfl, rfl, rfl, rfl⟩)
structure Two (Ok : Keyed → Prop) (blt : Keyed → Keyed → Bool) (p q : Array Keyed) (x0 y0 xl : Keyed) : Prop where
  op : ∀ x ∈ p.toList, Ok x
  oq : ∀ x ∈ q.toList, Ok x
  sp : p.toList.Pairwise (le blt)
  sq : q.toList.Pairwise (le blt)
  hx0 : p[0]? = some x0
  hy0 : q[0]? = some y0
  hxl : p[p.size - 1]? = some xl
  first : blt y0 x0 = true
  last : ∀ y ∈ q.toList, blt y xl = true
abbrev Res (blt : Keyed → Keyed → Bool) (p q r : Array Keyed) : Prop := r.toList.Perm (p.toList ++ q.toList) ∧ r.toList.Pairwise (le blt)
theorem at_list {p : Array Keyed} {i : Nat} {x : Keyed} (h : p[i]? = some x) : p.toList[i]? = some x := by simpa using h
theorem at_arr {p : Array Keyed} {i : Nat} (h : i < p.size) : ∃ x, p[i]? = some x := ⟨p[i], by simp [h]⟩
theorem mem_at {p : Array Keyed} {i : Nat} {x : Keyed} (h : p[i]? = some x) : x ∈ p.toList := List.mem_of_getElem? (at_list h)
theorem mem_drop {α : Type} {l : List α} {i : Nat} {z : α} (h : z ∈ l.drop i) : ∃ k, l[i + k]? = some z := by
  obtain ⟨k, hk, e⟩ := List.mem_iff_getElem.mp h
  exact ⟨k, by rw [← List.getElem?_drop, List.getElem?_eq_getElem hk, e]⟩
theorem sorted_le (C : Cmp prog w A s kd Ok blt) {l : List Keyed} (sl : l.Pairwise (le blt)) {i j : Nat} {x y : Keyed} (hij : i ≤ j) (hx : l[i]? = some x) (hy : l[j]? = some y) : le blt x y := by
  by_cases e : i = j
  · subst e
    rw [hx] at hy
    cases hy
    exact C.refl x
  · obtain ⟨hi, ex⟩ := List.getElem?_eq_some_iff.mp hx
    obtain ⟨hj, ey⟩ := List.getElem?_eq_some_iff.mp hy
    have := List.pairwise_iff_getElem.mp sl i j hi hj (by omega)
    rw [ex, ey] at this
    exact this
theorem le_drop (C : Cmp prog w A s kd Ok blt) {l : List Keyed} (sl : l.Pairwise (le blt)) {i : Nat} {x y : Keyed} (hx : l[i]? = some x) (h : le blt y x) : ∀ z ∈ l.drop i, le blt y z := fun z hz => by
  obtain ⟨k, hk⟩ := mem_drop hz
  exact C.trans h (sorted_le C sl (Nat.le_add_right i k) hx hk)
abbrev LI (blt : Keyed → Keyed → Bool) (p q out : Array Keyed) (i j : Nat) : Prop := MI (le blt) p.toList q.toList out.toList i j
theorem push_list (out : Array Keyed) (x : Keyed) : (out.push x).toList = out.toList ++ [x] := by simp
theorem Two.last_end (C : Cmp prog w A s kd Ok blt) {p q out : Array Keyed} {x0 y0 xl : Keyed} (T : Two Ok blt p q x0 y0 xl) {i j : Nat} (M : LI blt p q out i j) (hi : i + 1 = p.size) : Res blt p q (lst p q out i j) := by
  have h := M.endYX T.sp T.sq (fun y hy x hx => ?_)
  · rw [← lst_list] at h
    exact h
  · obtain ⟨k, hk⟩ := mem_drop hx
    have : k = 0 := by
      have := (List.getElem?_eq_some_iff.mp hk).1
      rw [Array.length_toList] at this
      omega
    subst this
    have e : x = xl := by
      have := at_list T.hxl
      rw [show p.size - 1 = i + 0 by omega, hk] at this
      exact Option.some.inj this
    rw [e]
    exact C.ofLt (T.last y (List.mem_of_mem_drop hy))
theorem Two.done_end {p q out : Array Keyed} {x0 y0 xl : Keyed} (T : Two Ok blt p q x0 y0 xl) {i j : Nat} (M : LI blt p q out i j) (hj : q.size ≤ j) : Res blt p q (dn p q out i j) := by
  have h := M.endX T.sp (by rw [Array.length_toList]; exact hj)
  rw [← dn_list] at h
  exact h
def LoQ (blt : Keyed → Keyed → Bool) (p q : Array Keyed) (st : SortSt) (n : Nat) (r : ForInStep LoSg) (st' : SortSt) : Prop := Kept st st' ∧ match r with
  | .done (some r, _) => Res blt p q r
  | .done (none, out, i, j, _) => LI blt p q out i j ∧ i + 1 < p.size ∧ j < q.size ∧ n < i + j
  | .yield (none, out, i, j, _) => LI blt p q out i j ∧ i + 1 < p.size ∧ j < q.size ∧ n < i + j
  | .yield (some _, _) => False
theorem loG3_ok (C : Cmp prog w A s kd Ok blt) {p q out : Array Keyed} {x0 y0 xl : Keyed} (T : Two Ok blt p q x0 y0 xl) {i j g ac k n : Nat} {st0 st : SortSt} (kp : Kept st0 st) (M : LI blt p q out i j) (hi : i + 1 < p.size) (hj : j < q.size) (hn : n ≤ i + j) {x : Keyed} (hx : p[i]? = some x)
    (hq : ∀ z ∈ q.toList.drop j, le blt x z) : wpS (model prog w) A E s (loG3 p q out i j g ac k) (LoQ blt p q st0 n) st := by
  unfold loG3
  refine wpS_bind (elem_ok hx ?_)
  have M1 : LI blt p q (out.push x) (i + 1) j := by
    have := M.pushX T.sp (at_list hx) hq
    rw [← push_list] at this
    exact this
  by_cases h1 : i + 1 + 1 = p.size
  · rw [if_pos (by rw [h1]; exact beq_self_eq_true _)]
    exact wpS_pure ⟨kp, T.last_end C M1 h1⟩
  · rw [if_neg (fun z => h1 (eq_of_beq z))]
    by_cases h2 : (decide (ac < 7) && decide (k < 7)) = true
    · rw [if_pos h2]
      exact wpS_pure ⟨kp, M1, by omega, hj, by omega⟩
    · rw [if_neg h2]
      exact wpS_pure ⟨kp, M1, by omega, hj, by omega⟩
theorem loG2_ok (C : Cmp prog w A s kd Ok blt) {p q out : Array Keyed} {x0 y0 xl : Keyed} (T : Two Ok blt p q x0 y0 xl) {i j g ac bc n : Nat} {st0 st : SortSt} (kp : Kept st0 st) (hk : kindOf st = kd) (M : LI blt p q out i j) (hi : i + 1 < p.size) (hj : j < q.size) (hn : n ≤ i + j) {x y : Keyed} (hx : p[i]? = some x) (hy : q[j]? = some y)
    (hyx : blt y x = true) : wpS (model prog w) A E s (loG2 p q out i j g ac bc) (LoQ blt p q st0 n) st := by
  unfold loG2
  refine wpS_bind (elem_ok hy ?_)
  have M1 : LI blt p q (out.push y) i (j + 1) := by
    have := M.pushY T.sq (at_list hy) (le_drop C T.sp (at_list hx) (C.ofLt hyx))
    rw [← push_list] at this
    exact this
  by_cases h1 : j + 1 = q.size
  · rw [if_pos (by rw [h1]; exact beq_self_eq_true _)]
    exact wpS_pure ⟨kp, T.done_end M1 (by omega)⟩
  · rw [if_neg (fun z => h1 (eq_of_beq z))]
    refine wpS_bind (elem_ok hx ?_)
    have R : Row Ok q (j + 1) (q.size - (j + 1)) (fun m => q.getD (j + 1 + m) y) := ⟨fun m hm => ?_, fun m hm => ?_⟩
    · refine wpS_bind (gallop_ok C R (T.op x (mem_at hx)) hk (by omega) (fun a b hab hb q1 => ?_) fun k hk1 t1 t2 => ?_)
      · obtain ⟨ya, ea⟩ := at_arr (p := q) (i := j + 1 + a) (by omega)
        obtain ⟨yb, eb⟩ := at_arr (p := q) (i := j + 1 + b) (by omega)
        have ga : q.getD (j + 1 + a) y = ya := by simp [Array.getD_eq_getD_getElem?, ea]
        have gb : q.getD (j + 1 + b) y = yb := by simp [Array.getD_eq_getD_getElem?, eb]
        simp only [ga, gb, bval, if_true] at q1 ⊢
        exact C.leLt (sorted_le C T.sq (by omega) (at_list ea) (at_list eb)) q1
      · dsimp only
        have val : ∀ m yy, q[j + 1 + m]? = some yy → q.getD (j + 1 + m) y = yy := fun m yy e => by simp [Array.getD_eq_getD_getElem?, e]
        have M2 : LI blt p q (out.push y ++ q.extract (j + 1) (j + 1 + k)) i (j + 1 + k) := by
          have := M1.blockY T.sq k (by rw [Array.length_toList]; omega) (fun m hm yy ey => by
            have ey' : q[j + 1 + m]? = some yy := by simpa using ey
            have := t1 m hm
            rw [val m yy ey'] at this
            simp only [bval, if_true] at this
            exact le_drop C T.sp (at_list hx) (C.ofLt this))
          rw [← ext_some, ← Array.toList_append] at this
          exact this
        by_cases h2 : k > 0
        · rw [if_pos h2]
          by_cases h3 : j + 1 + k = q.size
          · rw [if_pos (by rw [h3]; exact beq_self_eq_true _)]
            exact wpS_pure ⟨kp, T.done_end M2 (by omega)⟩
          · rw [if_neg (fun z => h3 (eq_of_beq z))]
            obtain ⟨yk, ek⟩ := at_arr (p := q) (i := j + 1 + k) (by omega)
            refine loG3_ok C T kp M2 hi (by omega) (by omega) hx (le_drop C T.sq (at_list ek) ?_)
            have := t2 k (Nat.le_refl _) (by omega)
            rw [val k yk ek] at this
            have z : blt yk x = false := by simpa only [bval, if_true] using this
            exact z
        · rw [if_neg h2]
          have hk0 : k = 0 := by omega
          subst hk0
          obtain ⟨yk, ek⟩ := at_arr (p := q) (i := j + 1) (by omega)
          refine loG3_ok C T kp M1 hi (by omega) (by omega) hx (le_drop C T.sq (at_list ek) ?_)
          have := t2 0 (Nat.le_refl _) (by omega)
          rw [val 0 yk ek] at this
          have z : blt yk x = false := by simpa only [bval, if_true] using this
          exact z
    · obtain ⟨ya, ea⟩ := at_arr (p := q) (i := j + 1 + m) (by omega)
      rw [ea]
      simp [Array.getD_eq_getD_getElem?, ea]
    · obtain ⟨ya, ea⟩ := at_arr (p := q) (i := j + 1 + m) (by omega)
      have : q.getD (j + 1 + m) y = ya := by simp [Array.getD_eq_getD_getElem?, ea]
      rw [this]
      exact T.oq ya (mem_at ea)
theorem loG1_ok (C : Cmp prog w A s kd Ok blt) {p q out : Array Keyed} {x0 y0 xl : Keyed} (T : Two Ok blt p q x0 y0 xl) {i j g ac bc n : Nat} {st0 st : SortSt} (kp : Kept st0 st) (hk : kindOf st = kd) (M : LI blt p q out i j) (hi : i + 1 < p.size) (hj : j < q.size) (hn : n ≤ i + j) :
    wpS (model prog w) A E s (loG1 p q out i j g ac bc) (LoQ blt p q st0 n) st := by
  unfold loG1
  refine wpS_bind (setMin_ok fun st1 kp1 => ?_)
  have kp' := kp.trans kp1
  have hk' : kindOf st1 = kd := kp1.kind.trans hk
  obtain ⟨y, hy⟩ := at_arr (p := q) hj
  refine wpS_bind (elem_ok hy ?_)
  have val : ∀ m xx, p[i + m]? = some xx → p.getD (i + m) y = xx := fun m xx e => by simp [Array.getD_eq_getD_getElem?, e]
  have R : Row Ok p i (p.size - i) (fun m => p.getD (i + m) y) := ⟨fun m hm => by
    obtain ⟨xa, ea⟩ := at_arr (p := p) (i := i + m) (by omega)
    rw [val m xa ea, ea], fun m hm => by
    obtain ⟨xa, ea⟩ := at_arr (p := p) (i := i + m) (by omega)
    show Ok (p.getD (i + m) y)
    rw [val m xa ea]
    exact T.op xa (mem_at ea)⟩
  refine wpS_bind (gallop_ok C R (T.oq y (mem_at hy)) hk' (by omega) (fun a b hab hb q1 => ?_) fun k hk1 t1 t2 => ?_)
  · obtain ⟨xa, ea⟩ := at_arr (p := p) (i := i + a) (by omega)
    obtain ⟨xb, eb⟩ := at_arr (p := p) (i := i + b) (by omega)
    simp only [val a xa ea, val b xb eb, bval, Bool.false_eq_true, if_false, Bool.not_eq_true'] at q1 ⊢
    exact C.trans (sorted_le C T.sp (by omega) (at_list ea) (at_list eb)) q1
  · dsimp only
    -- the last one is beyond y: so k does not reach it
    have hkl : i + k + 1 ≤ p.size := by
      rcases Nat.lt_or_ge (i + k) p.size with z | z
      · omega
      · exfalso
        have := t1 (p.size - 1 - i) (by omega)
        have e : p[i + (p.size - 1 - i)]? = some xl := by
          rw [show i + (p.size - 1 - i) = p.size - 1 by omega]
          exact T.hxl
        rw [val _ xl e] at this
        simp only [bval, Bool.false_eq_true, if_false, T.last y (mem_at hy), Bool.not_true] at this
    have M1 : LI blt p q (out ++ p.extract i (i + k)) (i + k) j := by
      have := M.blockX T.sp k (by rw [Array.length_toList]; omega) (fun m hm xx ex => by
        have ex' : p[i + m]? = some xx := by simpa using ex
        have := t1 m hm
        rw [val m xx ex'] at this
        simp only [bval, Bool.false_eq_true, if_false, Bool.not_eq_true'] at this
        exact le_drop C T.sq (at_list hy) this)
      rw [← ext_some, ← Array.toList_append] at this
      exact this
    obtain ⟨xk, ek⟩ := at_arr (p := p) (i := i + k) (by omega)
    have hyx : blt y xk = true := by
      have := t2 k (Nat.le_refl _) (by omega)
      rw [val k xk ek] at this
      simpa only [bval, Bool.false_eq_true, if_false, Bool.not_eq_false'] using this
    by_cases h2 : k > 0
    · rw [if_pos h2]
      by_cases h3 : i + k + 1 = p.size
      · rw [if_pos (by rw [h3]; exact beq_self_eq_true _)]
        exact wpS_pure ⟨kp', T.last_end C M1 h3⟩
      · rw [if_neg (fun z => h3 (eq_of_beq z)), if_neg (fun z => by have := eq_of_beq z; omega)]
        exact loG2_ok C T kp' hk' M1 (by omega) hj (by omega) ek hy hyx
    · rw [if_neg h2]
      have hk0 : k = 0 := by omega
      subst hk0
      exact loG2_ok C T kp' hk' M hi hj hn ek hy hyx
theorem mergeLo_ok (C : Cmp prog w A s kd Ok blt) {p q : Array Keyed} {x0 y0 xl : Keyed} (T : Two Ok blt p q x0 y0 xl) {st : SortSt} (hk : kindOf st = kd)
    {Q : Array Keyed → SortSt → Prop} (h : ∀ r st', Kept st st' → Res blt p q r → Q r st') : wpS (model prog w) A E s (mergeLoP p q) Q st := by
  have p0 : 0 < p.size := by
    have := (Array.getElem?_eq_some_iff.mp T.hx0).1
    exact this
  have q0 : 0 < q.size := by
    have := (Array.getElem?_eq_some_iff.mp T.hy0).1
    exact this
  have M0 : LI blt p q #[y0] 0 1 := by
    have m : LI blt p q #[] 0 0 := ⟨by simp, by simp, fun o ho => by simp at ho, fun o ho => by simp at ho⟩
    have := m.pushY T.sq (at_list T.hy0) (le_drop C T.sp (at_list T.hx0) (C.ofLt T.first))
    simpa using this
  unfold mergeLoP
  refine wpS_bind (rule_ok ?_)
  refine wpS_bind (elem_ok T.hy0 ?_)
  dsimp only
  by_cases h1 : 1 = q.size
  · rw [if_pos (by rw [← h1]; rfl)]
    exact wpS_pure (h _ _ (Kept.refl _) (T.done_end M0 (by omega)))
  rw [if_neg (fun z => h1 (eq_of_beq z))]
  by_cases h2 : 0 + 1 = p.size
  · rw [if_pos (by rw [← h2]; rfl)]
    exact wpS_pure (h _ _ (Kept.refl _) (T.last_end C M0 (by omega)))
  rw [if_neg (fun z => h2 (eq_of_beq z))]
  refine wpS_bind (wpS_get ?_)
  refine wpS_bind (wpS_mono (wpS_forRange
    (I := fun x c st' => Kept st st' ∧ ∃ out i j g, c = (none, out, i, j, g) ∧ LI blt p q out i j ∧ i + 1 < p.size ∧ j < q.size ∧ x + 1 ≤ i + j)
    (Q := fun c st' => Kept st st' ∧ ∃ r rest, c = (some r, rest) ∧ Res blt p q r) ?_ ?_ ⟨Kept.refl _, _, 0, 1, _, rfl, M0, by omega, by omega, by omega⟩) ?_)
  · rintro x c st1 _ hx ⟨kp1, out, i, j, g, rfl, M, hi, hj, hn⟩
    dsimp only
    -- one by one
    refine wpS_bind (wpS_mono (wpS_forRange
      (I := fun _ c st' => st' = st1 ∧ ∃ out i j ac bc, c = (none, out, i, j, ac, bc) ∧ LI blt p q out i j ∧ i + 1 < p.size ∧ j < q.size ∧ x + 1 ≤ i + j)
      (Q := fun c st' => st' = st1 ∧ ((∃ r rest, c = (some r, rest) ∧ Res blt p q r) ∨ ∃ out i j ac bc, c = (none, out, i, j, ac, bc) ∧ LI blt p q out i j ∧ i + 1 < p.size ∧ j < q.size ∧ x + 1 ≤ i + j)) ?_ ?_ ⟨rfl, out, i, j, 0, 0, rfl, M, hi, hj, hn⟩) ?_)
    · rintro z c st2 _ hz ⟨rfl, out, i, j, ac, bc, rfl, M, hi, hj, hn⟩
      dsimp only
      obtain ⟨yy, hy⟩ := at_arr (p := q) hj
      obtain ⟨xx, hx⟩ := at_arr (p := p) (i := i) (by omega)
      refine wpS_bind (elem_ok hy ?_)
      refine wpS_bind (elem_ok hx ?_)
      refine wpS_bind (lt_ok C (kp1.kind.trans hk) (T.oq yy (mem_at hy)) (T.op xx (mem_at hx)) ?_)
      dsimp only
      cases hb : blt yy xx with
      | true =>
        rw [if_pos rfl]
        refine wpS_bind (elem_ok hy ?_)
        have M1 : LI blt p q (out.push yy) i (j + 1) := by
          have := M.pushY T.sq (at_list hy) (le_drop C T.sp (at_list hx) (C.ofLt hb))
          rw [← push_list] at this
          exact this
        by_cases e1 : j + 1 = q.size
        · rw [if_pos (by rw [e1]; exact beq_self_eq_true _)]
          exact wpS_pure ⟨rfl, .inl ⟨_, _, rfl, T.done_end M1 (by omega)⟩⟩
        · rw [if_neg (fun z => e1 (eq_of_beq z))]
          split
          · exact wpS_pure ⟨rfl, .inr ⟨_, _, _, _, _, rfl, M1, hi, by omega, by omega⟩⟩
          · exact wpS_pure ⟨rfl, _, _, _, _, _, rfl, M1, hi, by omega, by omega⟩
      | false =>
        rw [if_neg Bool.false_ne_true]
        refine wpS_bind (elem_ok hx ?_)
        have M1 : LI blt p q (out.push xx) (i + 1) j := by
          have := M.pushX T.sp (at_list hx) (le_drop C T.sq (at_list hy) hb)
          rw [← push_list] at this
          exact this
        by_cases e1 : i + 1 + 1 = p.size
        · rw [if_pos (by rw [e1]; exact beq_self_eq_true _)]
          exact wpS_pure ⟨rfl, .inl ⟨_, _, rfl, T.last_end C M1 (by omega)⟩⟩
        · rw [if_neg (fun z => e1 (eq_of_beq z))]
          split
          · exact wpS_pure ⟨rfl, .inr ⟨_, _, _, _, _, rfl, M1, by omega, hj, by omega⟩⟩
          · exact wpS_pure ⟨rfl, _, _, _, _, _, rfl, M1, by omega, hj, by omega⟩
    · rintro c st2 ⟨rfl, out, i, j, ac, bc, rfl, M⟩
      exact ⟨rfl, .inr ⟨out, i, j, ac, bc, rfl, M⟩⟩
    · rintro c st2 ⟨rfl, hc⟩
      rcases hc with ⟨r, rest, rfl, hr⟩ | ⟨out, i, j, ac, bc, rfl, M, hi, hj, hn⟩
      · exact wpS_pure ⟨kp1, r, _, rfl, hr⟩
      · dsimp only
        refine wpS_bind (rule_ok ?_)
        -- the gallop
        refine wpS_bind (wpS_mono (wpS_forRange
          (I := fun y c st' => Kept st st' ∧ ∃ out i j g ac bc, c = (none, out, i, j, g, ac, bc) ∧ LI blt p q out i j ∧ i + 1 < p.size ∧ j < q.size ∧ (if y = 0 then x + 1 ≤ i + j else x + 2 ≤ i + j))
          (Q := fun c st' => Kept st st' ∧ ((∃ r rest, c = (some r, rest) ∧ Res blt p q r) ∨ ∃ out i j g ac bc, c = (none, out, i, j, g, ac, bc) ∧ LI blt p q out i j ∧ i + 1 < p.size ∧ j < q.size ∧ x + 2 ≤ i + j)) ?_ ?_
          ⟨kp1, out, i, j, _, ac, bc, rfl, M, hi, hj, by rw [if_pos rfl]; exact hn⟩) ?_)
        · rintro y c st3 _ hy ⟨kp3, out, i, j, g, ac, bc, rfl, M, hi, hj, hn⟩
          have hn' : x + 1 ≤ i + j := by split at hn <;> omega
          have key : ∀ g', wpS (model prog w) A E s (loG1 p q out i j g' ac bc) (LoQ blt p q st (x + 1)) st3 := fun g' => loG1_ok C T kp3 (kp3.kind.trans hk) M hi hj hn'
          dsimp only
          refine wpS_mono (?_ : wpS (model prog w) A E s _ (LoQ blt p q st (x + 1)) st3) fun r st4 hr => ?_
          · by_cases hg : g > 1
            · rw [if_pos hg]
              exact key _
            · rw [if_neg hg]
              exact key _
          · obtain ⟨kp4, hr⟩ := hr
            match r, hr with
            | .done (some r, rest), hr => exact ⟨kp4, .inl ⟨r, rest, rfl, hr⟩⟩
            | .done (none, out, i, j, g, ac, bc), hr => exact ⟨kp4, .inr ⟨out, i, j, g, ac, bc, rfl, hr.1, hr.2.1, hr.2.2.1, by have := hr.2.2.2; omega⟩⟩
            | .yield (none, out, i, j, g, ac, bc), hr => exact ⟨kp4, out, i, j, g, ac, bc, rfl, hr.1, hr.2.1, hr.2.2.1, by rw [if_neg (by omega)]; have := hr.2.2.2; omega⟩
        · rintro c st3 ⟨kp3, out, i, j, g, ac, bc, rfl, M, hi, hj, hn⟩
          rw [if_neg (by omega)] at hn
          exact ⟨kp3, .inr ⟨out, i, j, g, ac, bc, rfl, M, hi, hj, hn⟩⟩
        · rintro c st3 ⟨kp3, hc⟩
          rcases hc with ⟨r, rest, rfl, hr⟩ | ⟨out, i, j, g, ac, bc, rfl, M, hi, hj, hn⟩
          · exact wpS_pure ⟨kp3, r, _, rfl, hr⟩
          · dsimp only
            refine wpS_bind (setMin_ok fun st4 kp4 => ?_)
            exact wpS_pure ⟨kp3.trans kp4, out, i, j, _, rfl, M, hi, hj, by omega⟩
  · rintro c st1 ⟨kp1, out, i, j, g, rfl, M, hi, hj, hn⟩
    exfalso
    have : max 0 (p.size + q.size) = p.size + q.size := by omega
    rw [this] at hn
    omega
  · rintro c st1 ⟨kp1, r, rest, rfl, hr⟩
    exact wpS_pure (h r st1 kp1 hr)
end
end Ts
namespace Ts
open PySem PyProof.Rows
def mergeHiP : Array Keyed → Array Keyed → StateT SortSt Sem (Array Keyed) := sortPriv% PySem.Builtin.mergeHi
abbrev dnH (p q out : Array Keyed) (m n : Nat) : Array Keyed := p.extract 0 m ++ q.extract 0 n ++ out.reverse
abbrev fsH (p q out : Array Keyed) (m n : Nat) : Array Keyed := q.extract 0 n ++ p.extract 0 m ++ out.reverse
abbrev HiSg := Option (Array Keyed) × Nat × Nat × Array Keyed × Nat × Nat × Nat
def hiG3 (p q out : Array Keyed) (m n g ac k : Nat) : StateT SortSt Sem (ForInStep HiSg) := do
  let x ← elem' p (m - 1)
  if (m - 1 == 0) = true then pure (ForInStep.done (some (dnH p q (out.push x) (m - 1) n), m - 1, n, out.push x, g, ac, k))
  else if (decide (ac < 7) && decide (k < 7)) = true then pure (ForInStep.done (none, m - 1, n, out.push x, g, ac, k))
  else pure (ForInStep.yield (none, m - 1, n, out.push x, g, ac, k))
def hiG2 (p q out : Array Keyed) (m n g ac bc : Nat) : StateT SortSt Sem (ForInStep HiSg) := do
  let y ← elem' q (n - 1)
  if (n - 1 == 1) = true then pure (ForInStep.done (some (fsH p q (out.push y) m (n - 1)), m, n - 1, out.push y, g, ac, bc))
  else do
    let x ← elem' p (m - 1)
    let some t ← gallopP true x q 0 (n - 1) (n - 1 - 1) | pure (ForInStep.done (some (dnH p q (out.push y) m (n - 1)), m, n - 1, out.push y, g, ac, bc))
    if n - 1 - t > 0 then
      if (t == 1) = true then pure (ForInStep.done (some (fsH p q (out.push y ++ (q.extract t (n - 1)).reverse) m t), m, t, out.push y ++ (q.extract t (n - 1)).reverse, g, ac, n - 1 - t))
      else if (t == 0) = true then pure (ForInStep.done (some (dnH p q (out.push y ++ (q.extract t (n - 1)).reverse) m t), m, t, out.push y ++ (q.extract t (n - 1)).reverse, g, ac, n - 1 - t))
      else hiG3 p q (out.push y ++ (q.extract t (n - 1)).reverse) m t g ac (n - 1 - t)
    else hiG3 p q (out.push y) m (n - 1) g ac (n - 1 - t)
def hiG1 (p q out : Array Keyed) (m n g ac bc : Nat) : StateT SortSt Sem (ForInStep HiSg) := do
  setMinP g
  let y ← elem' q (n - 1)
  let some t ← gallopP false y p 0 m (m - 1) | pure (ForInStep.done (some (dnH p q out m n), m, n, out, g, ac, bc))
  if m - t > 0 then
    if (t == 0) = true then pure (ForInStep.done (some (dnH p q (out ++ (p.extract t m).reverse) t n), t, n, out ++ (p.extract t m).reverse, g, m - t, bc))
    else hiG2 p q (out ++ (p.extract t m).reverse) t n g (m - t) bc
  else hiG2 p q out m n g (m - t) bc
section
variable {α : Type} {R : α → α → Prop} {xs ys out : List α} {i j : Nat}
theorem MI.swap (M : MI R xs ys out i j) : MI R ys xs out j i := ⟨M.perm.trans List.perm_append_comm, M.srt, M.ly, M.lx⟩
theorem MI.endXY (M : MI R xs ys out i j) (sx : xs.Pairwise R) (sy : ys.Pairwise R) (h : ∀ x ∈ xs.drop i, ∀ y ∈ ys.drop j, R x y) : (out ++ xs.drop i ++ ys.drop j).Perm (xs ++ ys) ∧ (out ++ xs.drop i ++ ys.drop j).Pairwise R := by
  have := M.swap.endYX sy sx h
  exact ⟨this.1.trans List.perm_append_comm, this.2⟩
end
abbrev ge (blt : Keyed → Keyed → Bool) (x y : Keyed) : Prop := le blt y x
abbrev HI (blt : Keyed → Keyed → Bool) (p q out : Array Keyed) (m n : Nat) : Prop := MI (ge blt) p.toList.reverse q.toList.reverse out.toList (p.size - m) (q.size - n)
theorem drop_rev (p : Array Keyed) {m : Nat} (h : m ≤ p.size) : p.toList.reverse.drop (p.size - m) = (p.toList.take m).reverse := by
  rw [List.drop_reverse, Array.length_toList]
  congr 2
  omega
theorem at_rev {p : Array Keyed} {m : Nat} {x : Keyed} (h0 : 0 < m) (h : m ≤ p.size) (e : p[m - 1]? = some x) : p.toList.reverse[p.size - m]? = some x := by
  rw [List.getElem?_reverse (by rw [Array.length_toList]; omega), Array.length_toList, show p.size - 1 - (p.size - m) = m - 1 by omega]
  exact at_list e
theorem ext0 (p : Array Keyed) (m : Nat) : (p.extract 0 m).toList = p.toList.take m := by
  rw [Array.toList_extract, List.extract_eq_take_drop, List.drop_zero, Nat.sub_zero]
theorem extm (p : Array Keyed) {t m : Nat} (h1 : t ≤ m) (h2 : m ≤ p.size) : (p.extract t m).reverse.toList = (p.toList.reverse.drop (p.size - m)).take (m - t) := by
  rw [drop_rev p h2, List.take_reverse, Array.toList_reverse, Array.toList_extract, List.extract_eq_take_drop, List.length_take, Array.length_toList, List.drop_take]
  congr 2
  · omega
  · congr 1
    omega
section
variable {prog : Program} {w : World} {A : Around} {s : Shared} {kd : SortKind} {Ok : Keyed → Prop} {blt : Keyed → Keyed → Bool} {E : Value → Shared → Prop}
theorem sorted_rev {l : List Keyed} (h : l.Pairwise (le blt)) : l.reverse.Pairwise (ge blt) := List.pairwise_reverse.mpr h
theorem Two.dn_end {p q out : Array Keyed} {x0 y0 xl : Keyed} (T : Two Ok blt p q x0 y0 xl) {m n : Nat} (M : HI blt p q out m n) (hm : m ≤ p.size) (hn : n ≤ q.size) (h : m = 0 ∨ n = 0) : Res blt p q (dnH p q out m n) := by
  have h1 := M.endYX (sorted_rev T.sp) (sorted_rev T.sq) (fun y hy x hx => by
    rw [drop_rev p hm] at hx
    rw [drop_rev q hn] at hy
    rcases h with h | h
    · subst h; simp at hx
    · subst h; simp at hy)
  rw [drop_rev p hm, drop_rev q hn] at h1
  have e : (dnH p q out m n).toList = (out.toList ++ (q.toList.take n).reverse ++ (p.toList.take m).reverse).reverse := by
    rw [Array.toList_append, Array.toList_append, ext0, ext0, Array.toList_reverse]
    simp
  refine ⟨?_, ?_⟩
  · rw [e]
    refine (List.reverse_perm _).trans (h1.1.trans ?_)
    exact List.Perm.append (List.reverse_perm _) (List.reverse_perm _)
  · rw [e]
    exact List.pairwise_reverse.mpr h1.2
theorem Two.fs_end (C : Cmp prog w A s kd Ok blt) {p q out : Array Keyed} {x0 y0 xl : Keyed} (T : Two Ok blt p q x0 y0 xl) {m n : Nat} (M : HI blt p q out m n) (hm : m ≤ p.size) (hn : n = 1) (hq : 1 ≤ q.size) : Res blt p q (fsH p q out m n) := by
  subst hn
  have h1 := M.endXY (sorted_rev T.sp) (sorted_rev T.sq) (fun x hx y hy => by
    rw [drop_rev p hm] at hx
    rw [drop_rev q hq] at hy
    have ey : y = y0 := by
      have : y ∈ q.toList.take 1 := List.mem_reverse.mp hy
      obtain ⟨k, hk, e⟩ := List.mem_iff_getElem.mp this
      have hk0 : k = 0 := by
        rw [List.length_take] at hk
        omega
      subst hk0
      have e2 : q.toList[0]? = some y := by
        rw [← e, ← List.getElem?_eq_getElem hk, List.getElem?_take_of_lt (by omega)]
      rw [at_list T.hy0] at e2
      exact (Option.some.inj e2).symm
    rw [ey]
    have hx' : x ∈ p.toList := List.mem_of_mem_take (List.mem_reverse.mp hx)
    obtain ⟨k, hk, e⟩ := List.mem_iff_getElem.mp hx'
    have e2 : p.toList[k]? = some x := by rw [← e, List.getElem?_eq_getElem hk]
    exact C.trans (C.ofLt T.first) (sorted_le C T.sp (Nat.zero_le k) (at_list T.hx0) e2))
  rw [drop_rev p hm, drop_rev q hq] at h1
  have e : (fsH p q out m 1).toList = (out.toList ++ (p.toList.take m).reverse ++ (q.toList.take 1).reverse).reverse := by
    rw [Array.toList_append, Array.toList_append, ext0, ext0, Array.toList_reverse]
    simp
  refine ⟨?_, ?_⟩
  · rw [e]
    refine (List.reverse_perm _).trans (h1.1.trans ?_)
    exact List.Perm.append (List.reverse_perm _) (List.reverse_perm _)
  · rw [e]
    exact List.pairwise_reverse.mpr h1.2
theorem ge_drop (C : Cmp prog w A s kd Ok blt) {p : Array Keyed} (sp : p.toList.Pairwise (le blt)) {m : Nat} {x y : Keyed} (h0 : 0 < m) (hm : m ≤ p.size) (hx : p[m - 1]? = some x) (h : le blt x y) : ∀ z ∈ p.toList.reverse.drop (p.size - m), ge blt y z := fun z hz => by
  rw [drop_rev p hm] at hz
  obtain ⟨k, hk, e⟩ := List.mem_iff_getElem.mp (List.mem_reverse.mp hz)
  have e2 : p.toList[k]? = some z := by
    rw [List.length_take] at hk
    rw [← e, ← List.getElem?_eq_getElem (by rw [List.length_take]; exact hk), List.getElem?_take_of_lt (by omega)]
  rw [List.length_take] at hk
  exact C.trans (sorted_le C sp (by omega) e2 (at_list hx)) h
theorem HI.pushX (C : Cmp prog w A s kd Ok blt) {p q out : Array Keyed} {x0 y0 xl : Keyed} (T : Two Ok blt p q x0 y0 xl) {m n : Nat} (M : HI blt p q out m n) (h0 : 0 < m) (hm : m ≤ p.size) {x : Keyed} (hx : p[m - 1]? = some x) (h : ∀ z ∈ q.toList.reverse.drop (q.size - n), ge blt x z) : HI blt p q (out.push x) (m - 1) n := by
  have := MI.pushX M (sorted_rev T.sp) (at_rev h0 hm hx) h
  rw [← push_list, show p.size - m + 1 = p.size - (m - 1) by omega] at this
  exact this
theorem HI.pushY (C : Cmp prog w A s kd Ok blt) {p q out : Array Keyed} {x0 y0 xl : Keyed} (T : Two Ok blt p q x0 y0 xl) {m n : Nat} (M : HI blt p q out m n) (h0 : 0 < n) (hn : n ≤ q.size) {y : Keyed} (hy : q[n - 1]? = some y) (h : ∀ z ∈ p.toList.reverse.drop (p.size - m), ge blt y z) : HI blt p q (out.push y) m (n - 1) := by
  have := MI.pushY M (sorted_rev T.sq) (at_rev h0 hn hy) h
  rw [← push_list, show q.size - n + 1 = q.size - (n - 1) by omega] at this
  exact this
def HiQ (blt : Keyed → Keyed → Bool) (p q : Array Keyed) (st : SortSt) (b : Nat) (r : ForInStep HiSg) (st' : SortSt) : Prop := Kept st st' ∧ match r with
  | .done (some r, _) => Res blt p q r
  | .done (none, m, n, out, _) => HI blt p q out m n ∧ 0 < m ∧ m ≤ p.size ∧ 1 < n ∧ n ≤ q.size ∧ m + n < b
  | .yield (none, m, n, out, _) => HI blt p q out m n ∧ 0 < m ∧ m ≤ p.size ∧ 1 < n ∧ n ≤ q.size ∧ m + n < b
  | .yield (some _, _) => False
theorem hiG3_ok (C : Cmp prog w A s kd Ok blt) {p q out : Array Keyed} {x0 y0 xl : Keyed} (T : Two Ok blt p q x0 y0 xl) {m n g ac k b : Nat} {st0 st : SortSt} (kp : Kept st0 st) (M : HI blt p q out m n) (m0 : 0 < m) (hm : m ≤ p.size) (n0 : 1 < n) (hn : n ≤ q.size) (hb : m + n ≤ b) {x : Keyed} (hx : p[m - 1]? = some x)
    (hq : ∀ z ∈ q.toList.reverse.drop (q.size - n), ge blt x z) : wpS (model prog w) A E s (hiG3 p q out m n g ac k) (HiQ blt p q st0 b) st := by
  unfold hiG3
  refine wpS_bind (elem_ok hx ?_)
  have M1 := HI.pushX C T M m0 hm hx hq
  by_cases h1 : m - 1 = 0
  · rw [if_pos (by rw [h1]; rfl)]
    exact wpS_pure ⟨kp, T.dn_end M1 (by omega) hn (.inl h1)⟩
  · rw [if_neg (fun z => h1 (eq_of_beq z))]
    by_cases h2 : (decide (ac < 7) && decide (k < 7)) = true
    · rw [if_pos h2]
      exact wpS_pure ⟨kp, M1, by omega, by omega, n0, hn, by omega⟩
    · rw [if_neg h2]
      exact wpS_pure ⟨kp, M1, by omega, by omega, n0, hn, by omega⟩
theorem hiG2_ok (C : Cmp prog w A s kd Ok blt) {p q out : Array Keyed} {x0 y0 xl : Keyed} (T : Two Ok blt p q x0 y0 xl) {m n g ac bc b : Nat} {st0 st : SortSt} (kp : Kept st0 st) (hk : kindOf st = kd) (M : HI blt p q out m n) (m0 : 0 < m) (hm : m ≤ p.size) (n0 : 1 < n) (hn : n ≤ q.size) (hb : m + n ≤ b) {x y : Keyed} (hx : p[m - 1]? = some x) (hy : q[n - 1]? = some y)
    (hxy : le blt x y) : wpS (model prog w) A E s (hiG2 p q out m n g ac bc) (HiQ blt p q st0 b) st := by
  unfold hiG2
  refine wpS_bind (elem_ok hy ?_)
  have M1 := HI.pushY C T M (by omega) hn hy (ge_drop C T.sp m0 hm hx hxy)
  by_cases h1 : n - 1 = 1
  · rw [if_pos (by rw [h1]; rfl)]
    exact wpS_pure ⟨kp, T.fs_end C M1 hm h1 (by omega)⟩
  rw [if_neg (fun z => h1 (eq_of_beq z))]
  refine wpS_bind (elem_ok hx ?_)
  have val : ∀ i yy, q[i]? = some yy → q.getD (0 + i) y = yy := fun i yy e => by rw [Nat.zero_add]; simp [Array.getD_eq_getD_getElem?, e]
  have R : Row Ok q 0 (n - 1) (fun i => q.getD (0 + i) y) := ⟨fun i hi => by
    obtain ⟨ya, ea⟩ := at_arr (p := q) (i := i) (by omega)
    rw [val i ya ea, Nat.zero_add, ea], fun i hi => by
    obtain ⟨ya, ea⟩ := at_arr (p := q) (i := i) (by omega)
    show Ok (q.getD (0 + i) y)
    rw [val i ya ea]
    exact T.oq ya (mem_at ea)⟩
  refine wpS_bind (gallop_ok C R (T.op x (mem_at hx)) hk (by omega) (fun a c hab hc q1 => ?_) fun t ht t1 t2 => ?_)
  · obtain ⟨ya, ea⟩ := at_arr (p := q) (i := a) (by omega)
    obtain ⟨yc, ec⟩ := at_arr (p := q) (i := c) (by omega)
    simp only [val a ya ea, val c yc ec, bval, if_true] at q1 ⊢
    exact C.leLt (sorted_le C T.sq hab (at_list ea) (at_list ec)) q1
  dsimp only
  have M2 : HI blt p q (out.push y ++ (q.extract t (n - 1)).reverse) m t := by
    have := MI.blockY M1 (sorted_rev T.sq) (n - 1 - t) (by rw [List.length_reverse, Array.length_toList]; omega) (fun i hi yy ey => by
      have e1 : q[n - 1 - i - 1]? = some yy := by
        rw [List.getElem?_reverse (by rw [Array.length_toList]; omega), Array.length_toList, show q.size - 1 - (q.size - (n - 1) + i) = n - 1 - i - 1 by omega] at ey
        simpa using ey
      have := t2 (n - 1 - i - 1) (by omega) (by omega)
      rw [val _ yy e1] at this
      have z : blt yy x = false := by simpa only [bval, if_true] using this
      exact ge_drop C T.sp m0 hm hx z)
    rw [← extm q (by omega) (by omega), ← Array.toList_append, show q.size - (n - 1) + (n - 1 - t) = q.size - t by omega] at this
    exact this
  -- what is left of q is below x
  have below : ∀ z ∈ q.toList.reverse.drop (q.size - t), ge blt x z := fun z hz => by
    rw [drop_rev q (by omega)] at hz
    obtain ⟨k, hk', e⟩ := List.mem_iff_getElem.mp (List.mem_reverse.mp hz)
    rw [List.length_take] at hk'
    have e2 : q.toList[k]? = some z := by
      rw [← e, ← List.getElem?_eq_getElem (by rw [List.length_take]; exact hk'), List.getElem?_take_of_lt (by omega)]
    have e3 : q[k]? = some z := by simpa using e2
    have := t1 k (by omega)
    rw [val k z e3] at this
    exact C.ofLt (by simpa only [bval, if_true] using this)
  by_cases h2 : n - 1 - t > 0
  · rw [if_pos h2]
    by_cases h3 : t = 1
    · rw [if_pos (by rw [h3]; rfl)]
      exact wpS_pure ⟨kp, T.fs_end C M2 hm h3 (by omega)⟩
    · rw [if_neg (fun z => h3 (eq_of_beq z))]
      by_cases h4 : t = 0
      · rw [if_pos (by rw [h4]; rfl)]
        exact wpS_pure ⟨kp, T.dn_end M2 hm (by omega) (.inr h4)⟩
      · rw [if_neg (fun z => h4 (eq_of_beq z))]
        exact hiG3_ok C T kp M2 m0 hm (by omega) (by omega) (by omega) hx below
  · rw [if_neg h2]
    have et : t = n - 1 := by omega
    rw [et] at below
    exact hiG3_ok C T kp M1 m0 hm (by omega) (by omega) (by omega) hx below
theorem hiG1_ok (C : Cmp prog w A s kd Ok blt) {p q out : Array Keyed} {x0 y0 xl : Keyed} (T : Two Ok blt p q x0 y0 xl) {m n g ac bc b : Nat} {st0 st : SortSt} (kp : Kept st0 st) (hk : kindOf st = kd) (M : HI blt p q out m n) (m0 : 0 < m) (hm : m ≤ p.size) (n0 : 1 < n) (hn : n ≤ q.size) (hb : m + n ≤ b) :
    wpS (model prog w) A E s (hiG1 p q out m n g ac bc) (HiQ blt p q st0 b) st := by
  unfold hiG1
  refine wpS_bind (setMin_ok fun st1 kp1 => ?_)
  have kp' := kp.trans kp1
  have hk' : kindOf st1 = kd := kp1.kind.trans hk
  obtain ⟨y, hy⟩ := at_arr (p := q) (i := n - 1) (by omega)
  refine wpS_bind (elem_ok hy ?_)
  have val : ∀ i xx, p[i]? = some xx → p.getD (0 + i) y = xx := fun i xx e => by rw [Nat.zero_add]; simp [Array.getD_eq_getD_getElem?, e]
  have R : Row Ok p 0 m (fun i => p.getD (0 + i) y) := ⟨fun i hi => by
    obtain ⟨xa, ea⟩ := at_arr (p := p) (i := i) (by omega)
    rw [val i xa ea, Nat.zero_add, ea], fun i hi => by
    obtain ⟨xa, ea⟩ := at_arr (p := p) (i := i) (by omega)
    show Ok (p.getD (0 + i) y)
    rw [val i xa ea]
    exact T.op xa (mem_at ea)⟩
  refine wpS_bind (gallop_ok C R (T.oq y (mem_at hy)) hk' (by omega) (fun a c hab hc q1 => ?_) fun t ht t1 t2 => ?_)
  · obtain ⟨xa, ea⟩ := at_arr (p := p) (i := a) (by omega)
    obtain ⟨xc, ec⟩ := at_arr (p := p) (i := c) (by omega)
    simp only [val a xa ea, val c xc ec, bval, Bool.false_eq_true, if_false, Bool.not_eq_true'] at q1 ⊢
    exact C.trans (sorted_le C T.sp hab (at_list ea) (at_list ec)) q1
  dsimp only
  have M1 : HI blt p q (out ++ (p.extract t m).reverse) t n := by
    have := MI.blockX M (sorted_rev T.sp) (m - t) (by rw [List.length_reverse, Array.length_toList]; omega) (fun i hi xx ex => by
      have e1 : p[m - i - 1]? = some xx := by
        rw [List.getElem?_reverse (by rw [Array.length_toList]; omega), Array.length_toList, show p.size - 1 - (p.size - m + i) = m - i - 1 by omega] at ex
        simpa using ex
      have := t2 (m - i - 1) (by omega) (by omega)
      rw [val _ xx e1] at this
      have z : blt y xx = true := by simpa only [bval, Bool.false_eq_true, if_false, Bool.not_eq_false'] using this
      exact ge_drop C T.sq (by omega) hn hy (C.ofLt z))
    rw [← extm p (by omega) hm, ← Array.toList_append, show p.size - m + (m - t) = p.size - t by omega] at this
    exact this
  have below : ∀ x, 0 < t → p[t - 1]? = some x → le blt x y := fun x h0 hx => by
    have := t1 (t - 1) (by omega)
    rw [val _ x hx] at this
    have z : blt y x = false := by simpa only [bval, Bool.false_eq_true, if_false, Bool.not_eq_true'] using this
    exact z
  by_cases h2 : m - t > 0
  · rw [if_pos h2]
    by_cases h3 : t = 0
    · rw [if_pos (by rw [h3]; rfl)]
      exact wpS_pure ⟨kp', T.dn_end M1 (by omega) hn (.inl h3)⟩
    · rw [if_neg (fun z => h3 (eq_of_beq z))]
      obtain ⟨x, hx⟩ := at_arr (p := p) (i := t - 1) (by omega)
      exact hiG2_ok C T kp' hk' M1 (by omega) (by omega) n0 hn (by omega) hx hy (below x (by omega) hx)
  · rw [if_neg h2]
    have et : t = m := by omega
    subst et
    obtain ⟨x, hx⟩ := at_arr (p := p) (i := t - 1) (by omega)
    exact hiG2_ok C T kp' hk' M m0 hm n0 hn hb hx hy (below x m0 hx)
theorem mergeHi_ok (C : Cmp prog w A s kd Ok blt) {p q : Array Keyed} {x0 y0 xl : Keyed} (T : Two Ok blt p q x0 y0 xl) {st : SortSt} (hk : kindOf st = kd)
    {Q : Array Keyed → SortSt → Prop} (h : ∀ r st', Kept st st' → Res blt p q r → Q r st') : wpS (model prog w) A E s (mergeHiP p q) Q st := by
  have p0 : 0 < p.size := (Array.getElem?_eq_some_iff.mp T.hx0).1
  have q0 : 0 < q.size := (Array.getElem?_eq_some_iff.mp T.hy0).1
  obtain ⟨yl, hyl⟩ := at_arr (p := q) (i := q.size - 1) (by omega)
  have M0 : HI blt p q #[xl] (p.size - 1) q.size := by
    have m : HI blt p q #[] p.size q.size := ⟨by simp, by simp, fun o ho => by simp at ho, fun o ho => by simp at ho⟩
    have := HI.pushX C T m p0 (Nat.le_refl _) T.hxl (ge_drop C T.sq q0 (Nat.le_refl _) hyl (C.ofLt (T.last yl (mem_at hyl))))
    simpa using this
  unfold mergeHiP
  refine wpS_bind (rule_ok ?_)
  refine wpS_bind (elem_ok T.hxl ?_)
  dsimp only
  by_cases h1 : p.size - 1 = 0
  · rw [if_pos (by rw [h1]; rfl)]
    exact wpS_pure (h _ _ (Kept.refl _) (T.dn_end M0 (by omega) (by omega) (.inl h1)))
  rw [if_neg (fun z => h1 (eq_of_beq z))]
  by_cases h2 : q.size = 1
  · rw [if_pos (by rw [h2]; rfl)]
    exact wpS_pure (h _ _ (Kept.refl _) (T.fs_end C M0 (by omega) h2 (by omega)))
  rw [if_neg (fun z => h2 (eq_of_beq z))]
  refine wpS_bind (wpS_get ?_)
  refine wpS_bind (wpS_mono (wpS_forRange
    (I := fun x c st' => Kept st st' ∧ ∃ m n out g, c = (none, m, n, out, g) ∧ HI blt p q out m n ∧ 0 < m ∧ m ≤ p.size ∧ 1 < n ∧ n ≤ q.size ∧ m + n + x + 1 ≤ p.size + q.size)
    (Q := fun c st' => Kept st st' ∧ ∃ r rest, c = (some r, rest) ∧ Res blt p q r) ?_ ?_ ⟨Kept.refl _, _, _, _, _, rfl, M0, by omega, by omega, by omega, by omega, by omega⟩) ?_)
  · rintro x c st1 _ hx ⟨kp1, m, n, out, g, rfl, M, m0, hm, n0, hn, hb⟩
    dsimp only
    -- one by one
    refine wpS_bind (wpS_mono (wpS_forRange
      (I := fun _ c st' => st' = st1 ∧ ∃ m n out ac bc, c = (none, m, n, out, ac, bc) ∧ HI blt p q out m n ∧ 0 < m ∧ m ≤ p.size ∧ 1 < n ∧ n ≤ q.size ∧ m + n + x + 1 ≤ p.size + q.size)
      (Q := fun c st' => st' = st1 ∧ ((∃ r rest, c = (some r, rest) ∧ Res blt p q r) ∨ ∃ m n out ac bc, c = (none, m, n, out, ac, bc) ∧ HI blt p q out m n ∧ 0 < m ∧ m ≤ p.size ∧ 1 < n ∧ n ≤ q.size ∧ m + n + x + 1 ≤ p.size + q.size)) ?_ ?_ ⟨rfl, m, n, out, 0, 0, rfl, M, m0, hm, n0, hn, hb⟩) ?_)
    · rintro z c st2 _ hz ⟨rfl, m, n, out, ac, bc, rfl, M, m0, hm, n0, hn, hb⟩
      dsimp only
      obtain ⟨yy, hy⟩ := at_arr (p := q) (i := n - 1) (by omega)
      obtain ⟨xx, hx⟩ := at_arr (p := p) (i := m - 1) (by omega)
      refine wpS_bind (elem_ok hy ?_)
      refine wpS_bind (elem_ok hx ?_)
      refine wpS_bind (lt_ok C (kp1.kind.trans hk) (T.oq yy (mem_at hy)) (T.op xx (mem_at hx)) ?_)
      dsimp only
      cases hlt : blt yy xx with
      | true =>
        rw [if_pos rfl]
        refine wpS_bind (elem_ok hx ?_)
        have M1 := HI.pushX C T M m0 hm hx (ge_drop C T.sq (by omega) hn hy (C.ofLt hlt))
        by_cases e1 : m - 1 = 0
        · rw [if_pos (by rw [e1]; rfl)]
          exact wpS_pure ⟨rfl, .inl ⟨_, _, rfl, T.dn_end M1 (by omega) hn (.inl e1)⟩⟩
        · rw [if_neg (fun z => e1 (eq_of_beq z))]
          split
          · exact wpS_pure ⟨rfl, .inr ⟨_, _, _, _, _, rfl, M1, by omega, by omega, n0, hn, by omega⟩⟩
          · exact wpS_pure ⟨rfl, _, _, _, _, _, rfl, M1, by omega, by omega, n0, hn, by omega⟩
      | false =>
        rw [if_neg Bool.false_ne_true]
        refine wpS_bind (elem_ok hy ?_)
        have M1 := HI.pushY C T M (by omega) hn hy (ge_drop C T.sp m0 hm hx hlt)
        by_cases e1 : n - 1 = 1
        · rw [if_pos (by rw [e1]; rfl)]
          exact wpS_pure ⟨rfl, .inl ⟨_, _, rfl, T.fs_end C M1 hm e1 (by omega)⟩⟩
        · rw [if_neg (fun z => e1 (eq_of_beq z))]
          split
          · exact wpS_pure ⟨rfl, .inr ⟨_, _, _, _, _, rfl, M1, m0, hm, by omega, by omega, by omega⟩⟩
          · exact wpS_pure ⟨rfl, _, _, _, _, _, rfl, M1, m0, hm, by omega, by omega, by omega⟩
    · rintro c st2 ⟨rfl, m, n, out, ac, bc, rfl, M⟩
      exact ⟨rfl, .inr ⟨m, n, out, ac, bc, rfl, M⟩⟩
    · rintro c st2 ⟨rfl, hc⟩
      rcases hc with ⟨r, rest, rfl, hr⟩ | ⟨m, n, out, ac, bc, rfl, M, m0, hm, n0, hn, hb⟩
      · exact wpS_pure ⟨kp1, r, _, rfl, hr⟩
      · dsimp only
        refine wpS_bind (rule_ok ?_)
        -- the gallop
        refine wpS_bind (wpS_mono (wpS_forRange
          (I := fun y c st' => Kept st st' ∧ ∃ m n out g ac bc, c = (none, m, n, out, g, ac, bc) ∧ HI blt p q out m n ∧ 0 < m ∧ m ≤ p.size ∧ 1 < n ∧ n ≤ q.size ∧ (if y = 0 then m + n + x + 1 ≤ p.size + q.size else m + n + x + 2 ≤ p.size + q.size))
          (Q := fun c st' => Kept st st' ∧ ((∃ r rest, c = (some r, rest) ∧ Res blt p q r) ∨ ∃ m n out g ac bc, c = (none, m, n, out, g, ac, bc) ∧ HI blt p q out m n ∧ 0 < m ∧ m ≤ p.size ∧ 1 < n ∧ n ≤ q.size ∧ m + n + x + 2 ≤ p.size + q.size)) ?_ ?_
          ⟨kp1, m, n, out, _, ac, bc, rfl, M, m0, hm, n0, hn, by rw [if_pos rfl]; exact hb⟩) ?_)
        · rintro y c st3 _ hy ⟨kp3, m, n, out, g, ac, bc, rfl, M, m0, hm, n0, hn, hb⟩
          have hb' : m + n + x + 1 ≤ p.size + q.size := by split at hb <;> omega
          have key : ∀ g', wpS (model prog w) A E s (hiG1 p q out m n g' ac bc) (HiQ blt p q st (m + n)) st3 := fun g' => hiG1_ok C T kp3 (kp3.kind.trans hk) M m0 hm n0 hn (Nat.le_refl _)
          dsimp only
          refine wpS_mono (?_ : wpS (model prog w) A E s _ (HiQ blt p q st (m + n)) st3) fun r st4 hr => ?_
          · by_cases hg : g > 1
            · rw [if_pos hg]
              exact key _
            · rw [if_neg hg]
              exact key _
          · obtain ⟨kp4, hr⟩ := hr
            match r, hr with
            | .done (some r, rest), hr => exact ⟨kp4, .inl ⟨r, rest, rfl, hr⟩⟩
            | .done (none, m', n', out', g', ac', bc'), hr => exact ⟨kp4, .inr ⟨m', n', out', g', ac', bc', rfl, hr.1, hr.2.1, hr.2.2.1, hr.2.2.2.1, hr.2.2.2.2.1, by have := hr.2.2.2.2.2; omega⟩⟩
            | .yield (none, m', n', out', g', ac', bc'), hr => exact ⟨kp4, m', n', out', g', ac', bc', rfl, hr.1, hr.2.1, hr.2.2.1, hr.2.2.2.1, hr.2.2.2.2.1, by rw [if_neg (by omega)]; have := hr.2.2.2.2.2; omega⟩
        · rintro c st3 ⟨kp3, m, n, out, g, ac, bc, rfl, M, m0, hm, n0, hn, hb⟩
          rw [if_neg (by omega)] at hb
          exact ⟨kp3, .inr ⟨m, n, out, g, ac, bc, rfl, M, m0, hm, n0, hn, hb⟩⟩
        · rintro c st3 ⟨kp3, hc⟩
          rcases hc with ⟨r, rest, rfl, hr⟩ | ⟨m, n, out, g, ac, bc, rfl, M, m0, hm, n0, hn, hb⟩
          · exact wpS_pure ⟨kp3, r, _, rfl, hr⟩
          · dsimp only
            refine wpS_bind (setMin_ok fun st4 kp4 => ?_)
            exact wpS_pure ⟨kp3.trans kp4, m, n, out, _, rfl, M, m0, hm, n0, hn, by omega⟩
  · rintro c st1 ⟨kp1, m, n, out, g, rfl, M, m0, hm, n0, hn, hb⟩
    exfalso
    have : max 0 (p.size + q.size) = p.size + q.size := by omega
    rw [this] at hb
    omega
  · rintro c st1 ⟨kp1, r, rest, rfl, hr⟩
    exact wpS_pure (h r st1 kp1 hr)
end
end Ts
namespace Ts
open PySem PyProof.Rows
def countRunP : Nat → Nat → StateT SortSt Sem (Option Nat) := sortPriv% PySem.Builtin.countRun
def binarySortP : Nat → Nat → Nat → StateT SortSt Sem Bool := sortPriv% PySem.Builtin.binarySort
def X (xs : Array Keyed) (i : Nat) : Keyed := xs[i]?.getD (Value.none, Value.none)
theorem X_at {xs : Array Keyed} {i : Nat} (h : i < xs.size) : xs[i]? = some (X xs i) := by
  unfold X
  rw [getElem?_pos xs i h]
  rfl
theorem X_congr {xs ys : Array Keyed} {i j : Nat} (h : xs[i]? = ys[j]?) : X xs i = X ys j := by unfold X; rw [h]
theorem X_mirror {xs : Array Keyed} {i j : Nat} (hj : j ≤ xs.size) (k : Nat) : X (mirror xs i j ((j - i) / 2)) k = if i ≤ k ∧ k < j then X xs (i + j - 1 - k) else X xs k := by
  have e := getElem?_mirror_all (i := i) hj k
  by_cases h : i ≤ k ∧ k < j
  · rw [if_pos h] at e ⊢; exact X_congr e
  · rw [if_neg h] at e ⊢; exact X_congr e
theorem X_bubble {xs : Array Keyed} {src d : Nat} (hs : src < xs.size) (hd : d ≤ src) (k : Nat) : X (bubble xs src d) k = if k = src - d then X xs src else if src - d < k ∧ k ≤ src then X xs (k - 1) else X xs k := by
  have e := getElem?_bubble hs d hd k
  by_cases h1 : k = src - d
  · rw [if_pos h1] at e ⊢; exact X_congr e
  · rw [if_neg h1] at e ⊢
    by_cases h2 : src - d < k ∧ k ≤ src
    · rw [if_pos h2] at e ⊢; exact X_congr e
    · rw [if_neg h2] at e ⊢; exact X_congr e
def Asc (blt : Keyed → Keyed → Bool) (xs : Array Keyed) (a b : Nat) : Prop := ∀ i j, a ≤ i → i ≤ j → j < b → le blt (X xs i) (X xs j)
def Dsc (blt : Keyed → Keyed → Bool) (xs : Array Keyed) (a b : Nat) : Prop := ∀ i j, a ≤ i → i ≤ j → j < b → le blt (X xs j) (X xs i)
structure Good (kd : SortKind) (a₀ : Array Keyed) (pend : Array (Nat × Nat × Nat)) (st : SortSt) : Prop where
  kind : kindOf st = kd
  fail : failedOf st = none
  perm : (arrOf st).Perm a₀
  pd : pendingOf st = pend
def Out (xs ys : Array Keyed) (a b : Nat) : Prop := ∀ i, (i < a ∨ b ≤ i) → X ys i = X xs i
theorem Out.refl (xs : Array Keyed) (a b : Nat) : Out xs xs a b := fun _ _ => rfl
theorem Out.trans {xs ys zs : Array Keyed} {a b : Nat} (h : Out xs ys a b) (k : Out ys zs a b) : Out xs zs a b := fun i hi => (k i hi).trans (h i hi)
section
variable {prog : Program} {w : World} {A : Around} {s : Shared} {kd : SortKind} {Ok : Keyed → Prop} {blt : Keyed → Keyed → Bool} {E : Value → Shared → Prop} {a₀ : Array Keyed} {pend : Array (Nat × Nat × Nat)}
theorem Good.size {st : SortSt} (g : Good kd a₀ pend st) : (arrOf st).size = a₀.size := g.perm.size_eq
theorem Good.okX {st : SortSt} (g : Good kd a₀ pend st) (h0 : ∀ x ∈ a₀.toList, Ok x) {i : Nat} (hi : i < a₀.size) : Ok (X (arrOf st) i) := by
  have e := X_at (xs := arrOf st) (i := i) (by rw [g.size]; exact hi)
  exact h0 _ ((Array.perm_iff_toList_perm.mp g.perm).mem_iff.mp (mem_at e))
theorem Good.set {st : SortSt} (g : Good kd a₀ pend st) {xs : Array Keyed} (h : xs.Perm (arrOf st)) : Good kd a₀ pend (setArr st xs) := ⟨g.kind, g.fail, h.trans g.perm, g.pd⟩
theorem ltAt_ok (C : Cmp prog w A s kd Ok blt) {st : SortSt} (g : Good kd a₀ pend st) (h0 : ∀ x ∈ a₀.toList, Ok x) {i j : Nat} (hi : i < a₀.size) (hj : j < a₀.size) {Q : Option Bool → SortSt → Prop} (h : Q (some (blt (X (arrOf st) i) (X (arrOf st) j))) st) : wpS (model prog w) A E s (ltAt' i j) Q st := by
  rw [ltAt'_eq]
  refine wpS_bind (wpS_get ?_)
  refine wpS_bind (elem_ok (X_at (by rw [g.size]; exact hi)) ?_)
  refine wpS_bind (elem_ok (X_at (by rw [g.size]; exact hj)) ?_)
  exact lt_ok C g.kind (g.okX h0 hi) (g.okX h0 hj) h
theorem reverse_ok {st : SortSt} {i j : Nat} {Q : Unit → SortSt → Prop} (h : Q () (setArr st (mirror (arrOf st) i j ((j - i) / 2)))) : wpS (model prog w) A E s (reverseSlice' i j) Q st := by
  rw [reverseSlice'_eq]
  exact wpS_modify h
def ascP (lo a b : Nat) : StateT SortSt Sem (Option (Option Nat) × Nat) :=
  forIn [a:b] ((none, a) : Option (Option Nat) × Nat) fun _ c => do
    let some less ← ltAt' (lo + c.2) (lo + c.2 - 1) | pure (ForInStep.done (some none, c.2))
    if less = true then pure (ForInStep.done (none, c.2)) else pure (ForInStep.yield (none, c.2 + 1))
theorem asc_ok (C : Cmp prog w A s kd Ok blt) {st : SortSt} (g : Good kd a₀ pend st) (h0 : ∀ x ∈ a₀.toList, Ok x) {lo a b : Nat} (hb : lo + b ≤ a₀.size) (ha : 1 ≤ a) (hab : a ≤ b) (h1 : Asc blt (arrOf st) lo (lo + a)) {Q : Option (Option Nat) × Nat → SortSt → Prop}
    (h : ∀ n, a ≤ n → n ≤ b → Asc blt (arrOf st) lo (lo + n) → (n = b ∨ blt (X (arrOf st) (lo + n)) (X (arrOf st) (lo + n - 1)) = true) → Q (none, n) st) : wpS (model prog w) A E s (ascP lo a b) Q st := by
  unfold ascP
  refine wpS_forRange (I := fun x c st' => st' = st ∧ c = (none, x) ∧ Asc blt (arrOf st) lo (lo + x)) ?_ ?_ ⟨rfl, rfl, h1⟩
  · rintro x c st' hx1 hx2 ⟨rfl, rfl, hs⟩
    dsimp only
    refine wpS_bind (ltAt_ok C g h0 (by omega) (by omega) ?_)
    dsimp only
    cases hl : blt (X (arrOf st') (lo + x)) (X (arrOf st') (lo + x - 1)) with
    | true =>
      rw [if_pos rfl]
      exact wpS_pure (h x hx1 (by omega) hs (.inr hl))
    | false =>
      rw [if_neg Bool.false_ne_true]
      refine wpS_pure ⟨rfl, rfl, fun i j hi hij hj => ?_⟩
      by_cases hjx : j < lo + x
      · exact hs i j hi hij hjx
      · have ej : j = lo + x := by omega
        subst ej
        by_cases hi' : i = lo + x
        · subst hi'; exact C.refl _
        · exact C.trans (hs i (lo + x - 1) hi (by omega) (by omega)) hl
  · rintro c st' ⟨rfl, rfl, hs⟩
    rw [show max a b = b by omega] at hs ⊢
    exact h b hab (Nat.le_refl _) hs (.inl rfl)
theorem asc_of_dsc {xs : Array Keyed} {lo n : Nat} (hn : lo + n ≤ xs.size) (h : Dsc blt xs lo (lo + n)) : Asc blt (mirror xs lo (lo + n) ((lo + n - lo) / 2)) lo (lo + n) := fun i j hi hij hj => by
  rw [X_mirror hn, X_mirror hn, if_pos (by omega), if_pos (by omega)]
  exact h _ _ (by omega) (by omega) (by omega)
theorem dsc_block {xs : Array Keyed} {lo n b e : Nat} (hn : lo + n ≤ xs.size) (he : e ≤ lo + n) (hb : lo ≤ b) (h : Dsc blt xs lo (lo + n)) (eqv : ∀ i j, b ≤ i → i < e → b ≤ j → j < e → le blt (X xs i) (X xs j)) : Dsc blt (mirror xs b e ((e - b) / 2)) lo (lo + n) := fun i j hi hij hj => by
  rw [X_mirror (by omega), X_mirror (by omega)]
  by_cases h1 : b ≤ j ∧ j < e
  · rw [if_pos h1]
    by_cases h2 : b ≤ i ∧ i < e
    · rw [if_pos h2]
      exact eqv _ _ (by omega) (by omega) (by omega) (by omega)
    · rw [if_neg h2]
      exact h _ _ hi (by omega) (by omega)
  · rw [if_neg h1]
    by_cases h2 : b ≤ i ∧ i < e
    · rw [if_pos h2]
      exact h _ _ (by omega) (by omega) (by omega)
    · rw [if_neg h2]
      exact h i j hi hij hj
theorem out_mirror {xs : Array Keyed} {a b i j : Nat} (h1 : a ≤ i) (h2 : j ≤ b) (h3 : j ≤ xs.size) : Out xs (mirror xs i j ((j - i) / 2)) a b := fun k hk => by
  rw [X_mirror h3, if_neg (by omega)]
def tailP (lo n b : Nat) : StateT SortSt Sem (Option Nat) := do
  reverseSlice' lo (lo + n)
  let mut m := n
  for _ in [n:b] do
    let some less ← ltAt' (lo + m) (lo + m - 1) | return none
    if less then break
    m := m + 1
  return some m
theorem tail_ok (C : Cmp prog w A s kd Ok blt) {st : SortSt} (g : Good kd a₀ pend st) (h0 : ∀ x ∈ a₀.toList, Ok x) {lo n b : Nat} (hb : lo + b ≤ a₀.size) (hn : 1 ≤ n) (hnb : n ≤ b) (h1 : Dsc blt (arrOf st) lo (lo + n)) {Q : Option Nat → SortSt → Prop}
    (h : ∀ m st', Good kd a₀ pend st' → 1 ≤ m → m ≤ b → Asc blt (arrOf st') lo (lo + m) → Out (arrOf st) (arrOf st') lo (lo + b) → Q (some m) st') : wpS (model prog w) A E s (tailP lo n b) Q st := by
  unfold tailP
  have hsz : lo + n ≤ (arrOf st).size := by rw [g.size]; omega
  refine wpS_bind (reverse_ok ?_)
  have g' : Good kd a₀ pend (setArr st (mirror (arrOf st) lo (lo + n) ((lo + n - lo) / 2))) := g.set (mirror_perm _ _ _ _)
  refine wpS_bind (asc_ok C g' h0 hb hn hnb (asc_of_dsc hsz h1) fun m hm1 hm2 hs _ => ?_)
  exact wpS_pure (h m _ g' (by omega) hm2 hs (out_mirror (Nat.le_refl _) (by omega) hsz))
abbrev DsSt := Option (Option Nat) × Nat × Nat
def dscP (lo a b : Nat) : StateT SortSt Sem DsSt :=
  forIn [a:b] ((none, a, 0) : DsSt) fun _ c => do
    let some less ← ltAt' (lo + c.2.1) (lo + c.2.1 - 1) | pure (ForInStep.done (some none, c.2.1, c.2.2))
    if less = true then
      if c.2.2 > 0 then do
        reverseSlice' (lo + c.2.1 - (c.2.2 + 1)) (lo + c.2.1)
        pure (ForInStep.yield (none, c.2.1 + 1, 0))
      else pure (ForInStep.yield (none, c.2.1 + 1, 0))
    else do
      let some more ← ltAt' (lo + c.2.1 - 1) (lo + c.2.1) | pure (ForInStep.done (some none, c.2.1, c.2.2))
      if more = true then pure (ForInStep.done (none, c.2.1, c.2.2)) else pure (ForInStep.yield (none, c.2.1 + 1, c.2.2 + 1))
def Like (blt : Keyed → Keyed → Bool) (xs : Array Keyed) (lo n e : Nat) : Prop := e + 1 ≤ n ∧ ∀ i j, lo + n - (e + 1) ≤ i → i < lo + n → lo + n - (e + 1) ≤ j → j < lo + n → le blt (X xs i) (X xs j)
theorem like_one (C : Cmp prog w A s kd Ok blt) {xs : Array Keyed} {lo n : Nat} (h : 1 ≤ n) : Like blt xs lo n 0 := ⟨by omega, fun i j i1 i2 j1 j2 => by
  have e : i = j := by omega
  subst e
  exact C.refl _⟩
theorem dsc_more (C : Cmp prog w A s kd Ok blt) {xs : Array Keyed} {lo n : Nat} (hn : 1 ≤ n) (h : Dsc blt xs lo (lo + n)) (hl : le blt (X xs (lo + n)) (X xs (lo + n - 1))) : Dsc blt xs lo (lo + (n + 1)) := fun i j hi hij hj => by
  by_cases hjx : j < lo + n
  · exact h i j hi hij hjx
  · have ej : j = lo + n := by omega
    subst ej
    by_cases hi' : i = lo + n
    · subst hi'; exact C.refl _
    · exact C.trans hl (h i (lo + n - 1) hi (by omega) (by omega))
theorem dscP_ok (C : Cmp prog w A s kd Ok blt) {st : SortSt} (g : Good kd a₀ pend st) (h0 : ∀ x ∈ a₀.toList, Ok x) {lo a b : Nat} (hb : lo + b ≤ a₀.size) (ha : 1 ≤ a) (hab : a ≤ b) (h1 : Dsc blt (arrOf st) lo (lo + a)) {Q : DsSt → SortSt → Prop}
    (h : ∀ n e st', Good kd a₀ pend st' → a ≤ n → n ≤ b → Dsc blt (arrOf st') lo (lo + n) → Like blt (arrOf st') lo n e → Out (arrOf st) (arrOf st') lo (lo + b) → Q (none, n, e) st') : wpS (model prog w) A E s (dscP lo a b) Q st := by
  unfold dscP
  refine wpS_forRange (I := fun x c st' => ∃ e, c = (none, x, e) ∧ Good kd a₀ pend st' ∧ Dsc blt (arrOf st') lo (lo + x) ∧ Like blt (arrOf st') lo x e ∧ Out (arrOf st) (arrOf st') lo (lo + b)) ?_ ?_
    ⟨0, rfl, g, h1, like_one C ha, Out.refl _ _ _⟩
  · rintro x c st' hx1 hx2 ⟨e, rfl, g', hs, lk, ou⟩
    have hsz : (arrOf st').size = a₀.size := g'.size
    dsimp only
    refine wpS_bind (ltAt_ok C g' h0 (by omega) (by omega) ?_)
    dsimp only
    cases hl : blt (X (arrOf st') (lo + x)) (X (arrOf st') (lo + x - 1)) with
    | true =>
      rw [if_pos rfl]
      have d1 := dsc_more C (by omega) hs (C.ofLt hl)
      have one : ∀ ys : Array Keyed, Like blt ys lo (x + 1) 0 := fun ys => ⟨by omega, fun i j i1 i2 j1 j2 => by
        have : i = j := by omega
        subst this
        exact C.refl _⟩
      by_cases he : e > 0
      · rw [if_pos he]
        refine wpS_bind (reverse_ok ?_)
        refine wpS_pure ⟨0, rfl, g'.set (mirror_perm _ _ _ _), ?_, one _, ou.trans (out_mirror (by have := lk.1; omega) (by omega) (by omega))⟩
        exact dsc_block (by omega) (by omega) (by have := lk.1; omega) d1 fun i j i1 i2 j1 j2 => lk.2 i j i1 i2 j1 j2
      · rw [if_neg he]
        exact wpS_pure ⟨0, rfl, g', d1, one _, ou⟩
    | false =>
      rw [if_neg Bool.false_ne_true]
      refine wpS_bind (ltAt_ok C g' h0 (by omega) (by omega) ?_)
      dsimp only
      cases hm : blt (X (arrOf st') (lo + x - 1)) (X (arrOf st') (lo + x)) with
      | true =>
        rw [if_pos rfl]
        exact wpS_pure (h x e st' g' hx1 (by omega) hs lk ou)
      | false =>
        rw [if_neg Bool.false_ne_true]
        refine wpS_pure ⟨e + 1, rfl, g', dsc_more C (by omega) hs hm, ⟨by have := lk.1; omega, fun i j i1 i2 j1 j2 => ?_⟩, ou⟩
        have l1 : le blt (X (arrOf st') (lo + x - 1)) (X (arrOf st') (lo + x)) := hl
        have l2 : le blt (X (arrOf st') (lo + x)) (X (arrOf st') (lo + x - 1)) := hm
        by_cases ei : i = lo + x
        · by_cases ej : j = lo + x
          · rw [ei, ej]; exact C.refl _
          · rw [ei]
            exact C.trans l2 (lk.2 (lo + x - 1) j (by omega) (by omega) (by omega) (by omega))
        · by_cases ej : j = lo + x
          · rw [ej]
            exact C.trans (lk.2 i (lo + x - 1) (by omega) (by omega) (by omega) (by omega)) l1
          · exact lk.2 i j (by omega) (by omega) (by omega) (by omega)
  · rintro c st' ⟨e, rfl, g', hs, lk, ou⟩
    rw [show max a b = b by omega] at hs lk ⊢
    exact h b e st' g' hab (Nat.le_refl _) hs lk ou
def fallP (lo n b : Nat) : StateT SortSt Sem (Option Nat) := do
  liftM (rule "list.sort.descending-run")
  let mut m := n + 1
  let mut e := 0
  for _ in [m:b] do
    let some less ← ltAt' (lo + m) (lo + m - 1) | return none
    if less then
      if e > 0 then reverseSlice' (lo + m - (e + 1)) (lo + m)
      e := 0
    else
      let some more ← ltAt' (lo + m - 1) (lo + m) | return none
      if more then break
      e := e + 1
    m := m + 1
  if e > 0 then reverseSlice' (lo + m - (e + 1)) (lo + m)
  tailP lo m b
theorem fall_ok (C : Cmp prog w A s kd Ok blt) {st : SortSt} (g : Good kd a₀ pend st) (h0 : ∀ x ∈ a₀.toList, Ok x) {lo n b : Nat} (hb : lo + b ≤ a₀.size) (hnb : n + 1 ≤ b) (h1 : Dsc blt (arrOf st) lo (lo + (n + 1))) {Q : Option Nat → SortSt → Prop}
    (h : ∀ m st', Good kd a₀ pend st' → 1 ≤ m → m ≤ b → Asc blt (arrOf st') lo (lo + m) → Out (arrOf st) (arrOf st') lo (lo + b) → Q (some m) st') : wpS (model prog w) A E s (fallP lo n b) Q st := by
  unfold fallP
  refine wpS_bind (rule_ok ?_)
  refine wpS_bind (dscP_ok C g h0 hb (by omega) hnb h1 fun k e st1 g1 k1 k2 d1 lk ou => ?_)
  dsimp only
  have hsz : (arrOf st1).size = a₀.size := g1.size
  by_cases he : e > 0
  · rw [if_pos he]
    refine wpS_bind (reverse_ok ?_)
    refine tail_ok C (g1.set (mirror_perm _ _ _ _)) h0 hb (by omega) k2 (dsc_block (by omega) (by omega) (by have := lk.1; omega) d1 fun i j i1 i2 j1 j2 => lk.2 i j i1 i2 j1 j2) fun m st2 g2 m1 m2 as ou2 => ?_
    exact h m st2 g2 m1 m2 as ((ou.trans (out_mirror (by have := lk.1; omega) (by omega) (by omega))).trans ou2)
  · rw [if_neg he]
    exact tail_ok C g1 h0 hb (by omega) k2 d1 fun m st2 g2 m1 m2 as ou2 => h m st2 g2 m1 m2 as (ou.trans ou2)
theorem count_ok (C : Cmp prog w A s kd Ok blt) {st : SortSt} (g : Good kd a₀ pend st) (h0 : ∀ x ∈ a₀.toList, Ok x) {lo b : Nat} (hb : lo + b ≤ a₀.size) (b1 : 1 ≤ b) {Q : Option Nat → SortSt → Prop}
    (h : ∀ m st', Good kd a₀ pend st' → 1 ≤ m → m ≤ b → Asc blt (arrOf st') lo (lo + m) → Out (arrOf st) (arrOf st') lo (lo + b) → Q (some m) st') : wpS (model prog w) A E s (countRunP lo b) Q st := by
  unfold countRunP
  have hsz : (arrOf st).size = a₀.size := g.size
  refine wpS_bind (asc_ok C g h0 hb (Nat.le_refl _) b1 (fun i j i1 i2 j1 => by
    have : i = j := by omega
    subst this
    exact C.refl _) fun n n1 n2 hs hor => ?_)
  dsimp only
  by_cases e : n = b
  · rw [if_pos (by rw [e]; exact beq_self_eq_true _)]
    exact wpS_pure (h n st g n1 n2 hs (Out.refl _ _ _))
  rw [if_neg (fun z => e (eq_of_beq z))]
  have hlt : blt (X (arrOf st) (lo + n)) (X (arrOf st) (lo + n - 1)) = true := hor.resolve_left e
  by_cases hg : n > 1
  · rw [if_pos hg]
    refine wpS_bind (ltAt_ok C g h0 (by omega) (by omega) ?_)
    dsimp only
    cases hr : blt (X (arrOf st) lo) (X (arrOf st) (lo + n - 1)) with
    | true =>
      rw [if_pos rfl]
      exact wpS_pure (h n st g n1 n2 hs (Out.refl _ _ _))
    | false =>
      rw [if_neg Bool.false_ne_true]
      refine wpS_bind (reverse_ok ?_)
      -- all of it are alike
      have like : ∀ i j, lo ≤ i → i < lo + n → lo ≤ j → j < lo + n → le blt (X (arrOf st) i) (X (arrOf st) j) := fun i j i1 i2 j1 j2 =>
        C.trans (hs i (lo + n - 1) i1 (by omega) (by omega)) (C.trans hr (hs lo j (Nat.le_refl _) j1 j2))
      have d1 : Dsc blt (arrOf st) lo (lo + (n + 1)) := dsc_more C n1 (fun i j i1 i2 j1 => like j i (by omega) j1 i1 (by omega)) (C.ofLt hlt)
      exact fall_ok C (g.set (mirror_perm _ _ _ _)) h0 hb (by omega) (dsc_block (by omega) (by omega) (Nat.le_refl _) d1 like) fun m st2 g2 m1 m2 as ou2 => h m st2 g2 m1 m2 as ((out_mirror (Nat.le_refl _) (by omega) (by omega)).trans ou2)
  · rw [if_neg hg]
    have en : n = 1 := by omega
    subst en
    have d1 : Dsc blt (arrOf st) lo (lo + (1 + 1)) := dsc_more C (Nat.le_refl _) (fun i j i1 i2 j1 => by
      have : i = j := by omega
      subst this
      exact C.refl _) (C.ofLt hlt)
    exact fall_ok C g h0 hb (by omega) d1 h
end
end Ts
namespace Ts
open PySem PyProof.Rows
def mergeAtP : Nat → StateT SortSt Sem Bool := sortPriv% PySem.Builtin.mergeAt
section
variable {prog : Program} {w : World} {A : Around} {s : Shared} {kd : SortKind} {Ok : Keyed → Prop} {blt : Keyed → Keyed → Bool} {E : Value → Shared → Prop} {a₀ : Array Keyed} {pend : Array (Nat × Nat × Nat)}
theorem moveDown_ok {st : SortSt} {i j : Nat} {Q : Unit → SortSt → Prop} (h : Q () (setArr st (bubble (arrOf st) i (i - j)))) : wpS (model prog w) A E s (moveDown' i j) Q st := by
  rw [moveDown'_eq]
  exact wpS_modify h
theorem binary_ok (C : Cmp prog w A s kd Ok blt) {st : SortSt} (g : Good kd a₀ pend st) (h0 : ∀ x ∈ a₀.toList, Ok x) {lo n ok : Nat} (hb : lo + n ≤ a₀.size) (h1 : Asc blt (arrOf st) lo (lo + ok)) (hok : ok ≤ n) {Q : Bool → SortSt → Prop}
    (h : ∀ st', Good kd a₀ pend st' → Asc blt (arrOf st') lo (lo + n) → Out (arrOf st) (arrOf st') lo (lo + n) → Q true st') : wpS (model prog w) A E s (binarySortP lo n ok) Q st := by
  unfold binarySortP
  refine wpS_bind (wpS_mono (wpS_forRange
    (I := fun k c st' => c = (none, ()) ∧ Good kd a₀ pend st' ∧ Asc blt (arrOf st') lo (lo + k) ∧ Out (arrOf st) (arrOf st') lo (lo + n))
    (Q := fun c st' => c = (none, ()) ∧ Good kd a₀ pend st' ∧ Asc blt (arrOf st') lo (lo + n) ∧ Out (arrOf st) (arrOf st') lo (lo + n)) ?_ ?_ ⟨rfl, g, ?_, Out.refl _ _ _⟩) ?_)
  · rintro k c st1 hk1 hk2 ⟨rfl, g1, hs, ou⟩
    have hsz : (arrOf st1).size = a₀.size := g1.size
    dsimp only
    refine wpS_bind (wpS_mono (wpS_forRange
      (I := fun y c st' => st' = st1 ∧ ∃ l r, c = (none, l, r) ∧ l ≤ r ∧ r ≤ k ∧ r - l + y ≤ k ∧ (∀ i, i < l → le blt (X (arrOf st1) (lo + i)) (X (arrOf st1) (lo + k))) ∧ (∀ i, r ≤ i → i < k → blt (X (arrOf st1) (lo + k)) (X (arrOf st1) (lo + i)) = true))
      (Q := fun c st' => st' = st1 ∧ ∃ l, c = (none, l, l) ∧ l ≤ k ∧ (∀ i, i < l → le blt (X (arrOf st1) (lo + i)) (X (arrOf st1) (lo + k))) ∧ (∀ i, l ≤ i → i < k → blt (X (arrOf st1) (lo + k)) (X (arrOf st1) (lo + i)) = true)) ?_ ?_
      ⟨rfl, 0, k, rfl, by omega, by omega, by omega, fun i hi => by omega, fun i h1 h2 => by omega⟩) ?_)
    · rintro y c st2 _ hy ⟨rfl, l, r, rfl, a1, a2, a3, b1, b2⟩
      dsimp only
      by_cases hlr : l ≥ r
      · rw [if_pos hlr]
        have e : l = r := by omega
        subst e
        exact wpS_pure ⟨rfl, l, rfl, a2, b1, b2⟩
      · rw [if_neg hlr]
        refine wpS_bind (ltAt_ok C g1 h0 (by omega) (by omega) ?_)
        dsimp only
        cases hl : blt (X (arrOf st2) (lo + k)) (X (arrOf st2) (lo + (l + r) / 2)) with
        | true =>
          rw [if_pos rfl]
          exact wpS_pure ⟨rfl, l, (l + r) / 2, rfl, by omega, by omega, by omega, b1, fun i i1 i2 => C.ltLe hl (hs _ _ (by omega) (by omega) (by omega))⟩
        | false =>
          rw [if_neg Bool.false_ne_true]
          exact wpS_pure ⟨rfl, (l + r) / 2 + 1, r, rfl, by omega, a2, by omega, fun i hi => C.trans (hs _ _ (by omega) (by omega) (by omega)) hl, b2⟩
    · rintro c st2 ⟨rfl, l, r, rfl, a1, a2, a3, b1, b2⟩
      have : max 0 k = k := by omega
      rw [this] at a3
      have e : l = r := by omega
      subst e
      exact ⟨rfl, l, rfl, a2, b1, b2⟩
    · rintro c st2 ⟨rfl, l, rfl, a2, b1, b2⟩
      dsimp only
      refine wpS_bind (moveDown_ok ?_)
      have xb := fun i => X_bubble (xs := arrOf st2) (src := lo + k) (d := lo + k - (lo + l)) (by omega) (by omega) i
      have ed : lo + k - (lo + k - (lo + l)) = lo + l := by omega
      refine wpS_pure ⟨rfl, g1.set (bubble_perm _ _ _), fun i j i1 i2 j1 => ?_, ou.trans fun i hi => ?_⟩
      · show le blt (X (bubble (arrOf st2) (lo + k) (lo + k - (lo + l))) i) (X (bubble (arrOf st2) (lo + k) (lo + k - (lo + l))) j)
        rw [xb, xb, ed]
        by_cases e1 : i = lo + l
        · rw [if_pos e1]
          by_cases e2 : j = lo + l
          · rw [if_pos e2]; exact C.refl _
          · rw [if_neg e2]
            by_cases e3 : lo + l < j ∧ j ≤ lo + k
            · rw [if_pos e3]
              have := b2 (j - 1 - lo) (by omega) (by omega)
              rw [show lo + (j - 1 - lo) = j - 1 by omega] at this
              exact C.ofLt this
            · exfalso; omega
        · rw [if_neg e1]
          by_cases e2 : j = lo + l
          · rw [if_pos e2, if_neg (by omega)]
            have := b1 (i - lo) (by omega)
            rw [show lo + (i - lo) = i by omega] at this
            exact this
          · rw [if_neg e2]
            by_cases e3 : lo + l < i ∧ i ≤ lo + k
            · rw [if_pos e3, if_pos (by omega)]
              exact hs _ _ (by omega) (by omega) (by omega)
            · rw [if_neg e3]
              by_cases e4 : lo + l < j ∧ j ≤ lo + k
              · rw [if_pos e4]
                exact hs _ _ (by omega) (by omega) (by omega)
              · rw [if_neg e4]
                exact hs _ _ (by omega) (by omega) (by omega)
      · show X (bubble (arrOf st2) (lo + k) (lo + k - (lo + l))) i = X (arrOf st2) i
        rw [xb, ed, if_neg (by omega), if_neg (by omega)]
  · rintro c st1 ⟨rfl, g1, hs, ou⟩
    refine ⟨rfl, g1, fun i j i1 i2 j1 => hs i j i1 i2 (by omega), ou⟩
  · intro i j i1 i2 j1
    by_cases e : i = j
    · subst e; exact C.refl _
    · exact h1 i j i1 i2 (by omega)
  · rintro c st1 ⟨rfl, g1, hs, ou⟩
    exact wpS_pure (h st1 g1 hs ou)
end
abbrev paste (xs : Array Keyed) (b : Nat) (l : List (Keyed × Nat)) : Array Keyed := l.foldl (fun a x => match x with | (p, j) => a.setIfInBounds (b + j) p) xs
theorem paste_at (b : Nat) : ∀ (l : List Keyed) (o : Nat) (xs : Array Keyed), b + o + l.length ≤ xs.size → (paste xs b (l.zipIdx o)).size = xs.size ∧ ∀ i : Nat, (paste xs b (l.zipIdx o))[i]? = if b + o ≤ i ∧ i < b + o + l.length then l[i - (b + o)]? else xs[i]?
  | [], o, xs, _ => ⟨rfl, fun i => by rw [if_neg (by rw [List.length_nil]; omega)]; rfl⟩
  | x :: l, o, xs, h => by
    rw [List.length_cons] at h
    have ih := paste_at b l (o + 1) (xs.setIfInBounds (b + o) x) (by rw [Array.size_setIfInBounds]; omega)
    have e : paste xs b ((x :: l).zipIdx o) = paste (xs.setIfInBounds (b + o) x) b (l.zipIdx (o + 1)) := by
      rw [List.zipIdx_cons]
      rfl
    rw [e]
    refine ⟨ih.1.trans (Array.size_setIfInBounds), fun i => ?_⟩
    rw [ih.2 i, List.length_cons]
    by_cases h1 : b + (o + 1) ≤ i ∧ i < b + (o + 1) + l.length
    · rw [if_pos h1, if_pos (by omega)]
      rw [show i - (b + o) = (i - (b + (o + 1))) + 1 by omega, List.getElem?_cons_succ]
    · rw [if_neg h1]
      by_cases h2 : i = b + o
      · subst h2
        rw [if_pos (by omega), Array.getElem?_setIfInBounds_self_of_lt (by omega), Nat.sub_self]
        rfl
      · rw [if_neg (by omega), Array.getElem?_setIfInBounds_ne (by omega)]
theorem paste_perm {xs m : Array Keyed} {b n : Nat} (hb : b + n ≤ xs.size) (hn : m.size = n) (hp : m.toList.Perm ((xs.toList.drop b).take n)) : (paste xs b m.toList.zipIdx).Perm xs := by
  have ha := paste_at b m.toList 0 xs (by rw [Array.length_toList]; omega)
  have e : (paste xs b m.toList.zipIdx).toList = xs.toList.take b ++ (m.toList ++ xs.toList.drop (b + n)) := by
    apply List.ext_getElem?
    intro i
    have h1 := ha.2 i
    rw [Array.length_toList, hn] at h1
    have h2 : (paste xs b m.toList.zipIdx).toList[i]? = (paste xs b m.toList.zipIdx)[i]? := by simp
    rw [h2, h1]
    have lt : (xs.toList.take b).length = b := by rw [List.length_take, Array.length_toList]; omega
    by_cases c1 : i < b
    · rw [if_neg (by omega), List.getElem?_append_left (by omega), List.getElem?_take_of_lt c1]
      simp
    · rw [List.getElem?_append_right (by omega), lt]
      by_cases c2 : i < b + n
      · rw [if_pos (by omega), List.getElem?_append_left (by rw [Array.length_toList]; omega)]
        congr 1
      · rw [if_neg (by omega), List.getElem?_append_right (by rw [Array.length_toList]; omega), List.getElem?_drop, Array.length_toList]
        rw [show b + n + (i - b - m.size) = i by omega]
        simp
  refine Array.perm_iff_toList_perm.mpr ?_
  rw [e]
  have e2 : xs.toList = xs.toList.take b ++ ((xs.toList.drop b).take n ++ xs.toList.drop (b + n)) := by
    conv => lhs; rw [← List.take_append_drop b xs.toList]
    congr 1
    conv => lhs; rw [← List.take_append_drop n (xs.toList.drop b)]
    rw [List.drop_drop]
  conv => rhs; rw [e2]
  exact List.Perm.append_left _ (List.Perm.append_right _ hp)
theorem ext_at {xs : Array Keyed} {a n : Nat} (h : a + n ≤ xs.size) {i : Nat} (hi : i < n) : (xs.extract a (a + n))[i]? = some (X xs (a + i)) := by
  rw [Array.getElem?_extract, if_pos (by omega)]
  exact X_at (by omega)
theorem ext_size {xs : Array Keyed} {a n : Nat} (h : a + n ≤ xs.size) : (xs.extract a (a + n)).size = n := by
  rw [Array.size_extract]
  omega
theorem mem_ext {xs : Array Keyed} {a n : Nat} (h : a + n ≤ xs.size) {x : Keyed} (hx : x ∈ (xs.extract a (a + n)).toList) : ∃ i, i < n ∧ x = X xs (a + i) := by
  obtain ⟨i, hi, e⟩ := List.mem_iff_getElem.mp hx
  rw [Array.length_toList, ext_size h] at hi
  refine ⟨i, hi, ?_⟩
  have h1 := ext_at h hi
  have h2 : (xs.extract a (a + n)).toList[i]? = some x := by rw [← e, ← List.getElem?_eq_getElem]
  rw [Array.getElem?_toList, h1] at h2
  exact (Option.some.inj h2).symm
section
variable {prog : Program} {w : World} {A : Around} {s : Shared} {kd : SortKind} {Ok : Keyed → Prop} {blt : Keyed → Keyed → Bool} {E : Value → Shared → Prop} {a₀ : Array Keyed} {pend : Array (Nat × Nat × Nat)}
theorem ext_sorted (C : Cmp prog w A s kd Ok blt) {xs : Array Keyed} {a n c d : Nat} (h : a + n ≤ xs.size) (hs : Asc blt xs c d) (h1 : c ≤ a) (h2 : a + n ≤ d) : (xs.extract a (a + n)).toList.Pairwise (le blt) := by
  rw [List.pairwise_iff_getElem]
  intro i j hi hj hij
  rw [Array.length_toList, ext_size h] at hi hj
  have e1 : (xs.extract a (a + n)).toList[i]? = some (X xs (a + i)) := by rw [Array.getElem?_toList]; exact ext_at h hi
  have e2 : (xs.extract a (a + n)).toList[j]? = some (X xs (a + j)) := by rw [Array.getElem?_toList]; exact ext_at h hj
  obtain ⟨_, f1⟩ := List.getElem?_eq_some_iff.mp e1
  obtain ⟨_, f2⟩ := List.getElem?_eq_some_iff.mp e2
  rw [f1, f2]
  exact hs _ _ (by omega) (by omega) (by omega)
theorem asc_join (C : Cmp prog w A s kd Ok blt) {xs : Array Keyed} {a b c : Nat} (hab : a < b) (h1 : Asc blt xs a b) (h2 : Asc blt xs b c) (h : le blt (X xs (b - 1)) (X xs b)) : Asc blt xs a c := fun i j i1 i2 j1 => by
  by_cases e1 : j < b
  · exact h1 i j i1 i2 e1
  · by_cases e2 : b ≤ i
    · exact h2 i j e2 i2 j1
    · exact C.trans (h1 i (b - 1) i1 (by omega) (by omega)) (C.trans h (h2 b j (Nat.le_refl _) (by omega) j1))
structure Good0 (kd : SortKind) (a₀ : Array Keyed) (st : SortSt) : Prop where
  kind : kindOf st = kd
  fail : failedOf st = none
  perm : (arrOf st).Perm a₀
theorem Good0.size {st : SortSt} (g : Good0 kd a₀ st) : (arrOf st).size = a₀.size := g.perm.size_eq
theorem Good0.okX {st : SortSt} (g : Good0 kd a₀ st) (h0 : ∀ x ∈ a₀.toList, Ok x) {i : Nat} (hi : i < a₀.size) : Ok (X (arrOf st) i) := by
  have e := X_at (xs := arrOf st) (i := i) (by rw [g.size]; exact hi)
  exact h0 _ ((Array.perm_iff_toList_perm.mp g.perm).mem_iff.mp (mem_at e))
theorem row_of {st : SortSt} (g : Good0 kd a₀ st) (h0 : ∀ x ∈ a₀.toList, Ok x) {b n : Nat} (h : b + n ≤ a₀.size) : Row Ok (arrOf st) b n (fun i => X (arrOf st) (b + i)) :=
  ⟨fun i hi => X_at (by rw [g.size]; omega), fun i hi => g.okX h0 (by omega)⟩
theorem set_ok {st st' : SortSt} {Q : Unit → SortSt → Prop} (h : Q () st') : wpS (model prog w) A E s (set st' : StateT SortSt Sem Unit) Q st := by
  unfold wpS
  rw [StateT.run_set]
  exact wpAny_pure ⟨rfl, h⟩
theorem mergeAt_ok (C : Cmp prog w A s kd Ok blt) {st : SortSt} (g : Good0 kd a₀ st) (h0 : ∀ x ∈ a₀.toList, Ok x) {i sa na pa sb nb pb : Nat} (hi : (pendingOf st)[i]? = some (sa, na, pa)) (hj : (pendingOf st)[i + 1]? = some (sb, nb, pb))
    (e1 : sb = sa + na) (n1 : 1 ≤ na) (n2 : 1 ≤ nb) (hz : sb + nb ≤ a₀.size) (s1 : Asc blt (arrOf st) sa sb) (s2 : Asc blt (arrOf st) sb (sb + nb)) {Q : Bool → SortSt → Prop}
    (h : ∀ st', Good0 kd a₀ st' → pendingOf st' = ((pendingOf st).setIfInBounds i (sa, na + nb, pa)).eraseIdxIfInBounds (i + 1) → Asc blt (arrOf st') sa (sb + nb) → Out (arrOf st) (arrOf st') sa (sb + nb) → Q true st') : wpS (model prog w) A E s (mergeAtP i) Q st := by
  have hsz : (arrOf st).size = a₀.size := g.size
  unfold mergeAtP
  refine wpS_bind (wpS_get ?_)
  rw [hi, hj]
  dsimp only
  refine wpS_bind (set_ok ?_)
  refine wpS_bind (elem_ok (X_at (xs := arrOf st) (i := sb) (by rw [hsz]; omega)) ?_)
  show wpS (model prog w) A E s _ _ (SortSt.mk' (kindOf st) (arrOf st) (((pendingOf st).setIfInBounds i (sa, na + nb, pa)).eraseIdxIfInBounds (i + 1)) (gallopOf st) (failedOf st))
  generalize hst1 : SortSt.mk' (kindOf st) (arrOf st) (((pendingOf st).setIfInBounds i (sa, na + nb, pa)).eraseIdxIfInBounds (i + 1)) (gallopOf st) (failedOf st) = st1
  have k1 : kindOf st1 = kd := by rw [← hst1]; exact g.kind
  have ar1 : arrOf st1 = arrOf st := by rw [← hst1]
  have pd1 : pendingOf st1 = ((pendingOf st).setIfInBounds i (sa, na + nb, pa)).eraseIdxIfInBounds (i + 1) := by rw [← hst1]
  have fl1 : failedOf st1 = none := by rw [← hst1]; exact g.fail
  have g1 : Good0 kd a₀ st1 := ⟨k1, fl1, by rw [ar1]; exact g.perm⟩
  have same : Good0 kd a₀ st1 → Asc blt (arrOf st) sa (sb + nb) → Q true st1 := fun gg as => h st1 gg pd1 (by rw [ar1]; exact as) (by rw [ar1]; exact Out.refl _ _ _)
  refine wpS_bind (gallop_ok C (hint := 0) (n := na) (row_of g h0 (b := sa) (n := na) (by omega)) (g.okX h0 (i := sb) (by omega)) k1 (by omega) (fun a c hac hc q1 => ?_) fun k kn t1 t2 => ?_)
  · simp only [bval, Bool.false_eq_true, if_false, Bool.not_eq_true'] at q1 ⊢
    exact C.trans (s1 _ _ (by omega) (by omega) (by omega)) q1
  dsimp only
  have f1 : ∀ m, m < k → le blt (X (arrOf st) (sa + m)) (X (arrOf st) sb) := fun m hm => by
    have := t1 m hm
    have z : blt (X (arrOf st) sb) (X (arrOf st) (sa + m)) = false := by simpa only [bval, Bool.false_eq_true, if_false, Bool.not_eq_true'] using this
    exact z
  by_cases c1 : na - k = 0
  · rw [if_pos (by rw [c1]; rfl)]
    refine wpS_pure (same g1 (asc_join C (by omega) s1 s2 ?_))
    have := f1 (na - 1) (by omega)
    rw [show sa + (na - 1) = sb - 1 by omega] at this
    exact this
  rw [if_neg (fun z => c1 (eq_of_beq z))]
  have f2 : blt (X (arrOf st) sb) (X (arrOf st) (sa + k)) = true := by
    have := t2 k (Nat.le_refl _) (by omega)
    simpa only [bval, Bool.false_eq_true, if_false, Bool.not_eq_false'] using this
  have el : sa + k + (na - k) - 1 = sb - 1 := by omega
  rw [el]
  refine wpS_bind (elem_ok (X_at (xs := arrOf st) (i := sb - 1) (by rw [hsz]; omega)) ?_)
  refine wpS_bind (gallop_ok C (hint := nb - 1) (n := nb) (row_of g h0 (b := sb) (n := nb) (by omega)) (g.okX h0 (i := sb - 1) (by omega)) k1 (by omega) (fun a c hac hc q1 => ?_) fun l ln u1 u2 => ?_)
  · simp only [bval, if_true] at q1 ⊢
    exact C.leLt (s2 _ _ (by omega) (by omega) (by omega)) q1
  dsimp only
  have f3 : ∀ m, m < l → blt (X (arrOf st) (sb + m)) (X (arrOf st) (sb - 1)) = true := fun m hm => by
    have := u1 m hm
    simpa only [bval, if_true] using this
  have f4 : ∀ m, l ≤ m → m < nb → le blt (X (arrOf st) (sb - 1)) (X (arrOf st) (sb + m)) := fun m h1 h2 => by
    have := u2 m h1 h2
    have z : blt (X (arrOf st) (sb + m)) (X (arrOf st) (sb - 1)) = false := by simpa only [bval, if_true] using this
    exact z
  by_cases c2 : l = 0
  · rw [if_pos (by rw [c2]; rfl)]
    subst c2
    exact wpS_pure (same g1 (asc_join C (by omega) s1 s2 (f4 0 (Nat.le_refl _) (by omega))))
  rw [if_neg (fun z => c2 (eq_of_beq z))]
  have ep : (arrOf st).extract (sa + k) sb = (arrOf st).extract (sa + k) (sa + k + (na - k)) := by rw [show sa + k + (na - k) = sb by omega]
  rw [ep]
  have hp : sa + k + (na - k) ≤ (arrOf st).size := by omega
  have hq : sb + l ≤ (arrOf st).size := by omega
  have T : Two Ok blt ((arrOf st).extract (sa + k) (sa + k + (na - k))) ((arrOf st).extract sb (sb + l)) (X (arrOf st) (sa + k)) (X (arrOf st) sb) (X (arrOf st) (sb - 1)) := by
    refine ⟨fun x hx => ?_, fun x hx => ?_, ext_sorted C hp s1 (by omega) (by omega), ext_sorted C hq s2 (by omega) (by omega), ?_, ?_, ?_, f2, fun y hy => ?_⟩
    · obtain ⟨m, hm, rfl⟩ := mem_ext hp hx
      exact g.okX h0 (by omega)
    · obtain ⟨m, hm, rfl⟩ := mem_ext hq hx
      exact g.okX h0 (by omega)
    · exact ext_at hp (by omega)
    · exact ext_at hq (by omega)
    · rw [ext_size hp, ext_at hp (by omega), show sa + k + (na - k - 1) = sb - 1 by omega]
    · obtain ⟨m, hm, rfl⟩ := mem_ext hq hy
      exact f3 m hm
  -- behind the merge
  have fin : ∀ (r : Array Keyed) (st2 : SortSt), Kept st1 st2 → Res blt ((arrOf st).extract (sa + k) (sa + k + (na - k))) ((arrOf st).extract sb (sb + l)) r →
      Q (failedOf (setArr st2 (paste (arrOf st2) (sa + k) r.toList.zipIdx))).isNone (setArr st2 (paste (arrOf st2) (sa + k) r.toList.zipIdx)) := by
    intro r st2 kp hr
    have ar2 : arrOf st2 = arrOf st := kp.arr.trans ar1
    have fl2 : failedOf st2 = none := kp.fail.trans fl1
    have rsz : r.size = na - k + l := by
      have := hr.1.length_eq
      rw [List.length_append, Array.length_toList, Array.length_toList, Array.length_toList, ext_size hp, ext_size hq] at this
      exact this
    have seg : ((arrOf st).toList.drop (sa + k)).take (na - k + l) = ((arrOf st).extract (sa + k) (sa + k + (na - k))).toList ++ ((arrOf st).extract sb (sb + l)).toList := by
      rw [ext_some, ext_some, List.take_add, List.drop_drop, show sa + k + (na - k) = sb by omega]
    have pa' := paste_at (sa + k) r.toList 0 (arrOf st) (by rw [Array.length_toList]; omega)
    have xat : ∀ m, X (paste (arrOf st) (sa + k) r.toList.zipIdx) m = if sa + k ≤ m ∧ m < sb + l then X r (m - (sa + k)) else X (arrOf st) m := fun m => by
      have := pa'.2 m
      rw [Array.length_toList, rsz, Nat.add_zero] at this
      by_cases hm : sa + k ≤ m ∧ m < sb + l
      · rw [if_pos hm]
        rw [if_pos (by omega)] at this
        refine X_congr (this.trans ?_)
        simp
      · rw [if_neg hm]
        rw [if_neg (by omega)] at this
        exact X_congr this
    -- each thing of the merged is one of the two runs'
    have from2 : ∀ m, m < na - k + l → (∃ c, sa + k ≤ c ∧ c < sb ∧ X r m = X (arrOf st) c) ∨ (∃ c, sb ≤ c ∧ c < sb + l ∧ X r m = X (arrOf st) c) := fun m hm => by
      have hx := mem_at (X_at (xs := r) (i := m) (by omega))
      rcases List.mem_append.mp (hr.1.mem_iff.mp hx) with z | z
      · obtain ⟨c, hc, e⟩ := mem_ext hp z
        exact .inl ⟨sa + k + c, by omega, by omega, e⟩
      · obtain ⟨c, hc, e⟩ := mem_ext hq z
        exact .inr ⟨sb + c, by omega, by omega, e⟩
    have rs : ∀ m n, m ≤ n → n < na - k + l → le blt (X r m) (X r n) := fun m n hmn hn => sorted_le C hr.2 hmn (at_list (X_at (by omega))) (at_list (X_at (by omega)))
    have e3 : failedOf (setArr st2 (paste (arrOf st2) (sa + k) r.toList.zipIdx)) = none := fl2
    rw [e3]
    refine h _ ⟨kp.kind.trans k1, e3, ?_⟩ (kp.pend.trans pd1) ?_ ?_
    · show (paste (arrOf st2) (sa + k) r.toList.zipIdx).Perm a₀
      rw [ar2]
      refine (paste_perm (by omega) rsz ?_).trans g.perm
      rw [seg]
      exact hr.1
    · show Asc blt (paste (arrOf st2) (sa + k) r.toList.zipIdx) sa (sb + nb)
      rw [ar2]
      intro c d c1 cd d1
      rw [xat, xat]
      by_cases zc : sa + k ≤ c ∧ c < sb + l
      · rw [if_pos zc]
        by_cases zd : sa + k ≤ d ∧ d < sb + l
        · rw [if_pos zd]
          exact rs _ _ (by omega) (by omega)
        · rw [if_neg zd]
          rcases from2 (c - (sa + k)) (by omega) with ⟨b, b1, b2, e⟩ | ⟨b, b1, b2, e⟩
          · rw [e]
            refine C.trans (s1 b (sb - 1) (by omega) (by omega) (by omega)) ?_
            have := f4 (d - sb) (by omega) (by omega)
            rw [show sb + (d - sb) = d by omega] at this
            exact this
          · rw [e]
            exact s2 b d b1 (by omega) (by omega)
      · rw [if_neg zc]
        by_cases zd : sa + k ≤ d ∧ d < sb + l
        · rw [if_pos zd]
          rcases from2 (d - (sa + k)) (by omega) with ⟨b, b1, b2, e⟩ | ⟨b, b1, b2, e⟩
          · rw [e]
            exact s1 c b c1 (by omega) b2
          · rw [e]
            have := f1 (c - sa) (by omega)
            rw [show sa + (c - sa) = c by omega] at this
            exact C.trans this (s2 sb b (Nat.le_refl _) b1 (by omega))
        · rw [if_neg zd]
          by_cases y1 : d < sb
          · exact s1 c d c1 cd y1
          · by_cases y2 : sb ≤ c
            · exact s2 c d y2 cd d1
            · have := f1 (c - sa) (by omega)
              rw [show sa + (c - sa) = c by omega] at this
              exact C.trans this (s2 sb d (Nat.le_refl _) (by omega) d1)
    · show Out (arrOf st) (paste (arrOf st2) (sa + k) r.toList.zipIdx) sa (sb + nb)
      rw [ar2]
      intro m hm
      rw [xat, if_neg (by omega)]
  by_cases c3 : na - k ≤ l
  · rw [if_pos c3]
    refine wpS_bind (mergeLo_ok C T k1 fun r st2 kp hr => ?_)
    exact wpS_bind (wpS_modify (wpS_bind (wpS_get (wpS_pure (fin r st2 kp hr)))))
  · rw [if_neg c3]
    refine wpS_bind (mergeHi_ok C T k1 fun r st2 kp hr => ?_)
    exact wpS_bind (wpS_modify (wpS_bind (wpS_get (wpS_pure (fin r st2 kp hr)))))
end
end Ts
namespace Ts
open PySem PyProof.Rows
def sortRunsP : StateT SortSt Sem Unit := sortPriv% PySem.Builtin.sortRuns
def Runs (blt : Keyed → Keyed → Bool) (xs : Array Keyed) : List (Nat × Nat × Nat) → Nat → Nat → Prop
  | [], a, b => a = b
  | (s, n, _) :: r, a, b => s = a ∧ 1 ≤ n ∧ Asc blt xs a (a + n) ∧ Runs blt xs r (a + n) b
variable {blt : Keyed → Keyed → Bool}
theorem Runs.len {xs : Array Keyed} : ∀ {l : List (Nat × Nat × Nat)} {a b : Nat}, Runs blt xs l a b → a + l.length ≤ b
  | [], a, b, h => by
    have e : a = b := h
    rw [List.length_nil]
    omega
  | (s, n, p) :: r, a, b, h => by
    have := Runs.len h.2.2.2
    have := h.2.1
    rw [List.length_cons]
    omega
theorem Asc.out {xs ys : Array Keyed} {a b c d : Nat} (h : Asc blt xs a b) (o : Out xs ys c d) (e : b ≤ c ∨ d ≤ a) : Asc blt ys a b := fun i j i1 i2 j1 => by
  rw [o i (by omega), o j (by omega)]
  exact h i j i1 i2 j1
theorem Runs.out {xs ys : Array Keyed} {c d : Nat} (o : Out xs ys c d) : ∀ {l : List (Nat × Nat × Nat)} {a b : Nat}, (b ≤ c ∨ d ≤ a) → Runs blt xs l a b → Runs blt ys l a b
  | [], _, _, _, h => h
  | (s, n, p) :: r, a, b, e, h => by
    have hl := Runs.len h.2.2.2
    exact ⟨h.1, h.2.1, h.2.2.1.out o (by omega), Runs.out o (by omega) h.2.2.2⟩
theorem Runs.push {xs : Array Keyed} {m q : Nat} (hm : 1 ≤ m) : ∀ {l : List (Nat × Nat × Nat)} {a b : Nat}, Runs blt xs l a b → Asc blt xs b (b + m) → Runs blt xs (l ++ [(b, m, q)]) a (b + m)
  | [], a, b, h, hs => by
    have e : a = b := h
    subst e
    exact ⟨rfl, hm, hs, rfl⟩
  | (s, n, p) :: r, a, b, h, hs => ⟨h.1, h.2.1, h.2.2.1, Runs.push hm h.2.2.2 hs⟩
theorem Runs.power {xs : Array Keyed} {pw : Nat} : ∀ {l : List (Nat × Nat × Nat)} {a b : Nat} (k : Nat), Runs blt xs l a b → Runs blt xs (l.modify k fun x => (x.1, x.2.1, pw)) a b
  | [], _, _, k, h => by simpa using h
  | (s, n, p) :: r, a, b, 0, h => by
    rw [List.modify_zero_cons]
    exact h
  | (s, n, p) :: r, a, b, k + 1, h => by
    rw [List.modify_succ_cons]
    exact ⟨h.1, h.2.1, h.2.2.1, Runs.power k h.2.2.2⟩
theorem Runs.two {xs : Array Keyed} : ∀ {l : List (Nat × Nat × Nat)} {a b i sa na pa sb nb pb : Nat}, Runs blt xs l a b → l[i]? = some (sa, na, pa) → l[i + 1]? = some (sb, nb, pb) →
    sb = sa + na ∧ 1 ≤ na ∧ 1 ≤ nb ∧ a ≤ sa ∧ sb + nb ≤ b ∧ Asc blt xs sa sb ∧ Asc blt xs sb (sb + nb)
  | [], _, _, _, _, _, _, _, _, _, _, h, _ => by simp at h
  | (s, n, p) :: r, a, b, 0, sa, na, pa, sb, nb, pb, h, h1, h2 => by
    obtain ⟨e, hn, hs, hr⟩ := h
    have q : s = sa ∧ n = na ∧ p = pa := by simpa using h1
    obtain ⟨q1, q2, q3⟩ := q
    subst q1 q2 q3
    subst e
    cases r with
    | nil => simp at h2
    | cons y r' =>
      obtain ⟨s', n', p'⟩ := y
      have q' : s' = sb ∧ n' = nb ∧ p' = pb := by simpa using h2
      obtain ⟨q1, q2, q3⟩ := q'
      subst q1 q2 q3
      obtain ⟨e', hn', hs', hr'⟩ := hr
      have := Runs.len hr'
      exact ⟨e', hn, hn', Nat.le_refl _, by omega, by rw [e']; exact hs, by rw [e']; exact hs'⟩
  | (s, n, p) :: r, a, b, i + 1, sa, na, pa, sb, nb, pb, h, h1, h2 => by
    have := Runs.two h.2.2.2 (by simpa using h1) (by simpa using h2)
    exact ⟨this.1, this.2.1, this.2.2.1, by have := this.2.2.2.1; have := h.2.1; omega, this.2.2.2.2.1, this.2.2.2.2.2⟩
theorem Runs.merge {xs ys : Array Keyed} : ∀ {l : List (Nat × Nat × Nat)} {a b i sa na pa sb nb pb : Nat}, Runs blt xs l a b → l[i]? = some (sa, na, pa) → l[i + 1]? = some (sb, nb, pb) → Out xs ys sa (sb + nb) → Asc blt ys sa (sb + nb) →
    Runs blt ys ((l.set i (sa, na + nb, pa)).eraseIdx (i + 1)) a b
  | [], _, _, _, _, _, _, _, _, _, _, h, _, _, _ => by simp at h
  | (s, n, p) :: r, a, b, 0, sa, na, pa, sb, nb, pb, h, h1, h2, o, as => by
    have tw := Runs.two h h1 h2
    obtain ⟨e, hn, hs, hr⟩ := h
    have q : s = sa ∧ n = na ∧ p = pa := by simpa using h1
    obtain ⟨q1, q2, q3⟩ := q
    subst q1 q2 q3
    subst e
    cases r with
    | nil => simp at h2
    | cons y r' =>
      obtain ⟨s', n', p'⟩ := y
      have q' : s' = sb ∧ n' = nb ∧ p' = pb := by simpa using h2
      obtain ⟨q1, q2, q3⟩ := q'
      subst q1 q2 q3
      obtain ⟨e', hn', hs', hr'⟩ := hr
      rw [List.set_cons_zero, List.eraseIdx_cons_succ, List.eraseIdx_cons_zero]
      refine ⟨rfl, by omega, ?_, ?_⟩
      · rw [show s + (n + n') = s' + n' by omega]
        exact as
      · rw [show s + (n + n') = s + n + n' by omega]
        exact Runs.out o (.inr (by omega)) hr'
  | (s, n, p) :: r, a, b, i + 1, sa, na, pa, sb, nb, pb, h, h1, h2, o, as => by
    have tw := Runs.two (i := i) h.2.2.2 (by simpa using h1) (by simpa using h2)
    rw [List.set_cons_succ, List.eraseIdx_cons_succ]
    exact ⟨h.1, h.2.1, h.2.2.1.out o (.inl tw.2.2.2.1), Runs.merge h.2.2.2 (by simpa using h1) (by simpa using h2) o as⟩
theorem pend_list (P : Array (Nat × Nat × Nat)) (i : Nat) (v : Nat × Nat × Nat) : ((P.setIfInBounds i v).eraseIdxIfInBounds (i + 1)).toList = (P.toList.set i v).eraseIdx (i + 1) := by
  rw [Array.toList_eraseIdxIfInBounds, Array.toList_setIfInBounds]
section
variable {prog : Program} {w : World} {A : Around} {s : Shared} {kd : SortKind} {Ok : Keyed → Prop} {E : Value → Shared → Prop} {a₀ : Array Keyed}
theorem wpS_ite {α : Type} {c : Prop} [Decidable c] {p q : StateT SortSt Sem α} {Q : α → SortSt → Prop} {st : SortSt} (h1 : c → wpS (model prog w) A E s p Q st) (h2 : ¬ c → wpS (model prog w) A E s q Q st) : wpS (model prog w) A E s (if c then p else q) Q st := by
  by_cases h : c
  · rw [if_pos h]; exact h1 h
  · rw [if_neg h]; exact h2 h
theorem step_ok (C : Cmp prog w A s kd Ok blt) {st : SortSt} (g : Good0 kd a₀ st) (h0 : ∀ x ∈ a₀.toList, Ok x) {lo i : Nat} (hlo : lo ≤ a₀.size) (rn : Runs blt (arrOf st) (pendingOf st).toList 0 lo) (hi : i + 1 < (pendingOf st).size) {Q : Bool → SortSt → Prop}
    (h : ∀ st', Good0 kd a₀ st' → Runs blt (arrOf st') (pendingOf st').toList 0 lo → (pendingOf st').size + 1 = (pendingOf st).size → (∀ c d, lo ≤ c → Asc blt (arrOf st) c d → Asc blt (arrOf st') c d) → Q true st') : wpS (model prog w) A E s (mergeAtP i) Q st := by
  obtain ⟨⟨sa, na, pa⟩, ha⟩ : ∃ x, (pendingOf st)[i]? = some x := ⟨(pendingOf st)[i], by simp⟩
  obtain ⟨⟨sb, nb, pb⟩, hb⟩ : ∃ x, (pendingOf st)[i + 1]? = some x := ⟨(pendingOf st)[i + 1], by simp⟩
  have la : (pendingOf st).toList[i]? = some (sa, na, pa) := by simpa using ha
  have lb : (pendingOf st).toList[i + 1]? = some (sb, nb, pb) := by simpa using hb
  obtain ⟨t1, t2, t3, t4, t5, t6, t7⟩ := rn.two la lb
  refine mergeAt_ok C g h0 ha hb t1 t2 t3 (by omega) t6 t7 fun st' g' pd as ou => ?_
  refine h st' g' ?_ ?_ fun c d hc hs => hs.out ou (.inr (by omega))
  · rw [pd, pend_list]
    exact rn.merge la lb ou as
  · have : (pendingOf st').toList.length + 1 = (pendingOf st).toList.length := by
      rw [pd, pend_list, List.length_eraseIdx, List.length_set, Array.length_toList, if_pos hi]
      omega
    simpa using this
theorem good_of {st : SortSt} (g : Good0 kd a₀ st) : Good kd a₀ (pendingOf st) st := ⟨g.kind, g.fail, g.perm, rfl⟩
theorem good0_of {st : SortSt} {p : Array (Nat × Nat × Nat)} (g : Good kd a₀ p st) : Good0 kd a₀ st := ⟨g.kind, g.fail, g.perm⟩
theorem runs_sort (C : Cmp prog w A s kd Ok blt) {st : SortSt} (g : Good0 kd a₀ st) (h0 : ∀ x ∈ a₀.toList, Ok x) (hp : pendingOf st = #[]) (hz : 1 ≤ a₀.size) {Q : Unit → SortSt → Prop}
    (h : ∀ st', Good0 kd a₀ st' → Asc blt (arrOf st') 0 a₀.size → Q () st') : wpS (model prog w) A E s sortRunsP Q st := by
  unfold sortRunsP
  refine wpS_bind (wpS_get ?_)
  have hsz : (arrOf st).size = a₀.size := g.size
  dsimp only
  rw [hsz]
  generalize (sortPriv% PySem.Builtin.minRun) a₀.size a₀.size 0 = mr
  refine wpS_bind (wpS_mono (wpS_forRange
    (I := fun x c st' => ∃ lo, c = (none, lo) ∧ Good0 kd a₀ st' ∧ Runs blt (arrOf st') (pendingOf st').toList 0 lo ∧ lo ≤ a₀.size ∧ x ≤ lo)
    (Q := fun c st' => c = (none, a₀.size) ∧ Good0 kd a₀ st' ∧ Runs blt (arrOf st') (pendingOf st').toList 0 a₀.size) ?_ ?_ ⟨0, rfl, g, by rw [hp]; exact rfl, by omega, by omega⟩) ?_)
  · rintro x c st1 _ hx ⟨lo, rfl, g1, rn, hlo, hxl⟩
    dsimp only
    by_cases hge : lo ≥ a₀.size
    · rw [if_pos hge]
      have e : lo = a₀.size := by omega
      subst e
      exact wpS_pure ⟨rfl, g1, rn⟩
    rw [if_neg hge]
    refine wpS_bind (count_ok C (good_of g1) h0 (lo := lo) (b := a₀.size - lo) (by omega) (by omega) fun m st2 g2 m1 m2 as ou => ?_)
    dsimp only
    have rn2 : Runs blt (arrOf st2) (pendingOf st2).toList 0 lo := by
      rw [g2.pd]
      exact rn.out ou (.inl (Nat.le_refl _))
    have g2' := good0_of g2
    clear rn g1
    refine wpS_ite (fun hmin => ?_) (fun hmin => ?_)
    · refine wpS_bind (rule_ok ?_)
      refine wpS_bind (binary_ok C g2 h0 (lo := lo) (n := min (a₀.size - lo) mr) (ok := m) (by omega) as (by omega) fun st3 g3 as3 ou3 => ?_)
      refine wpS_ite (fun z => absurd z (by decide)) (fun _ => ?_)
      have n1 : 1 ≤ min (a₀.size - lo) mr := by omega
      have n2 : lo + min (a₀.size - lo) mr ≤ a₀.size := by omega
      have rn3 : Runs blt (arrOf st3) (pendingOf st3).toList 0 lo := by
        rw [g3.pd, ← g2.pd]
        exact rn2.out ou3 (.inl (Nat.le_refl _))
      have g3' := good0_of g3
      generalize min (a₀.size - lo) mr = n at as3 n1 n2
      clear g2 g2' rn2 as ou ou3 g3 m1 m2 hmin
      refine wpS_bind (wpS_get ?_)
      cases hb : (pendingOf st3).back? with
      | none =>
        dsimp only
        refine wpS_bind (wpS_modify ?_)
        refine wpS_pure ⟨lo + n, rfl, ⟨g3'.kind, g3'.fail, g3'.perm⟩, ?_, n2, by omega⟩
        show Runs blt (arrOf st3) ((pendingOf st3).push (lo, n, 0)).toList 0 (lo + n)
        rw [Array.toList_push]
        exact rn3.push n1 as3
      | some y =>
        obtain ⟨s1, l1, p1⟩ := y
        dsimp only
        refine wpS_bind (wpS_mono (wpS_forRange
          (I := fun _ c st' => c = (none, ()) ∧ Good0 kd a₀ st' ∧ Runs blt (arrOf st') (pendingOf st').toList 0 lo ∧ Asc blt (arrOf st') lo (lo + n))
          (Q := fun c st' => c = (none, ()) ∧ Good0 kd a₀ st' ∧ Runs blt (arrOf st') (pendingOf st').toList 0 lo ∧ Asc blt (arrOf st') lo (lo + n)) ?_ (fun _ _ z => z) ⟨rfl, g3', rn3, as3⟩) ?_)
        · rintro z c st4 _ _ ⟨rfl, g4, rn4, as4⟩
          refine wpS_bind (wpS_get ?_)
          by_cases hs1 : (pendingOf st4).size > 1
          · rw [if_pos hs1]
            obtain ⟨⟨a1, b1, older⟩, ho⟩ : ∃ x, (pendingOf st4)[(pendingOf st4).size - 2]? = some x := ⟨(pendingOf st4)[(pendingOf st4).size - 2], by simp⟩
            rw [ho]
            dsimp only
            refine wpS_ite (fun _ => wpS_pure ⟨rfl, g4, rn4, as4⟩) (fun _ => ?_)
            refine wpS_bind (step_ok C g4 h0 hlo rn4 (i := (pendingOf st4).size - 2) (show (pendingOf st4).size - 2 + 1 < (pendingOf st4).size by omega) fun st5 g5 rn5 _ keep => ?_)
            refine wpS_ite (fun z => absurd z (by decide)) (fun _ => ?_)
            exact wpS_pure ⟨rfl, g5, rn5, keep _ _ (Nat.le_refl _) as4⟩
          · rw [if_neg hs1]
            exact wpS_pure ⟨rfl, g4, rn4, as4⟩
        · rintro c st4 ⟨rfl, g4, rn4, as4⟩
          dsimp only
          refine wpS_bind (wpS_modify ?_)
          refine wpS_bind (wpS_modify ?_)
          refine wpS_pure ⟨lo + n, rfl, ⟨g4.kind, g4.fail, g4.perm⟩, ?_, n2, by omega⟩
          show Runs blt (arrOf st4) (((pendingOf st4).modify ((pendingOf st4).size - 1) _).push (lo, n, 0)).toList 0 (lo + n)
          rw [Array.toList_push, Array.toList_modify]
          exact (rn4.power _).push n1 as4
    · have n2 : lo + m ≤ a₀.size := by omega
      refine wpS_bind (wpS_get ?_)
      cases hb : (pendingOf st2).back? with
      | none =>
        dsimp only
        refine wpS_bind (wpS_modify ?_)
        refine wpS_pure ⟨lo + m, rfl, ⟨g2'.kind, g2'.fail, g2'.perm⟩, ?_, n2, by omega⟩
        show Runs blt (arrOf st2) ((pendingOf st2).push (lo, m, 0)).toList 0 (lo + m)
        rw [Array.toList_push]
        exact rn2.push m1 as
      | some y =>
        obtain ⟨s1, l1, p1⟩ := y
        dsimp only
        refine wpS_bind (wpS_mono (wpS_forRange
          (I := fun _ c st' => c = (none, ()) ∧ Good0 kd a₀ st' ∧ Runs blt (arrOf st') (pendingOf st').toList 0 lo ∧ Asc blt (arrOf st') lo (lo + m))
          (Q := fun c st' => c = (none, ()) ∧ Good0 kd a₀ st' ∧ Runs blt (arrOf st') (pendingOf st').toList 0 lo ∧ Asc blt (arrOf st') lo (lo + m)) ?_ (fun _ _ z => z) ⟨rfl, g2', rn2, as⟩) ?_)
        · rintro z c st4 _ _ ⟨rfl, g4, rn4, as4⟩
          refine wpS_bind (wpS_get ?_)
          by_cases hs1 : (pendingOf st4).size > 1
          · rw [if_pos hs1]
            obtain ⟨⟨a1, b1, older⟩, ho⟩ : ∃ x, (pendingOf st4)[(pendingOf st4).size - 2]? = some x := ⟨(pendingOf st4)[(pendingOf st4).size - 2], by simp⟩
            rw [ho]
            dsimp only
            refine wpS_ite (fun _ => wpS_pure ⟨rfl, g4, rn4, as4⟩) (fun _ => ?_)
            refine wpS_bind (step_ok C g4 h0 hlo rn4 (i := (pendingOf st4).size - 2) (show (pendingOf st4).size - 2 + 1 < (pendingOf st4).size by omega) fun st5 g5 rn5 _ keep => ?_)
            refine wpS_ite (fun z => absurd z (by decide)) (fun _ => ?_)
            exact wpS_pure ⟨rfl, g5, rn5, keep _ _ (Nat.le_refl _) as4⟩
          · rw [if_neg hs1]
            exact wpS_pure ⟨rfl, g4, rn4, as4⟩
        · rintro c st4 ⟨rfl, g4, rn4, as4⟩
          dsimp only
          refine wpS_bind (wpS_modify ?_)
          refine wpS_bind (wpS_modify ?_)
          refine wpS_pure ⟨lo + m, rfl, ⟨g4.kind, g4.fail, g4.perm⟩, ?_, n2, by omega⟩
          show Runs blt (arrOf st4) (((pendingOf st4).modify ((pendingOf st4).size - 1) _).push (lo, m, 0)).toList 0 (lo + m)
          rw [Array.toList_push, Array.toList_modify]
          exact (rn4.power _).push m1 as4
  · rintro c st1 ⟨lo, rfl, g1, rn, hlo, hxl⟩
    have : max 0 a₀.size = a₀.size := by omega
    rw [this] at hxl
    have e : lo = a₀.size := by omega
    subst e
    exact ⟨rfl, g1, rn⟩
  · rintro c st1 ⟨rfl, g1, rn⟩
    dsimp only
    have len0 := Runs.len rn
    rw [Array.length_toList] at len0
    refine wpS_bind (wpS_mono (wpS_forRange
      (I := fun x c st' => c = (none, ()) ∧ Good0 kd a₀ st' ∧ Runs blt (arrOf st') (pendingOf st').toList 0 a₀.size ∧ ((pendingOf st').size ≤ 1 ∨ (pendingOf st').size + x ≤ a₀.size))
      (Q := fun c st' => c = (none, ()) ∧ Good0 kd a₀ st' ∧ Runs blt (arrOf st') (pendingOf st').toList 0 a₀.size ∧ (pendingOf st').size ≤ 1) ?_ ?_ ⟨rfl, g1, rn, .inr (by omega)⟩) ?_)
    · rintro x c st2 _ hx ⟨rfl, g2, rn2, hs⟩
      refine wpS_bind (wpS_get ?_)
      refine wpS_ite (fun h1 => wpS_pure ⟨rfl, g2, rn2, h1⟩) (fun h1 => ?_)
      have h1' : ¬ (pendingOf st2).size ≤ 1 := h1
      generalize hB : Option.any _ _ = bb
      have key : ∀ i, i + 1 < (pendingOf st2).size → wpS (model prog w) A E s (mergeAtP i) (fun r st3 => r = true ∧ Good0 kd a₀ st3 ∧ Runs blt (arrOf st3) (pendingOf st3).toList 0 a₀.size ∧ (pendingOf st3).size + 1 = (pendingOf st2).size) st2 :=
        fun i hi => step_ok C g2 h0 (Nat.le_refl _) rn2 hi fun st3 g3 rn3 sz _ => ⟨rfl, g3, rn3, sz⟩
      refine wpS_bind (wpS_mono (key _ ?_) fun r st3 ⟨er, g3, rn3, sz⟩ => ?_)
      · cases bb with
        | true => show (pendingOf st2).size - 2 - 1 + 1 < (pendingOf st2).size; omega
        | false => show (pendingOf st2).size - 2 + 1 < (pendingOf st2).size; omega
      subst er
      refine wpS_ite (fun z => absurd z (by decide)) (fun _ => ?_)
      exact wpS_pure ⟨rfl, g3, rn3, .inr (by omega)⟩
    · rintro c st2 ⟨rfl, g2, rn2, hs⟩
      have : max 0 a₀.size = a₀.size := by omega
      rw [this] at hs
      exact ⟨rfl, g2, rn2, by omega⟩
    · rintro c st2 ⟨rfl, g2, rn2, hs⟩
      dsimp only
      refine wpS_pure (h st2 g2 ?_)
      generalize hl : (pendingOf st2).toList = l at rn2
      have hll : l.length ≤ 1 := by rw [← hl, Array.length_toList]; exact hs
      match l, rn2, hll with
      | [], rn2, _ =>
        have e : 0 = a₀.size := rn2
        omega
      | [(s1, n1, p1)], rn2, _ =>
        obtain ⟨_, _, as, e⟩ := rn2
        have e' : 0 + n1 = a₀.size := e
        rw [e'] at as
        exact as
end
end Ts
namespace Ts
open PySem PyProof.Rows L2
theorem lex_irr : ∀ l : List Int, HT.lexLt l l = false
  | [] => rfl
  | x :: r => by rw [HT.lexLt_cons, if_pos rfl]; exact lex_irr r
theorem lex_tr : ∀ {a b c : List Int}, HT.lexLt a b = true → HT.lexLt b c = true → HT.lexLt a c = true
  | [], [], _, h, _ => by rw [HT.lexLt_nil_nil] at h; cases h
  | [], _ :: _, [], _, h => by rw [HT.lexLt_cons_nil] at h; cases h
  | [], _ :: _, _ :: _, _, _ => HT.lexLt_nil_cons _ _
  | _ :: _, [], _, h, _ => by rw [HT.lexLt_cons_nil] at h; cases h
  | _ :: _, _ :: _, [], _, h => by rw [HT.lexLt_cons_nil] at h; cases h
  | x :: a, y :: b, z :: c, h1, h2 => by
    rw [HT.lexLt_cons] at h1 h2 ⊢
    by_cases e1 : x = y
    · subst e1
      rw [if_pos rfl] at h1
      by_cases e2 : x = z
      · subst e2
        rw [if_pos rfl] at h2 ⊢
        exact lex_tr h1 h2
      · rw [if_neg e2] at h2 ⊢
        exact h2
    · rw [if_neg e1] at h1
      have l1 : x < y := of_decide_eq_true h1
      by_cases e2 : y = z
      · subst e2
        rw [if_neg e1]
        exact h1
      · rw [if_neg e2] at h2
        have l2 : y < z := of_decide_eq_true h2
        rw [if_neg (by omega)]
        exact decide_eq_true (by omega)
theorem lex_tot : ∀ {a b : List Int}, HT.lexLt a b = false → HT.lexLt b a = false → a = b
  | [], [], _, _ => rfl
  | [], _ :: _, h, _ => by rw [HT.lexLt_nil_cons] at h; cases h
  | _ :: _, [], _, h => by rw [HT.lexLt_nil_cons] at h; cases h
  | x :: a, y :: b, h1, h2 => by
    rw [HT.lexLt_cons] at h1 h2
    by_cases e : x = y
    · subst e
      rw [if_pos rfl] at h1 h2
      rw [lex_tot h1 h2]
    · rw [if_neg e] at h1
      rw [if_neg (Ne.symm e)] at h2
      have l1 := of_decide_eq_false h1
      have l2 := of_decide_eq_false h2
      omega
theorem lex_neg {a b c : List Int} (h : HT.lexLt a c = true) : HT.lexLt a b = true ∨ HT.lexLt b c = true := by
  cases h1 : HT.lexLt a b with
  | true => exact .inl rfl
  | false =>
    cases h2 : HT.lexLt b a with
    | true => exact .inr (lex_tr h2 h)
    | false =>
      rw [← lex_tot h1 h2]
      exact .inr h
def kof (c : Addr → List Int) (x : Keyed) : List Int := match x.1 with
  | .ref a => c a
  | _ => []
def tlt (c : Addr → List Int) (x y : Keyed) : Bool := HT.lexLt (kof c x) (kof c y)
def Held (c : Addr → List Int) (rs : List Addr) (h : Heap) : Prop := ∀ r ∈ rs, ∃ its : List Value, IntsAre its (c r) ∧ IsTup h r its.toArray
section
variable {prog : Program} {w : World} {A : Around} {E : Value → Shared → Prop} {s : Shared} {c : Addr → List Int} {rs : List Addr}
theorem oneLt_tup (hH : Held c rs s.heap) (hu : A.units < cLine) {a b : Addr} (ha : a ∈ rs) (hb : b ∈ rs) {Q : Bool → Shared → Prop} (h : Q (HT.lexLt (c a) (c b)) s) : wpAny (model prog w) A (oneLt' true (.ref a) (.ref b)) Q E s := by
  obtain ⟨i1, t1, ⟨c1, d1, dt1, sl1⟩, g1, k1, n1, e1⟩ := hH a ha
  obtain ⟨i2, t2, ⟨c2, d2, dt2, sl2⟩, g2, k2, n2, e2⟩ := hH b hb
  simp only at k1 e1 k2 e2
  subst k1 e1 k2 e2
  rw [oneLt'_eq]
  simp only [if_true]
  refine wpAny_bind (wpAny_cRoomFor hu (wpAny_bind (wpAny_callSpecialIfBound?_slot ⟨_, g1, rfl⟩ PySem.F.slot_tuple_lt ?_)))
  refine call_meets PySem.F.slot_tuple_lt ⟨_, g1, rfl⟩ PySem.F.entry_tuple_lt (PySem.F.args_tuple_lt_2 _ _) (HT.tuple_lt_ints a b _ _ n1 n2 d1 d2 sl1 sl2 (c a) (c b) (by simpa using t1) (by simpa using t2)) ⟨g1, g2, ?_⟩
  exact wpAny_truthy_bool h
theorem cmp_tup (hH : Held c rs s.heap) (hu : A.units < cLine) : Cmp prog w A s oneType' (fun x => ∃ r ∈ rs, x.1 = .ref r) (tlt c) where
  run := fun x y Q E ⟨r, hr, ex⟩ ⟨r', hr', ey⟩ h => by
    obtain ⟨x1, x2⟩ := x
    obtain ⟨y1, y2⟩ := y
    simp only at ex ey
    subst ex ey
    rw [keyLt'_oneType]
    exact oneLt_tup hH hu hr hr' h
  irr := fun x => lex_irr _
  tr := fun x y z h1 h2 => lex_tr h1 h2
  neg := fun x y z h => lex_neg h
theorem firsts_tup : ∀ {l : List Addr} {Q : List (Option Value) → Shared → Prop}, (∀ r ∈ l, ∃ its : List Value, IntsAre its (c r) ∧ IsTup s.heap r its.toArray) → (∀ fs : List (Option Value), fs.length = l.length → (∀ (i : Nat) (r : Addr), l[i]? = some r → ∃ f, fs[i]? = some f ∧ (f.isSome = true ↔ c r ≠ [])) → Q fs s) →
    wpAny (model prog w) A ((l.map Value.ref).mapM firstOfTuple') Q E s
  | [], Q, _, h => by
    rw [List.map_nil, List.mapM_nil]
    exact wpAny_pure (h [] rfl fun i r e => by simp at e)
  | r :: l, Q, hH, h => by
    obtain ⟨its, ti, o, g, k, n, e⟩ := hH r List.mem_cons_self
    rw [List.map_cons, List.mapM_cons]
    have one : ∀ {R : Option Value → Shared → Prop}, R its.toArray[0]? s → wpAny (model prog w) A (firstOfTuple' (.ref r)) R E s := fun {R} hR => by
      unfold firstOfTuple'
      refine wpAny_bind (wpAny_typeOf (T := "tuple") ⟨o, g, k⟩ ?_)
      rw [if_neg (by simp)]
      exact wpAny_bind (listItems_at g e (wpAny_pure hR))
    refine wpAny_bind (one (wpAny_bind (firsts_tup (fun r' hr' => hH r' (List.mem_cons_of_mem _ hr')) fun fs hl hf => wpAny_pure (h _ (by rw [List.length_cons, List.length_cons, hl]) fun i r' er => ?_))))
    cases i with
    | zero =>
      have e' : r = r' := by simpa using er
      subst e'
      refine ⟨_, rfl, ?_⟩
      have hlen := ti.length
      cases its with
      | nil =>
        cases hc : c r with
        | nil => simp
        | cons _ _ => rw [hc] at hlen; simp at hlen
      | cons a b =>
        cases hc : c r with
        | nil => rw [hc] at hlen; simp at hlen
        | cons _ _ => simp
    | succ i =>
      obtain ⟨f, h1, h2⟩ := hf i r' (by simpa using er)
      exact ⟨f, by simpa using h1, h2⟩
theorem types_tup : ∀ {l : List Addr} {Q : List Value → Shared → Prop}, (∀ r ∈ l, ∃ its : List Value, IntsAre its (c r) ∧ IsTup s.heap r its.toArray) → Q (l.map fun _ => Value.type "tuple") s → wpAny (model prog w) A ((l.map Value.ref).mapM typeOf) Q E s
  | [], Q, _, h => by
    rw [List.map_nil, List.mapM_nil]
    exact wpAny_pure h
  | r :: l, Q, hH, h => by
    obtain ⟨its, ti, o, g, k, n, e⟩ := hH r List.mem_cons_self
    rw [List.map_cons, List.mapM_cons]
    exact wpAny_bind (wpAny_typeOf (T := "tuple") ⟨o, g, k⟩ (wpAny_bind (types_tup (fun r' hr' => hH r' (List.mem_cons_of_mem _ hr')) (wpAny_pure h))))
theorem kind_tup {r : Addr} {l : List Addr} (hH : Held c (r :: l) s.heap) (h0 : c r = []) {Q : SortKind → Shared → Prop} (h : Q oneType' s) : wpAny (model prog w) A (keyKind' ((r :: l).map Value.ref).toArray) Q E s := by
  rw [keyKind'_eq, List.mapM_toArray]
  refine wpAny_bind ?_
  show wpAny (model prog w) A (List.toArray <$> ((r :: l).map Value.ref).mapM firstOfTuple') _ E s
  rw [map_eq_pure_bind]
  refine wpAny_bind (firsts_tup hH fun fs hl hf => wpAny_pure ?_)
  obtain ⟨f, h1, h2⟩ := hf 0 r rfl
  have fn : f = none := by
    cases f with
    | none => rfl
    | some v => exact absurd h0 (h2.mp rfl)
  subst fn
  have na : ¬ (fs.toArray.all fun x => x.isSome) = true := by
    intro z
    have := Array.all_eq_true'.mp z none (by
      have := List.mem_of_getElem? h1
      simpa using this)
    simp at this
  have n0 : ¬ (fs.toArray[0]?.bind id).isSome = true := by
    rw [List.getElem?_toArray, h1]
    simp
  rw [if_neg na, if_neg n0, oneTypeOnly'_eq, List.mapM_toArray]
  refine wpAny_bind (wpAny_bind ?_)
  show wpAny (model prog w) A (List.toArray <$> ((r :: l).map Value.ref).mapM typeOf) _ E s
  rw [map_eq_pure_bind]
  refine wpAny_bind (types_tup hH (wpAny_pure ?_))
  have e0 : ((r :: l).map fun _ => Value.type "tuple").toArray[0]? = some (Value.type "tuple") := by simp
  have ea : (((r :: l).map fun _ => Value.type "tuple").toArray.all fun x => x == Value.type "tuple") = true := by
    simp only [List.all_toArray, List.all_map, List.all_eq_true]
    intro _ _
    rfl
  rw [e0]
  dsimp only
  rw [ea, if_pos rfl]
  exact wpAny_pure (wpAny_pure h)
end
end Ts
namespace Ts
open PySem PyProof.Rows L2
theorem refs_vals : ∀ {rs : List Addr} {us : List Value}, Vals (rs.map V.ref) us → us = rs.map Value.ref
  | [], _, r => by cases r; rfl
  | a :: l, _, r => by
    rw [List.map_cons] at r
    cases r with
    | cons r1 r2 =>
      cases r1
      rw [refs_vals r2]
      rfl
theorem vals_refs : ∀ rs : List Addr, Vals (rs.map V.ref) (rs.map Value.ref)
  | [] => .nil
  | _ :: l => .cons rfl (vals_refs l)
section
variable {prog : Program} {w : World} {A : Around} {E : Value → Shared → Prop} {s : Shared} {c : Addr → List Int} {rs : List Addr}
theorem sortedAll_keeps {h : Heap} {vs : List Value} {out : Array Value} {b : Addr} {o : Obj} (e : h.get? b = some o) : (sortedAll h vs out).get? b = some o := by
  have lt := Heap.lt_size e
  unfold sortedAll sortedHeap
  have z1 : ((h.push (seqObj "list" #[] 0)).update h.objs.size (Obj.mapSeq (· ++ vs.toArray))).objs.size = h.objs.size + 1 := by rw [Heap.size_update, size_push']
  have n1 : b ≠ h.objs.size + 1 := Nat.ne_of_lt (Nat.lt_succ_of_lt lt)
  refine ((Heap.SameBut.update _ _ _).2 b n1).trans (Heap.get?_push_of_some _ (Heap.get?_push_of_some _ (((Heap.SameBut.update _ _ _).2 b n1).trans (Heap.get?_push_of_some _ ?_))))
  exact ((Heap.SameBut.update _ _ _).2 b (Nat.ne_of_lt lt)).trans (Heap.get?_push_of_some _ e)
theorem sortedAll_new {h : Heap} {vs : List Value} {out : Array Value} : ∃ n, (sortedAll h vs out).get? (h.objs.size + 1) = some (seqObj "list" out n) := by
  unfold sortedAll sortedHeap
  have z1 : ((h.push (seqObj "list" #[] 0)).update h.objs.size (Obj.mapSeq (· ++ vs.toArray))).objs.size = h.objs.size + 1 := by rw [Heap.size_update, size_push']
  have g1 : (((h.push (seqObj "list" #[] 0)).update h.objs.size (Obj.mapSeq (· ++ vs.toArray))).push (seqObj "list" vs.toArray 0)).get? (h.objs.size + 1) = some (seqObj "list" vs.toArray 0) := by
    rw [← z1]
    exact Heap.get?_push_size _ rfl
  have g2 := get?_update_seq g1 (fun _ => #[])
  have g3 := Heap.get?_push_of_some (seqObj "list" #[] 0) (Heap.get?_push_of_some (seqObj "tuple" vs.toArray 0) g2)
  exact ⟨_, get?_update_seq g3 (fun _ => out)⟩
end
end Ts
namespace Nd
open PySem L2 Ts
def Ws (H : Hp) (ws : List (Addr × List Int)) : Prop := ∀ p ∈ ws, H p.1 = some (.tup (p.2.map V.int))
theorem Ws.same {H H' : Hp} {ws : List (Addr × List Int)} (h : Ws H ws) (s : Same H H') : Ws H' ws := fun p hp => s _ _ (h p hp)
def cOf (H : Hp) (a : Addr) : List Int := match H a with
  | some (.tup xs) => xs.filterMap fun x => match x with | .int i => some i | _ => none
  | _ => []
theorem cOf_eq {H : Hp} {a : Addr} {w : List Int} (h : H a = some (.tup (w.map V.int))) : cOf H a = w := by
  unfold cOf
  rw [h]
  show (w.map V.int).filterMap _ = w
  rw [List.filterMap_map]
  exact List.filterMap_some
theorem Ws.c {H : Hp} {ws : List (Addr × List Int)} (h : Ws H ws) : (ws.map (·.1)).map (cOf H) = ws.map (·.2) := by
  rw [List.map_map]
  exact List.map_congr_left fun p hp => cOf_eq (h p hp)
end Nd
namespace Nd
open PySem L2
def ch : Nat → Nat → Nat
  | _, 0 => 1
  | 0, _ + 1 => 0
  | n + 1, k + 1 => ch n k + ch n (k + 1)
theorem ch_zero (n : Nat) : ch n 0 = 1 := by cases n <;> rfl
theorem ch_succ (n k : Nat) : ch (n + 1) (k + 1) = ch n k + ch n (k + 1) := rfl
theorem ch_above : ∀ {n k : Nat}, n < k → ch n k = 0
  | 0, 0, h => absurd h (Nat.lt_irrefl _)
  | 0, k + 1, _ => rfl
  | n + 1, 0, h => absurd h (Nat.not_lt_zero _)
  | n + 1, k + 1, h => by rw [ch_succ, ch_above (by omega : n < k), ch_above (by omega : n < k + 1)]
theorem ch_self : ∀ n : Nat, ch n n = 1
  | 0 => rfl
  | n + 1 => by rw [ch_succ, ch_self n, ch_above (Nat.lt_succ_self n)]
theorem ch_one : ∀ n : Nat, ch n 1 = n
  | 0 => rfl
  | n + 1 => by rw [ch_succ, ch_zero, ch_one n]; omega
theorem ch_step : ∀ n k : Nat, ch n (k + 1) * (k + 1) = ch n k * (n - k)
  | 0, 0 => rfl
  | 0, k + 1 => by rw [ch_above (by omega : 0 < k + 1 + 1), ch_above (by omega : 0 < k + 1)]; simp
  | n + 1, 0 => by rw [ch_one, ch_zero]; omega
  | n + 1, k + 1 => by
    have h1 := ch_step n k
    have h2 := ch_step n (k + 1)
    rw [ch_succ, ch_succ n k]
    by_cases hk : n ≤ k
    · by_cases hk2 : n = k
      · subst hk2
        rw [ch_self, ch_above (by omega : n < n + 1), ch_above (by omega : n < n + 1 + 1)]
        simp
      · rw [ch_above (by omega : n < k + 1), ch_above (by omega : n < k + 1 + 1), ch_above (by omega : n < k)]
        simp
    · have e1 : n - k = n - (k + 1) + 1 := by omega
      have e2 : n + 1 - (k + 1) = n - (k + 1) + 1 := by omega
      rw [e1] at h1
      rw [e2]
      generalize n - (k + 1) = m at h1 h2
      generalize ch n k = A at *
      generalize ch n (k + 1) = B at *
      generalize ch n (k + 1 + 1) = C at *
      -- h1 : B * (k + 1) = A * (m + 1); h2 : C * (k + 1 + 1) = B * m
      have : (B + C) * (k + 1 + 1) = B * (k + 1) + B + C * (k + 1 + 1) := by
        rw [Nat.add_mul, Nat.mul_add B (k + 1) 1, Nat.mul_one]
      rw [this, h1, h2, Nat.add_mul, Nat.mul_add B m 1, Nat.mul_one]
      omega
theorem ch_sym : ∀ {n k : Nat}, k ≤ n → ch n k = ch n (n - k)
  | 0, k, h => by have : k = 0 := by omega
                  subst this; rfl
  | n + 1, 0, _ => by rw [ch_zero, Nat.sub_zero, ch_self]
  | n + 1, k + 1, h => by
    by_cases hk : k = n
    · subst hk; rw [Nat.sub_self, ch_self, ch_zero]
    · have e : n + 1 - (k + 1) = (n - (k + 1)) + 1 := by omega
      rw [ch_succ, e, ch_succ, ch_sym (by omega : k ≤ n), ch_sym (by omega : k + 1 ≤ n)]
      have e2 : n - k = n - (k + 1) + 1 := by omega
      rw [e2]
      omega
theorem ch_le : ∀ n k : Nat, ch n k ≤ 2 ^ n
  | n, 0 => by rw [ch_zero]; exact Nat.one_le_two_pow
  | 0, k + 1 => by rw [ch_above (by omega)]; exact Nat.zero_le _
  | n + 1, k + 1 => by
    have h1 := ch_le n k
    have h2 := ch_le n (k + 1)
    rw [ch_succ, Nat.pow_succ]
    omega
def cw : Nat → Int → Nat → List (List Int)
  | _, _, 0 => [[]]
  | 0, _, _ + 1 => []
  | d + 1, p, m + 1 => (cw d (p + 1) m).map (p :: ·) ++ cw d (p + 1) (m + 1)
theorem cw_zero (d : Nat) (p : Int) : cw d p 0 = [[]] := by cases d <;> rfl
theorem cw_succ (d : Nat) (p : Int) (m : Nat) : cw (d + 1) p (m + 1) = (cw d (p + 1) m).map (p :: ·) ++ cw d (p + 1) (m + 1) := rfl
theorem cw_len : ∀ (d : Nat) (p : Int) (m : Nat), (cw d p m).length = ch d m
  | d, p, 0 => by rw [cw_zero, ch_zero]; rfl
  | 0, p, m + 1 => rfl
  | d + 1, p, m + 1 => by rw [cw_succ, List.length_append, List.length_map, cw_len d (p + 1) m, cw_len d (p + 1) (m + 1), ch_succ]
def RisingAt (p : Int) (d : Nat) (w : List Int) : Prop := w.Pairwise (· < ·) ∧ ∀ x ∈ w, p ≤ x ∧ x < p + d
theorem cw_mem : ∀ {d : Nat} {p : Int} {m : Nat} {w : List Int}, w ∈ cw d p m ↔ w.length = m ∧ RisingAt p d w
  | d, p, 0, w => by
    rw [cw_zero, List.mem_singleton]
    constructor
    · rintro rfl; exact ⟨rfl, List.Pairwise.nil, fun _ h => (nomatch h)⟩
    · rintro ⟨h, _⟩; exact List.eq_nil_of_length_eq_zero h
  | 0, p, m + 1, w => by
    constructor
    · intro h; cases h
    · rintro ⟨h, _, h2⟩
      match w, h with
      | x :: w, _ => have := h2 x List.mem_cons_self; omega
  | d + 1, p, m + 1, w => by
    rw [cw_succ, List.mem_append, List.mem_map]
    constructor
    · rintro (⟨v, hv, rfl⟩ | h)
      · obtain ⟨h1, h2, h3⟩ := cw_mem.mp hv
        refine ⟨by rw [List.length_cons, h1], List.pairwise_cons.mpr ⟨fun x hx => ?_, h2⟩, fun x hx => ?_⟩
        · have := h3 x hx; omega
        · rcases List.mem_cons.mp hx with rfl | hx
          · omega
          · have := h3 x hx; omega
      · obtain ⟨h1, h2, h3⟩ := cw_mem.mp h
        exact ⟨h1, h2, fun x hx => by have := h3 x hx; omega⟩
    · rintro ⟨h1, h2, h3⟩
      match w, h1 with
      | x :: v, h1 =>
        obtain ⟨a1, a2⟩ := List.pairwise_cons.mp h2
        have hx := h3 x List.mem_cons_self
        by_cases e : x = p
        · subst e
          refine .inl ⟨v, cw_mem.mpr ⟨by simpa using h1, a2, fun y hy => ?_⟩, rfl⟩
          have := a1 y hy
          have := h3 y (List.mem_cons_of_mem _ hy)
          omega
        · refine .inr (cw_mem.mpr ⟨h1, h2, fun y hy => ?_⟩)
          rcases List.mem_cons.mp hy with rfl | hy
          · omega
          · have := a1 y hy
            have := h3 y (List.mem_cons_of_mem _ hy)
            omega
def behind (top : Int) : Nat → List Int → Nat
  | _, [] => 0
  | m, x :: w => ch (top - 1 - x).toNat m + behind top (m - 1) w
theorem cw_lex : ∀ (d : Nat) (p : Int) (m : Nat), (cw d p m).Pairwise (fun x y => HT.lexLt x y = true)
  | d, p, 0 => by rw [cw_zero]; exact List.pairwise_singleton _ _
  | 0, p, m + 1 => List.Pairwise.nil
  | d + 1, p, m + 1 => by
    rw [cw_succ]
    refine List.pairwise_append.mpr ⟨?_, cw_lex d (p + 1) (m + 1), fun x hx y hy => ?_⟩
    · rw [List.pairwise_map]
      exact (cw_lex d (p + 1) m).imp fun {a b} h => by rw [HT.lexLt_cons, if_pos rfl]; exact h
    · obtain ⟨v, _, rfl⟩ := List.mem_map.mp hx
      obtain ⟨h1, h2, h3⟩ := cw_mem.mp hy
      match y, h1, h3 with
      | z :: y, _, h3 =>
        have := h3 z List.mem_cons_self
        rw [HT.lexLt_cons, if_neg (by omega), decide_eq_true_eq]
        omega
end Nd
namespace Nd
open PySem PySem.Spec PyProof.Rows L2
open AutoSeq1 (wpAny_loadPart')
end Nd
namespace Nd
open PySem PySem.Spec PyProof.Rows L2
end Nd
namespace Nd
open PySem PySem.Spec PyProof.Rows L2
theorem compTurn_two0 (elt t1 i1 t2 i2 : Expr) (scope : Scope) (pos : Pos) (it acc : Value) (env : Env) :
    compTurn (.ListComp elt [⟨t1, i1, [], 0⟩, ⟨t2, i2, [], 0⟩] scope pos) 0 it acc env = (do
      standAt i1.pos
      match ← pyNext it with
      | none => pure (.done .next)
      | some v =>
        letOwnedTupleGo t1 it v
        assign t1 env v
        let x ← eval i2 env
        standAt i2.pos
        let x ← foldedSetIterable i2 env x
        let it2 ← holding [x] (pyIter x)
        let _ ← runOwn (.compStart (.ListComp elt [⟨t1, i1, [], 0⟩, ⟨t2, i2, [], 0⟩] scope pos) 1 it2 acc env) env
        again (.compLoop (.ListComp elt [⟨t1, i1, [], 0⟩, ⟨t2, i2, [], 0⟩] scope pos) 0 it acc env)) := by rfl
theorem compTurn_two1 (elt t1 i1 t2 i2 : Expr) (scope : Scope) (pos : Pos) (it acc : Value) (env : Env) :
    compTurn (.ListComp elt [⟨t1, i1, [], 0⟩, ⟨t2, i2, [], 0⟩] scope pos) 1 it acc env = (do
      standAt i2.pos
      match ← pyNext it with
      | none => pure (.done .next)
      | some v =>
        letOwnedTupleGo t2 it v
        assign t2 env v
        (do let _ ← call (.builtin "list.append") [acc, ← eval elt env])
        again (.compLoop (.ListComp elt [⟨t1, i1, [], 0⟩, ⟨t2, i2, [], 0⟩] scope pos) 1 it acc env)) := by rfl
section
variable {prog : Program} {w : World} {A : Around} {R : Result → Shared → Prop} {s : Shared}
theorem compStart_one {elt : Expr} {g : Comprehension} {t2 i2 : Expr} {scope : Scope} {pos : Pos} {it acc : Value} {env : Env}
    (h0 : codeAny (model prog w) A (.compLoop (.ListComp elt [g, ⟨t2, i2, [], 0⟩] scope pos) 1 it acc env) R s)
    (h : wpAny (model prog w) A (pyIter it) (fun it' s' => codeAny (model prog w) A (.compLoop (.ListComp elt [g, ⟨t2, i2, [], 0⟩] scope pos) 1 it' acc env) R s') (fun _ _ => False) s) :
    codeAny (model prog w) A (.compStart (.ListComp elt [g, ⟨t2, i2, [], 0⟩] scope pos) 1 it acc env) R s := by
  refine codeAny_of_tree ?_
  show wpAny _ _ ((compStart (.ListComp elt [g, ⟨t2, i2, [], 0⟩] scope pos) 1 it acc env).onRaise (fun x => do noteFrame x env; standAt theWindowsPlace)) _ _ s
  refine wpAny_notedAt ?_
  unfold compStart
  show wpAny _ _ (ask >>= _) _ _ s
  refine wpAny_bind (wpAny_askSetting (wpAny_ite ?_))
  split
  · first
      | exact wpAny_bind (wpAny_pure (wpAny_pure (And.intro rfl h0)))
      | exact wpAny_pure (And.intro rfl h0)
  · first
      | exact wpAny_bind (wpAny_rule (wpAny_bind (wpAny_standAt (wpAny_bind (wpAny_mono h (fun it' s' h' => wpAny_pure (And.intro rfl h')) fun _ _ x => x.elim)))))
      | (refine wpAny_bind (wpAny_rule ?_); show wpAny _ _ (standAt i2.pos >>= _) _ _ s; exact wpAny_bind (wpAny_standAt (wpAny_bind (wpAny_mono h (fun it' s' h' => wpAny_pure (And.intro rfl h')) fun _ _ x => x.elim))))
theorem comp_turns0 {elt t1 i1 t2 i2 : Expr} {scope : Scope} {pos : Pos} {it acc : Value} {env : Env} (hs2 : ∀ x, foldedSetIterable i2 env x = pure x) (J : Nat → Shared → Prop)
    (turn : ∀ n s, J n s → wpAny (model prog w) A (pyNext it) (fun r s1 => match r with
        | none => R (.ok .next) s1
        | some v => wpAny (model prog w) A (letOwnedTupleGo t1 it v) (fun _ s2 => wpAny (model prog w) A (assign t1 env v) (fun _ s3 =>
            wpAny (model prog w) A (eval i2 env) (fun x s4 => wpAny (model prog w) A (pyIter x) (fun it2 s5 =>
              codeAny (model prog w) A (.compStart (.ListComp elt [⟨t1, i1, [], 0⟩, ⟨t2, i2, [], 0⟩] scope pos) 1 it2 acc env) (fun r s6 => match r with | .ok _ => ∃ m, m < n ∧ J m s6 | .error _ => False) s5) (fun _ _ => False) s4) (fun _ _ => False) s3) (fun _ _ => False) s2) (fun _ _ => False) s1) (fun _ _ => False) s)
    (n : Nat) (h : J n s) : codeAny (model prog w) A (.compLoop (.ListComp elt [⟨t1, i1, [], 0⟩, ⟨t2, i2, [], 0⟩] scope pos) 0 it acc env) R s := by
  refine codeAny_loop rfl J (fun n s hJ => ?_) n h
  show wpAny _ A (Sem.onRaise (compTurn (.ListComp elt [⟨t1, i1, [], 0⟩, ⟨t2, i2, [], 0⟩] scope pos) 0 it acc env) (fun x => do noteFrame x env; theTreesLotGoes x)) _ _ s
  refine wpAny_noted ?_
  rw [compTurn_two0]
  refine wpAny_bind (wpAny_standAt (wpAny_bind (wpAny_mono (turn n s hJ) (fun r s1 h1 => ?_) fun _ _ z => z.elim)))
  cases r with
  | none => exact wpAny_pure h1
  | some v =>
    refine wpAny_bind (wpAny_mono h1 (fun _ s2 h2 => ?_) fun _ _ z => z.elim)
    refine wpAny_bind (wpAny_mono h2 (fun _ s3 h3 => ?_) fun _ _ z => z.elim)
    refine wpAny_bind (wpAny_mono h3 (fun x s4 h4 => ?_) fun _ _ z => z.elim)
    refine wpAny_bind (wpAny_standAt (wpAny_bind (wpAny_of_eq (hs2 x) (wpAny_bind (wpAny_holding (wpAny_mono h4 (fun it2 s5 h5 => ?_) fun _ _ z => z.elim))))))
    refine wpAny_bind (wpAny_runOwn ?_)
    refine codeAny_mono h5 fun r s6 h6 => ?_
    cases r with
    | ok f => exact wpAny_pure ⟨rfl, h6⟩
    | error e => exact h6.elim
theorem comp_turns1 {elt t1 i1 t2 i2 : Expr} {scope : Scope} {pos : Pos} {it acc : Value} {env : Env} (J : Nat → Shared → Prop)
    (turn : ∀ n s, J n s → wpAny (model prog w) A (pyNext it) (fun r s1 => match r with
        | none => R (.ok .next) s1
        | some v => wpAny (model prog w) A (letOwnedTupleGo t2 it v) (fun _ s2 => wpAny (model prog w) A (assign t2 env v) (fun _ s3 =>
            wpAny (model prog w) A (eval elt env) (fun x s5 => wpAny (model prog w) A (call (.builtin "list.append") [acc, x]) (fun _ s6 => ∃ m, m < n ∧ J m s6) (fun _ _ => False) s5) (fun _ _ => False) s3) (fun _ _ => False) s2) (fun _ _ => False) s1) (fun _ _ => False) s)
    (n : Nat) (h : J n s) : codeAny (model prog w) A (.compLoop (.ListComp elt [⟨t1, i1, [], 0⟩, ⟨t2, i2, [], 0⟩] scope pos) 1 it acc env) R s := by
  refine codeAny_loop rfl J (fun n s hJ => ?_) n h
  show wpAny _ A (Sem.onRaise (compTurn (.ListComp elt [⟨t1, i1, [], 0⟩, ⟨t2, i2, [], 0⟩] scope pos) 1 it acc env) (fun x => do noteFrame x env; theTreesLotGoes x)) _ _ s
  refine wpAny_noted ?_
  rw [compTurn_two1]
  refine wpAny_bind (wpAny_standAt (wpAny_bind (wpAny_mono (turn n s hJ) (fun r s1 h1 => ?_) fun _ _ z => z.elim)))
  cases r with
  | none => exact wpAny_pure h1
  | some v =>
    refine wpAny_bind (wpAny_mono h1 (fun _ s2 h2 => ?_) fun _ _ z => z.elim)
    refine wpAny_bind (wpAny_mono h2 (fun _ s3 h3 => ?_) fun _ _ z => z.elim)
    refine wpAny_bind (wpAny_bind (wpAny_mono h3 (fun x s5 h5 => ?_) fun _ _ z => z.elim))
    exact wpAny_bind (wpAny_mono h5 (fun _ s6 h6 => wpAny_pure (wpAny_pure ⟨rfl, h6⟩)) fun _ _ z => z.elim)
end
section
variable {X : Cx}
def CompWN (J : It) (js : List Nat) (wi2 : TI) (te : TE) (σ : L2.St) (H1 : Hp) (Q : VK) : Prop := ∀ D, H1 D = none → ∃ W : Nat → Nat → Hp → Prop, (∃ m, W 0 m (upd H1 D (.lst []))) ∧ ∀ i m H, W i m H →
  (J.stop i H ∧ Q (.ref D) H) ∨ (J.go i H ∧ ∀ x H', J.yld i H x H' → ∀ o : Option V, wi2 (some x :: o :: frees σ js) H' fun J2 H2 => ∃ W2 : Nat → Nat → Hp → Prop, (∃ m2, W2 0 m2 H2) ∧ ∀ i2 m2 H3, W2 i2 m2 H3 →
    (J2.stop i2 H3 ∧ ∃ m', m' < m ∧ W (i + 1) m' H3) ∨ (J2.go i2 H3 ∧ ∀ y H4, J2.yld i2 H3 y H4 → te (some x :: some y :: frees σ js) H4 fun z H5 => ∃ acc, H5 D = some (.lst acc) ∧ acc.length < sizeLine ∧ ∃ m2', m2' < m2 ∧ W2 (i2 + 1) m2' (upd H5 D (.lst (acc ++ [z])))))
def tCompN (wi : TI) (js : List Nat) (wi2 : TI) (te : TE) : TE := fun σ H Q => wi σ H fun J H1 => CompWN J js wi2 te σ H1 Q
theorem pe_compN {elt iter iter2 : Expr} {x x2 : Str} {px px2 pos : Pos} {scope : Scope} {cl : List (Str × Addr)} {ys : List Str} {js : List Nat} {wi wi2 : TI} {te : TE} (C : CompScope X scope cl x ys js) (own2 : scope.names.lookup x2 = some .local) (nd2 : (x :: x2 :: ys).Nodup) (hc : X.calm = true)
    (hi : PI X (.Name x px) iter wi) (hi2 : ∀ fp s H, PI (cxComp X scope cl (x :: x2 :: ys) fp s H) (.Name x2 px2) iter2 wi2) (he : ∀ fp s H, PE (cxComp X scope cl (x :: x2 :: ys) fp s H) elt te)
    (hs : ∀ x, foldedSetIterable iter X.env x = pure x := by intro _; rfl) (hs2 : ∀ fp s H v, foldedSetIterable iter2 (cxComp X scope cl (x :: x2 :: ys) fp s H).env v = pure v := by intro _ _ _ _; rfl) :
    PE X (.ListComp elt [⟨.Name x px, iter, [], 0⟩, ⟨.Name x2 px2, iter2, [], 0⟩] scope pos) (tCompN wi js wi2 te) := by
  intro pins s σ H Q I h
  rw [eval_ListComp]
  refine wpAny_comprehension_free (use := none) rfl hs C.clos C.kind C.locs (thn (hi pins s σ H _ I h) fun v s1 h1 => thn h1 fun itv s2 h2 => ?_)
  obtain ⟨it, fp, tn, J, H2, e, I2, T, st2, f2, q2⟩ := h2
  subst e
  have fD : H2 s2.heap.objs.size = none := I2.hok.fresh (Nat.le_refl _)
  obtain ⟨W, ⟨m0, w0⟩, turn⟩ := q2 s2.heap.objs.size fD
  refine wpAny_newObj_type ?_
  have I3 : Inv X pins σ (upd H2 s2.heap.objs.size (.lst [])) { s2 with heap := s2.heap.push { cls := .type "list", dict := none, data := .seq ([] : List Value).toArray } } :=
    I2.laid (t' := s2.toks) (fun b u q => Heap.get?_push_of_some _ q) (Nat.le_refl _) ⟨Nat.zero_le _, [], 0, .nil, Heap.get?_push_size _ rfl⟩
  have nfp : ∀ b ∈ fp, b ≠ s2.heap.objs.size := fun b hb z => by
    obtain ⟨o, q, _⟩ := T.obj _ _ st2 b hb
    have := Heap.lt_size q
    rw [z] at this
    exact absurd this (Nat.lt_irrefl _)
  have f3 : ∀ b ∈ fp, FpOk X pins (upd H2 s2.heap.objs.size (.lst [])) b := fun b hb => ⟨by rw [upd_ne (nfp b hb)]; exact (f2 b hb).1, (f2 b hb).2⟩
  generalize hS3 : ({ s2 with heap := s2.heap.push { cls := .type "list", dict := none, data := .seq ([] : List Value).toArray } } : Shared) = s3 at I3
  have st3 : tn 0 s3.heap := T.keep 0 _ _ st2 fun b hb o q => by rw [← hS3]; exact Heap.get?_push_of_some _ q
  have o3 : ∀ b ∈ fp, ∃ o, s3.heap.get? b = some o := fun b hb => let ⟨o, q, _⟩ := T.obj _ _ st3 b hb; ⟨o, q⟩
  show wpAny _ _ (newFunctionEnv scope X.env.globals cl [] X.env.qual none .none (some X.env)) _ _ _
  refine wpAny_newFunctionEnv C.nocell (by intro y hy; simp at hy) (fun h4 hns4 hsb4 => ?_) C.kind
  have keep4 : ∀ b u, s3.heap.get? b = some u → h4.get? b = some u := fun b u q => (hsb4.2 b (Nat.ne_of_lt (Heap.lt_size q))).trans (Heap.get?_push_of_some _ q)
  have I4 : ∀ tk, Inv (cxComp X scope cl (x :: x2 :: ys) fp s3 (upd H2 s2.heap.objs.size (.lst []))) [] (none :: none :: frees σ js) (upd H2 s2.heap.objs.size (.lst [])) { s3 with heap := h4, toks := tk } := fun tk => comp_start2 C I3 f3 o3 hns4 keep4
  have st4 : tn 0 h4 := T.keep 0 _ _ st3 fun b hb o q => keep4 b o q
  generalize hX' : cxComp X scope cl (x :: x2 :: ys) fp s3 (upd H2 s2.heap.objs.size (.lst [])) = X' at I4
  have eP : X'.prog = X.prog := by rw [← hX']; rfl
  have eW : X'.w = X.w := by rw [← hX']; rfl
  have eK : X'.K = X.K := by rw [← hX']; rfl
  have eA : X'.A = X.A := by rw [← hX']; rfl
  have eC : X'.calm = true := by rw [← hX']; exact hc
  have stat : ∀ {H' : Hp}, (∀ b ∈ fp, H' b = none) → ∀ b ∈ fp, FpOk X' [] H' b := fun {H'} hn b hb => by
    have ok := (I4 0).ok
    have hex : b ∈ X'.ex := by rw [← hX']; exact hb
    exact ⟨hn b hb, (ok.exf b hex).1, ok.exfs b hex, .inl hex, (ok.exf b hex).2, fun p hp => by rw [← hX'] at hp; cases (show p ∈ ([] : List (Addr × Obj)) from hp)⟩
  have loop : ∀ s5 : Shared, s5 = { s3 with heap := h4, toks := s3.toks + ([] : List (Str × Value)).length } →
      codeAny (model X.prog X.w) X.A (.compLoop (.ListComp elt [⟨.Name x px, iter, [], 0⟩, ⟨.Name x2 px2, iter2, [], 0⟩] scope pos) 0 (.ref it) (.ref s2.heap.objs.size) (compEnvC scope cl s3.heap.objs.size X.env))
        (compPost (model X.prog X.w) X.A X.xe none (EP X pins σ Q) (.ref s2.heap.objs.size) s3.heap.objs.size) s5 := by
    rintro s5 rfl
    refine comp_turns0 (fun v => hs2 fp s3 (upd H2 s2.heap.objs.size (.lst [])) v) (fun n s' => ∃ i o o2 H', Inv X' [] (o :: o2 :: frees σ js) H' s' ∧ tn i s'.heap ∧ (∀ b ∈ fp, H' b = none) ∧ W i n H') ?_ m0
      ⟨0, none, none, _, I4 _, st4, fun b hb => (f3 b hb).1, w0⟩
    rintro n s6 ⟨i, o, o2, H6, I6, st6, fr6, w6⟩
    rcases turn i n H6 w6 with ⟨stop, qn⟩ | ⟨go, step⟩
    · have hd := T.done X' eP eW eK eC i [] s6 _ H6 (fun _ _ => False) I6 (stat fr6) st6 stop
      rw [eA] at hd
      refine thn hd fun r s7 ⟨hr, I7⟩ => ?_
      subst hr
      obtain ⟨m7, hn7, _⟩ := I7.loc
      have hn7' : s7.heap.Ns s3.heap.objs.size m7 := by rw [← hX'] at hn7; exact hn7
      refine ⟨m7, hn7', fun h8 hs8 => ?_⟩
      have I7f : H6 s3.heap.objs.size = none := by have := I7.free; rw [← hX'] at this; exact this
      have b7 : Un (frs X.stack) fp (upd H2 s2.heap.objs.size (.lst [])) H6 s3.heap s7.heap := by have := I7.base; rw [← hX'] at this; exact this
      have ne8 : ∀ b o, s3.heap.get? b = some o → b ≠ s3.heap.objs.size := fun b o q => Nat.ne_of_lt (Heap.lt_size q)
      have u8 : Un (frs X.stack) fp (upd H2 s2.heap.objs.size (.lst [])) H6 s3.heap h8 := by
        refine ⟨fun b o q n hb hx => (hs8.2 b (ne8 b o q)).trans (b7.keep b o q n hb hx), fun b o q n hb hx => ?_, b7.free, fun b o q hx => ?_, b7.tups, b7.frzs, b7.tbls⟩
        · obtain ⟨sl, z⟩ := b7.slot b o q n hb hx
          exact ⟨sl, (hs8.2 b (ne8 b o q)).trans z⟩
        · obtain ⟨o', z⟩ := b7.there b o q hx
          exact ⟨o', (hs8.2 b (ne8 b o q)).trans z⟩
      have hok8 : HOk X.prog X.w H6 h8 := fun b ob e => by
        have hk7 := I7.hok
        rw [eP, eW] at hk7
        refine (hk7 b ob e).stay (fun c w' hcc q => (hs8.2 c ?_).trans q) (fun _ q => q) fun _ _ q => q
        rintro rfl
        rcases hcc with rfl | hcc
        · rw [I7f] at e; cases e
        · rw [I7f] at hcc; cases hcc
      have os7 : s7.os = s3.os := by have := I7.os; rw [← hX'] at this; exact this
      exact ⟨.ref s2.heap.objs.size, H6, I3.call' (s' := { s7 with heap := h8 }) (ch := fp) os7 u8 hok8 I7.bare (fun b hb => ⟨(f3 b hb).2.2.2.1, (f3 b hb).2.1, (f3 b hb).2.2.2.2.1, (f3 b hb).2.2.2.2.2⟩), rfl, qn⟩
    · have hit := T.item X' eP eW eK eC i [] s6 _ H6 (fun _ _ => False) I6 (stat fr6) st6 go
      rw [eA] at hit
      refine thn hit fun r s7 ⟨u, hr, h7⟩ => ?_
      subst hr
      refine thn h7 fun _ s8 ⟨y, H8, I8, r8, y8, st8, fr8⟩ => ?_
      have I8' := I8.pinned (stat fr8) (T.obj _ _ st8)
      have stp := step y H8 y8 o2
      have again : ∀ {H9 : Hp} {s9 : Shared} {m' : Nat} {o9 : Option V}, Inv X' ([] ++ pinsAt fp s8.heap) (some y :: o9 :: frees σ js) H9 s9 → m' < n → W (i + 1) m' H9 → ∃ m, m < n ∧ ∃ i o o2 H', Inv X' [] (o :: o2 :: frees σ js) H' s9 ∧ tn i s9.heap ∧ (∀ b ∈ fp, H' b = none) ∧ W i m H' := fun {H9 s9 m' o9} I9 hm w9 => by
        refine ⟨m', hm, i + 1, some y, o9, H9, I9.unpinned, T.keep _ _ _ st8 fun b hb o e => (I9.pin (b, o) (List.mem_append_right _ (List.mem_append_right _ (mem_pinsAt hb e)))).1, fun b hb => ?_, w9⟩
        obtain ⟨o, e, _⟩ := T.obj _ _ st8 b hb
        exact (I9.pin (b, o) (List.mem_append_right _ (List.mem_append_right _ (mem_pinsAt hb e)))).2.1
      subst hX'
      refine thn (pg_name (i := 0) (x := x) (pos := px) nd2 rfl (.inl (lookup_relabel_local C.own)) (.inr (lookup_relabel_local C.own)) _ s8 _ H8 y u (fun σ' H' => σ' = some y :: o2 :: frees σ js ∧ H' = H8) I8' r8 ⟨rfl, rfl⟩) fun _ s9 ⟨σ9, H9, I9, e9, e9'⟩ => ?_
      subst e9 e9'
      refine thn (hi2 fp s3 _ _ s9 _ _ _ I9 stp) fun v2 s10 h10 => thn h10 fun itv2 s11 h11 => ?_
      obtain ⟨it2, fp2, tn2, J2, H11, e11, I11, T2, st11, f11, W2, ⟨m20, w20⟩, turn2⟩ := h11
      subst e11
      have stat2 : ∀ {H' : Hp}, (∀ b ∈ fp2, H' b = none) → ∀ b ∈ fp2, FpOk (cxComp X scope cl (x :: x2 :: ys) fp s3 (upd H2 s2.heap.objs.size (.lst []))) ([] ++ pinsAt fp s8.heap) H' b := fun hn b hb => ⟨hn b hb, (f11 b hb).2⟩
      have loop2 : codeAny (model X.prog X.w) X.A (.compLoop (.ListComp elt [⟨.Name x px, iter, [], 0⟩, ⟨.Name x2 px2, iter2, [], 0⟩] scope pos) 1 (.ref it2) (.ref s2.heap.objs.size) (compEnvC scope cl s3.heap.objs.size X.env))
          (fun r s6 => match r with | .ok _ => ∃ m, m < n ∧ ∃ i o o2 H', Inv (cxComp X scope cl (x :: x2 :: ys) fp s3 (upd H2 s2.heap.objs.size (.lst []))) [] (o :: o2 :: frees σ js) H' s6 ∧ tn i s6.heap ∧ (∀ b ∈ fp, H' b = none) ∧ W i m H' | .error _ => False) s11 := by
        refine comp_turns1 (fun n2 s' => ∃ i2 o2 H', Inv (cxComp X scope cl (x :: x2 :: ys) fp s3 (upd H2 s2.heap.objs.size (.lst []))) ([] ++ pinsAt fp s8.heap) (some y :: o2 :: frees σ js) H' s' ∧ tn2 i2 s'.heap ∧ (∀ b ∈ fp2, H' b = none) ∧ W2 i2 n2 H') ?_ m20
          ⟨0, o2, H11, I11, st11, fun b hb => (f11 b hb).1, w20⟩
        rintro n2 s12 ⟨i2, p2, H12, I12, st12, fr12, w12⟩
        rcases turn2 i2 n2 H12 w12 with ⟨stop2, m', hm', w'⟩ | ⟨go2, step2⟩
        · have hd := T2.done _ rfl rfl rfl hc i2 _ s12 _ H12 (fun _ _ => False) I12 (stat2 fr12) st12 stop2
          refine thn hd fun r s13 ⟨hr, I13⟩ => ?_
          subst hr
          exact again I13 hm' w'
        · have hit2 := T2.item _ rfl rfl rfl hc i2 _ s12 _ H12 (fun _ _ => False) I12 (stat2 fr12) st12 go2
          refine thn hit2 fun r s13 ⟨u2, hr, h13⟩ => ?_
          subst hr
          refine thn h13 fun _ s14 ⟨z, H14, I14, r14, y14, st14, fr14⟩ => ?_
          have I14' := I14.pinned (stat2 fr14) (T2.obj _ _ st14)
          refine thn (pg_name (i := 1) (x := x2) (pos := px2) nd2 rfl (.inl (lookup_relabel_local own2)) (.inr (lookup_relabel_local own2)) _ s14 _ H14 z u2 (fun σ' H' => σ' = some y :: some z :: frees σ js ∧ H' = H14) I14' r14 ⟨rfl, rfl⟩) fun _ s15 ⟨σ15, H15, I15, e15, e15'⟩ => ?_
          subst e15 e15'
          refine thn (he fp s3 _ _ s15 _ _ _ I15 (step2 z H15 y14)) fun zv s16 ⟨vz, H16, I16, r16, q16⟩ => ?_
          obtain ⟨acc, ha, hz, m2', hm2, w16⟩ := q16
          refine thn (mt_append _ s16 _ H16 (.ref s2.heap.objs.size) [vz] (.ref s2.heap.objs.size) [zv] (fun _ H' => H' = upd H16 s2.heap.objs.size (.lst (acc ++ [vz]))) I16 rfl (.cons r16 .nil) ⟨_, acc, vz, rfl, rfl, ha, hz, rfl⟩) fun _ s17 ⟨_, H17, I17, _, e17⟩ => ?_
          subst e17
          refine ⟨m2', hm2, i2 + 1, some z, _, I17.unpinned, T2.keep _ _ _ st14 fun b hb o e => (I17.pin (b, o) (List.mem_append_right _ (List.mem_append_right _ (mem_pinsAt hb e)))).1, fun b hb => ?_, w16⟩
          obtain ⟨o, e, _⟩ := T2.obj _ _ st14 b hb
          exact (I17.pin (b, o) (List.mem_append_right _ (List.mem_append_right _ (mem_pinsAt hb e)))).2.1
      exact compStart_one loop2 (T2.self X.A 0 _ _ _ st11 loop2)
  exact codeAny_compStart_list (loop _ rfl) (T.self X.A 0 _ _ _ st4 (loop _ rfl))
end
end Nd
namespace Nd
open PySem L2
theorem pi_listK {X : Cx} {K : PySem.W.Frag} {tg l : Expr} {tl : TE} (hK : X.K = K) (hl : PE X l tl) : PI X tg l (iList K tl) := by
  subst hK
  exact pi_list hl
theorem comp_byN {J : It} {G : Hp → Prop} {xs : List V} {js : List Nat} {wi2 : TI} {te : TE} {σ : L2.St} {H1 : Hp} {Q : VK} (wk : Walked J G xs) (Pv : Addr → Nat → Hp → Prop)
    (h0 : ∀ D, H1 D = none → Pv D 0 (upd H1 D (.lst []))) (hg : ∀ D i H, Pv D i H → G H)
    (hs : ∀ D i x H o, H1 D = none → xs[i]? = some x → Pv D i H → ∀ R : It → Hp → Prop, (∀ J2 H2 (ys : List V) (G2 : Hp → Prop) (Pw : Nat → Hp → Prop), Walked J2 G2 ys → Pw 0 H2 → (∀ j H, Pw j H → G2 H) →
        (∀ j y H, ys[j]? = some y → Pw j H → ∀ Q' : VK, (∀ z H3 acc, H3 D = some (.lst acc) → acc.length < sizeLine → Pw (j + 1) (upd H3 D (.lst (acc ++ [z]))) → Q' z H3) → te (some x :: some y :: frees σ js) H Q') →
        (∀ H, Pw ys.length H → Pv D (i + 1) H) → R J2 H2) → wi2 (some x :: o :: frees σ js) H R)
    (hd : ∀ D H, H1 D = none → Pv D xs.length H → Q (.ref D) H) : CompWN J js wi2 te σ H1 Q := by
  intro D nD
  refine ⟨fun i m H => m = xs.length - i ∧ i ≤ xs.length ∧ Pv D i H, ⟨xs.length, by simp, Nat.zero_le _, h0 D nD⟩, ?_⟩
  rintro i m H ⟨rfl, hi, p⟩
  have g := hg D i H p
  by_cases hlt : i < xs.length
  · refine .inr ⟨wk.go i H hlt g, fun x H' y o => ?_⟩
    obtain ⟨e, hx⟩ := wk.yld i H x H' hlt g y
    subst e
    refine hs D i x _ o nD hx p _ fun J2 H2 ys G2 Pw wk2 p0 hg2 hs2 hd2 => ?_
    refine ⟨fun j m H => m = ys.length - j ∧ j ≤ ys.length ∧ Pw j H, ⟨ys.length, by simp, Nat.zero_le _, p0⟩, ?_⟩
    rintro j m2 H3 ⟨rfl, hj, p2⟩
    have g2 := hg2 j H3 p2
    by_cases hl2 : j < ys.length
    · refine .inr ⟨wk2.go j H3 hl2 g2, fun y H' yy => ?_⟩
      obtain ⟨e, hy⟩ := wk2.yld j H3 y H' hl2 g2 yy
      subst e
      exact hs2 j y _ hy p2 _ fun z H3 acc ha hl p3 => ⟨acc, ha, hl, ys.length - (j + 1), by omega, rfl, hl2, p3⟩
    · have e : j = ys.length := by omega
      subst e
      exact .inl ⟨wk2.stop H3 g2, xs.length - (i + 1), by omega, rfl, hlt, hd2 H3 p2⟩
  · have e : i = xs.length := by omega
    subst e
    exact .inl ⟨wk.stop H g, hd D H nD p⟩
end Nd
namespace Nd
open PySem PySem.Spec PyProof.Rows L2
section
variable {X : Cx}
theorem ps_setC2 {elt iter : Expr} {x x2 y0 : Str} {px px2 pt py pos spos : Pos} {kt : Nat} {i0 : Nat} {ifs : List Expr} {scope : Scope} {cl : List (Str × Addr)} {ys : List Str} {js : List Nat} {wi : TI} {tc : TT} {te : TE} (hN : X.N.Nodup) (hi0 : X.N[i0]? = some y0) (hy0 : X.env.scope.names.lookup y0 = some .local)
    (C : CompScope X scope cl x ys js) (own2 : scope.names.lookup x2 = some .local) (nd2 : (x :: x2 :: ys).Nodup) (hc : X.calm = true)
    (hi : PI X (.Tuple [.Name x px, .Name x2 px2] kt pt) iter wi) (ht : ∀ fp s H, PTs (cxComp X scope cl (x :: x2 :: ys) fp s H) ifs tc) (he : ∀ fp s H, PE (cxComp X scope cl (x :: x2 :: ys) fp s H) elt te)
    (hs : ∀ x, foldedSetIterable iter X.env x = pure x := by intro _; rfl) (hsw : swapsWith (.ListComp elt [⟨.Tuple [.Name x px, .Name x2 px2] kt pt, iter, ifs, 0⟩] scope pos) (some (.Name y0 py)) spos.line X.env = pure true := by rfl) :
    PS X (.Assign [.Name y0 py] (.ListComp elt [⟨.Tuple [.Name x px, .Name x2 px2] kt pt, iter, ifs, 0⟩] scope pos) spos) (tAsg (tComp2 X.K wi js tc te) (gName i0)) := by
  intro pins s σ H De I h
  have h : tComp2 X.K wi js tc te σ H fun v H1 => De.nx (σ.set i0 (some v)) H1 := h
  rw [exec_Assign_Name_used _ _ _ _ hsw]
  refine wpAny_bind (wpAny_standAt (wpAny_bind ?_))
  show wpAny _ X.A (do let _ ← comprehension (.ListComp elt [⟨.Tuple [.Name x px, .Name x2 px2] kt pt, iter, ifs, 0⟩] scope pos) scope X.env _ (newList []) false (eval iter X.env) (some (assign (.Name y0 py) X.env))) _ _ s
  refine wpAny_bind (wpAny_mono (wpAny_comprehension_free (use := some (assign (.Name y0 py) X.env)) (Q := fun _ s' => SP X pins De .next s') rfl hs C.clos C.kind C.locs (thn (hi pins s σ H _ I h) fun v s1 h1 => thn h1 fun itv s2 h2 => ?_)) (fun _ s' hq => wpAny_pure (wpAny_pure hq)) fun _ _ e => e)
  obtain ⟨it, fp, tn, J, H2, e, I2, T, st2, f2, q2⟩ := h2
  subst e
  have fD : H2 s2.heap.objs.size = none := I2.hok.fresh (Nat.le_refl _)
  obtain ⟨W, ⟨m0, w0⟩, turn⟩ := q2 s2.heap.objs.size fD
  refine wpAny_newObj_type ?_
  have I3 : Inv X pins σ (upd H2 s2.heap.objs.size (.lst [])) { s2 with heap := s2.heap.push { cls := .type "list", dict := none, data := .seq ([] : List Value).toArray } } :=
    I2.laid (t' := s2.toks) (fun b u q => Heap.get?_push_of_some _ q) (Nat.le_refl _) ⟨Nat.zero_le _, [], 0, .nil, Heap.get?_push_size _ rfl⟩
  have nfp : ∀ b ∈ fp, b ≠ s2.heap.objs.size := fun b hb z => by
    obtain ⟨o, q, _⟩ := T.obj _ _ st2 b hb
    have := Heap.lt_size q
    rw [z] at this
    exact absurd this (Nat.lt_irrefl _)
  have f3 : ∀ b ∈ fp, FpOk X pins (upd H2 s2.heap.objs.size (.lst [])) b := fun b hb => ⟨by rw [upd_ne (nfp b hb)]; exact (f2 b hb).1, (f2 b hb).2⟩
  generalize hS3 : ({ s2 with heap := s2.heap.push { cls := .type "list", dict := none, data := .seq ([] : List Value).toArray } } : Shared) = s3 at I3
  have st3 : tn 0 s3.heap := T.keep 0 _ _ st2 fun b hb o q => by rw [← hS3]; exact Heap.get?_push_of_some _ q
  have o3 : ∀ b ∈ fp, ∃ o, s3.heap.get? b = some o := fun b hb => let ⟨o, q, _⟩ := T.obj _ _ st3 b hb; ⟨o, q⟩
  show wpAny _ _ (newFunctionEnv scope X.env.globals cl [] X.env.qual none .none (some X.env)) _ _ _
  refine wpAny_newFunctionEnv C.nocell (by intro y hy; simp at hy) (fun h4 hns4 hsb4 => ?_) C.kind
  have keep4 : ∀ b u, s3.heap.get? b = some u → h4.get? b = some u := fun b u q => (hsb4.2 b (Nat.ne_of_lt (Heap.lt_size q))).trans (Heap.get?_push_of_some _ q)
  have I4 : ∀ tk, Inv (cxComp X scope cl (x :: x2 :: ys) fp s3 (upd H2 s2.heap.objs.size (.lst []))) [] (none :: none :: frees σ js) (upd H2 s2.heap.objs.size (.lst [])) { s3 with heap := h4, toks := tk } := fun tk => comp_start2 C I3 f3 o3 hns4 keep4
  have st4 : tn 0 h4 := T.keep 0 _ _ st3 fun b hb o q => keep4 b o q
  generalize hX' : cxComp X scope cl (x :: x2 :: ys) fp s3 (upd H2 s2.heap.objs.size (.lst [])) = X' at I4
  have eP : X'.prog = X.prog := by rw [← hX']; rfl
  have eW : X'.w = X.w := by rw [← hX']; rfl
  have eK : X'.K = X.K := by rw [← hX']; rfl
  have eA : X'.A = X.A := by rw [← hX']; rfl
  have eC : X'.calm = true := by rw [← hX']; exact hc
  have stat : ∀ {H' : Hp}, (∀ b ∈ fp, H' b = none) → ∀ b ∈ fp, FpOk X' [] H' b := fun {H'} hn b hb => by
    have ok := (I4 0).ok
    have hex : b ∈ X'.ex := by rw [← hX']; exact hb
    exact ⟨hn b hb, (ok.exf b hex).1, ok.exfs b hex, .inl hex, (ok.exf b hex).2, fun p hp => by rw [← hX'] at hp; cases (show p ∈ ([] : List (Addr × Obj)) from hp)⟩
  have loop : ∀ s5 : Shared, s5 = { s3 with heap := h4, toks := s3.toks + ([] : List (Str × Value)).length } →
      codeAny (model X.prog X.w) X.A (.compLoop (.ListComp elt [⟨.Tuple [.Name x px, .Name x2 px2] kt pt, iter, ifs, 0⟩] scope pos) 0 (.ref it) (.ref s2.heap.objs.size) (compEnvC scope cl s3.heap.objs.size X.env))
        (compPost (model X.prog X.w) X.A X.xe (some (assign (.Name y0 py) X.env)) (fun _ s' => SP X pins De .next s') (.ref s2.heap.objs.size) s3.heap.objs.size) s5 := by
    rintro s5 rfl
    refine comp_turns (fun n s' => ∃ i o o2 H', Inv X' [] (o :: o2 :: frees σ js) H' s' ∧ tn i s'.heap ∧ (∀ b ∈ fp, H' b = none) ∧ W i n H') ?_ m0
      ⟨0, none, none, _, I4 _, st4, fun b hb => (f3 b hb).1, w0⟩
    rintro n s6 ⟨i, o, o2, H6, I6, st6, fr6, w6⟩
    rcases turn i n H6 w6 with ⟨stop, qn⟩ | ⟨go, step⟩
    · have hd := T.done X' eP eW eK eC i [] s6 _ H6 (fun _ _ => False) I6 (stat fr6) st6 stop
      rw [eA] at hd
      refine thn hd fun r s7 ⟨hr, I7⟩ => ?_
      subst hr
      obtain ⟨m7, hn7, _⟩ := I7.loc
      have hn7' : s7.heap.Ns s3.heap.objs.size m7 := by rw [← hX'] at hn7; exact hn7
      have I7f : H6 s3.heap.objs.size = none := by have := I7.free; rw [← hX'] at this; exact this
      have b7 : Un (frs X.stack) fp (upd H2 s2.heap.objs.size (.lst [])) H6 s3.heap s7.heap := by have := I7.base; rw [← hX'] at this; exact this
      have os7 : s7.os = s3.os := by have := I7.os; rw [← hX'] at this; exact this
      have hok7 : HOk X.prog X.w H6 s7.heap := by have := I7.hok; rw [eP, eW] at this; exact this
      have J7 : Inv X pins σ H6 s7 := I3.call' (s' := s7) (ch := fp) os7 b7 hok7 I7.bare (fun b hb => ⟨(f3 b hb).2.2.2.1, (f3 b hb).2.1, (f3 b hb).2.2.2.2.1, (f3 b hb).2.2.2.2.2⟩)
      have fC : FpOk X pins H6 s3.heap.objs.size := I3.fpOk (Nat.le_refl _) I7f
      obtain ⟨oC, esC, epC, hoC, rC⟩ := id hn7'
      have J8 : Inv X (pins ++ [(s3.heap.objs.size, oC)]) σ H6 s7 := J7.pins_of fun p hp => by
        rcases List.mem_append.mp hp with z | z
        · have q := J7.pin p (List.mem_append_right _ z)
          exact q
        · rw [List.mem_singleton.mp z]
          exact ⟨hoC, I7f, fC.2.1, fC.2.2.1, fun v hv => by rw [rC.1] at hv; cases hv⟩
      refine thn (pg_name (X := X) (i := i0) (x := y0) (pos := py) hN hi0 (.inl hy0) (.inr hy0) (pins ++ [(s3.heap.objs.size, oC)]) s7 σ H6 (.ref s2.heap.objs.size) (.ref s2.heap.objs.size) (fun σ' H' => σ' = σ.set i0 (some (.ref s2.heap.objs.size)) ∧ H' = H6) J8 rfl ⟨rfl, rfl⟩) fun _ s9 ⟨σ9, H9, I9, e9, e9'⟩ => ?_
      subst e9 e9'
      have hoC9 := (I9.pin (s3.heap.objs.size, oC) (List.mem_append_right _ (List.mem_append_right _ List.mem_cons_self))).1
      have I9' : Inv X pins (σ.set i0 (some (.ref s2.heap.objs.size))) H9 s9 := I9.pins_of fun p hp => I9.pin p (List.mem_append_right _ (List.mem_append_left _ hp))
      refine ⟨m7, hn7'.at fun o e => by rw [hoC] at e; cases e; exact hoC9, fun h10 hs10 => ?_⟩
      exact ⟨_, H9, turnedL (t' := s9.toks) (fp := [s3.heap.objs.size]) I9' (fun b o hb e => (hs10.2 b (fun z => hb (by rw [z]; exact List.mem_cons_self))).trans e) (fun b hb => by rw [List.mem_singleton.mp hb]; exact fC), qn⟩
    · have hit := T.item X' eP eW eK eC i [] s6 _ H6 (fun _ _ => False) I6 (stat fr6) st6 go
      rw [eA] at hit
      refine thn hit fun r s7 ⟨u, hr, h7⟩ => ?_
      subst hr
      refine thn h7 fun _ s8 ⟨y, H8, I8, r8, y8, st8, fr8⟩ => ?_
      have I8' := I8.pinned (stat fr8) (T.obj _ _ st8)
      obtain ⟨tp, w1, w2, ey, hsq, N1, N2, hN1, hN2, hst⟩ := step y H8 y8
      have again : ∀ {H9 : Hp} {s9 : Shared} {m' : Nat}, Inv X' ([] ++ pinsAt fp s8.heap) (some w1 :: some w2 :: frees σ js) H9 s9 → m' < n → W (i + 1) m' H9 → ∃ m, m < n ∧ ∃ i o o2 H', Inv X' [] (o :: o2 :: frees σ js) H' s9 ∧ tn i s9.heap ∧ (∀ b ∈ fp, H' b = none) ∧ W i m H' := fun {H9 s9 m'} I9 hm w9 => by
        refine ⟨m', hm, i + 1, some w1, some w2, H9, I9.unpinned, T.keep _ _ _ st8 fun b hb o e => (I9.pin (b, o) (List.mem_append_right _ (List.mem_append_right _ (mem_pinsAt hb e)))).1, fun b hb => ?_, w9⟩
        obtain ⟨o, e, _⟩ := T.obj _ _ st8 b hb
        exact (I9.pin (b, o) (List.mem_append_right _ (List.mem_append_right _ (mem_pinsAt hb e)))).2.1
      subst hX'
      have l1 := lookup_relabel_local (env := X.env) C.own
      have l2 := lookup_relabel_local (env := X.env) own2
      have g1 : PG (cxComp X scope cl (x :: x2 :: ys) fp s3 (upd H2 s2.heap.objs.size (.lst []))) (.Tuple [.Name x px, .Name x2 px2] kt pt) (gTup X.K 2 (gCons (gName 0) (gCons (gName 1) gNil))) :=
        pg_tup (X := cxComp X scope cl (x :: x2 :: ys) fp s3 (upd H2 s2.heap.objs.size (.lst []))) hc (pgs_cons (pg_name (i := 0) (x := x) nd2 rfl (.inl l1) (.inr l1)) (pgs_cons (pg_name (i := 1) (x := x2) nd2 rfl (.inl l2) (.inr l2)) pgs_nil))
      refine thn (g1 _ s8 _ H8 y u (fun σ' H' => σ' = some w1 :: some w2 :: frees σ js ∧ H' = H8) I8' r8 ⟨tp, [w1, w2], ey, hsq, rfl, _, _, rfl, _, _, rfl, rfl, rfl, rfl⟩) fun _ s9 ⟨σ9, H9, I9, e9, e9'⟩ => ?_
      subst e9 e9'
      refine thn (ht fp s3 _ _ s9 _ _ _ I9 hst) fun ok s10 ⟨H10, I10, q10⟩ => ?_
      cases ok with
      | false =>
        rw [if_neg Bool.false_ne_true] at q10 ⊢
        obtain ⟨m', hm, w10⟩ := hN1 _ q10
        exact again I10 hm w10
      | true =>
        rw [if_pos rfl] at q10 ⊢
        refine thn (he fp s3 _ _ s10 _ _ _ I10 q10) fun z s11 ⟨vz, H11, I11, r11, q11⟩ => ?_
        obtain ⟨acc, ha, hz, m', hm, w11⟩ := hN2 _ _ q11
        refine thn (mt_append _ s11 _ H11 (.ref s2.heap.objs.size) [vz] (.ref s2.heap.objs.size) [z] (fun _ H' => H' = upd H11 s2.heap.objs.size (.lst (acc ++ [vz]))) I11 rfl (.cons r11 .nil) ⟨_, acc, vz, rfl, rfl, ha, hz, rfl⟩) fun _ s12 ⟨_, H12, I12, _, e12⟩ => ?_
        subst e12
        exact again I12 hm w11
  exact codeAny_compStart_list (loop _ rfl) (T.self X.A 0 _ _ _ st4 (loop _ rfl))
end
end Nd
namespace Nd
open PySem PySem.Spec PyProof.Rows L2
def Itz (K : PySem.W.Frag) (a b : Addr) : It :=
  ⟨fun i H => ∃ xs ys x y, SqL K H a xs ∧ SqL K H b ys ∧ xs[i]? = some x ∧ ys[i]? = some y,
   fun i H x H' => ∃ p u v, x = .ref p ∧ H p = none ∧ H' = upd H p (.tup [u, v]) ∧ (∀ xs, SqL K H a xs → xs[i]? = some u) ∧ ∀ ys, SqL K H b ys → ys[i]? = some v,
   fun i H => ∃ xs ys, SqL K H a xs ∧ SqL K H b ys ∧ (xs.length ≤ i ∨ ys.length ≤ i)⟩
theorem turn_zip {P : Program} {w : World} {K : PySem.W.Frag} {elts : List Expr} {k : Nat} {pos : Pos} (a b z TI TO i1 i2 : Addr) (D : ZipApart z TI TO i1 i2 a b) :
    Turn P w K (.Tuple elts k pos) (Itz K a b) [z, TI, TO, i1, i2] z (fun i h => IsZip h z TI TO .none ∧ IsPair h TI (.ref i1) (.ref i2) ∧ (∃ u v, IsPair h TO u v) ∧ h.IsListIter i1 a i ∧ h.IsListIter i2 b i) where
  mem := List.mem_cons_self
  obj := fun i h st c hc => by
    obtain ⟨hz, hTI, ⟨u, v, hTO⟩, ⟨o1, e1, c1, d1⟩, ⟨o2, e2, c2, d2⟩⟩ := st
    simp only [List.mem_cons, List.not_mem_nil, or_false] at hc
    rcases hc with rfl | rfl | rfl | rfl | rfl
    · exact ⟨_, hz, fun v z => by cases z⟩
    · exact ⟨_, hTI, fun v z => by cases z⟩
    · exact ⟨_, hTO, fun v z => by cases z⟩
    · exact ⟨o1, e1, fun v z => by rw [d1] at z; cases z⟩
    · exact ⟨o2, e2, fun v z => by rw [d2] at z; cases z⟩
  keep := fun i h h' st kp => by
    obtain ⟨hz, hTI, ⟨u, v, hTO⟩, h1, h2⟩ := st
    exact ⟨kp z (by simp) _ hz, kp TI (by simp) _ hTI, ⟨u, v, kp TO (by simp) _ hTO⟩, h1.at fun o q => kp i1 (by simp) o q, h2.at fun o q => kp i2 (by simp) o q⟩
  item := by
    intro X hP hw hK hc i pins s σ H E I hf st hg
    subst hP hw hK
    obtain ⟨xs, ys, x, y, hq1, hq2, hx, hy⟩ := hg
    obtain ⟨its1, rv1, p1, hz1⟩ := I.list hq1
    obtain ⟨its2, rv2, p2, hz2⟩ := I.list hq2
    obtain ⟨u1, hu1, ru1⟩ := rv1.get hx
    obtain ⟨u2, hu2, ru2⟩ := rv2.get hy
    obtain ⟨hz, hTI, ⟨o1, o2, hTO⟩, hi1, hi2⟩ := st
    have zl : z < s.heap.objs.size := Heap.lt_size hz
    have TIl : TI < s.heap.objs.size := Heap.lt_size hTI
    have TOl : TO < s.heap.objs.size := Heap.lt_size hTO
    have i1l : i1 < s.heap.objs.size := by obtain ⟨_, q, _⟩ := hi1; exact Heap.lt_size q
    have i2l : i2 < s.heap.objs.size := by obtain ⟨_, q, _⟩ := hi2; exact Heap.lt_size q
    refine wpAny_pyNext_zip_item D hz hTI hTO hi1 hi2 p1.isList p2.isList (x := u1) (y := u2) (by simpa using hu1) (by simpa using hu2) fun h1 a1 a2 a3 a4 a5 a6 hk => ⟨_, rfl, wpAny_letOwnedTupleGo_zip a1 fun h2 he2 hs2 => ?_⟩
    have hs2' : Heap.SameBut z h1 h2 := hs2
    have I1 : Inv X pins σ (upd H s.heap.objs.size (.tup [x, y])) { s with heap := s.heap.push { cls := .type "tuple", data := .seq #[u1, u2] } } :=
      I.laid (t' := s.toks) (fun b o q => Heap.get?_push_of_some _ q) (Nat.le_refl _) ⟨by show 2 ≤ sizeLine; decide, [u1, u2], .cons ru1 (.cons ru2 .nil), _, Heap.get?_push_size _ rfl, rfl, 0, rfl⟩
    have nT : ∀ c ∈ [z, TI, TO, i1, i2], c ≠ s.heap.objs.size := fun c hc => by
      simp only [List.mem_cons, List.not_mem_nil, or_false] at hc
      rcases hc with rfl | rfl | rfl | rfl | rfl <;> exact Nat.ne_of_lt (by assumption)
    have fr : ∀ c ∈ [z, TI, TO, i1, i2], (upd H s.heap.objs.size (.tup [x, y])) c = none := fun c hc => by rw [upd_ne (nT c hc)]; exact (hf c hc).1
    refine ⟨.ref s.heap.objs.size, _, turnedL (fp := [z, TI, TO, i1, i2]) (s := { s with heap := s.heap.push { cls := .type "tuple", data := .seq #[u1, u2] } }) (h' := h2) (t' := s.toks) I1 (fun c o hc q => ?_) (fun c hc => ⟨fr c hc, (hf c hc).2⟩), rfl, ⟨_, x, y, rfl, I.hok.fresh (Nat.le_refl _), rfl, (fun zs hzs => by rw [I.list_inj hzs hq1]; exact hx), fun zs hzs => by rw [I.list_inj hzs hq2]; exact hy⟩, ⟨he2, ?_, ⟨u1, u2, ?_⟩, ?_, ?_⟩, fr⟩
    · simp only [List.mem_cons, List.not_mem_nil, or_false, not_or] at hc
      refine (hs2'.2 c hc.1).trans ?_
      by_cases hbT : c = s.heap.objs.size
      · subst hbT
        have q' := (Heap.get?_push_size s.heap (o := { cls := .type "tuple", data := .seq #[u1, u2] }) rfl).symm.trans q
        rw [show h1.get? s.heap.objs.size = _ from a5]
        exact q'
      · refine hk c o hc.1 hc.2.2.1 hc.2.2.2.1 hc.2.2.2.2 ?_
        have q0 : (s.heap.push { cls := .type "tuple", data := .seq #[u1, u2] }).get? c = some o := q
        rcases Heap.get?_push_cases q0 with zz | zz
        · exact absurd zz.1 hbT
        · exact zz
    · exact (hs2'.2 TI D.TIz).trans (hk TI _ D.TIz D.TITO D.TIi1 D.TIi2 hTI)
    · exact (hs2'.2 TO D.TOz).trans a2
    · exact a3.at fun o q => (hs2'.2 i1 D.i1z).trans q
    · exact a4.at fun o q => (hs2'.2 i2 D.i2z).trans q
  done := by
    intro X hP hw hK hc i pins s σ H E I hf st hg
    subst hP hw hK
    obtain ⟨xs, ys, hq1, hq2, hx⟩ := hg
    obtain ⟨its1, rv1, p1, hz1⟩ := I.list hq1
    obtain ⟨its2, rv2, p2, hz2⟩ := I.list hq2
    obtain ⟨hz, hTI, ⟨o1, o2, hTO⟩, hi1, hi2⟩ := st
    have hl1 := rv1.length
    have hl2 := rv2.length
    refine wpAny_pyNext_zip_end (I.ok.hd hc) D hz hTI hTO hi1 hi2 p1.isList p2.isList ?_ fun h1 hk => ⟨rfl, turnedL (fp := [z, TI, TO, i1, i2]) (t' := s.toks) I (fun c o hc q => ?_) hf⟩
    · rcases hx with h | h
      · exact .inl (by simp; omega)
      · exact .inr (by simp; omega)
    · simp only [List.mem_cons, List.not_mem_nil, or_false, not_or] at hc
      exact hk c o hc.1 hc.2.2.1 hc.2.2.2.1 hc.2.2.2.2 q
  self := fun _ _ _ _ _ st h => wpAny_pyIter_zip st.1 h
theorem zip_apart (I l1 l2 : Nat) (h1 : l1 < I) (h2 : l2 < I) : ZipApart (I + 4) (I + 2) (I + 3) I (I + 1) l1 l2 := by
  constructor <;> (intro e; have e' : (_ : Nat) = _ := e; omega)
section
variable {X : Cx}
def iZip (K : PySem.W.Frag) (ta : TA) : TI := fun σ H R => ta σ H fun vs H1 => ∃ a b, vs = [.ref a, .ref b] ∧ (∃ xs, SqL K H1 a xs) ∧ (∃ ys, SqL K H1 b ys) ∧ R (Itz K a b) H1
theorem pi_zip {elts : List Expr} {k : Nat} {tp : Pos} {a b : Expr} {ta : TA} {p pos : Pos} (hg : Gl X "zip") (hm : X.mg "zip" = none) (ha : PA X [a, b] ta) (hs : starEach [a, b] X.env = (false, eval a X.env) :: starEach [b] X.env := by rfl) (hp : (backTo pos (starEach [b] X.env)).any (·.1) = false := by rfl) :
    PI X (.Tuple elts k tp) (.Call (.Name "zip" p) [a, b] [] pos) (iZip X.K ta) := by
  intro pins s σ H R I h
  refine Call_ (ld_blt I hg hm (u := .type "zip") (by decide +kernel) (PyProof.Rows.callWith_type1 (thn (ha pos pins s σ H _ I h) fun us s1 ⟨vs, H1, I1, r1, q1⟩ => ?_) hs hp))
  obtain ⟨l1, l2, e, ⟨xs, hq1⟩, ⟨ys, hq2⟩, q⟩ := q1
  subst e
  obtain ⟨u1, u2, rfl, ru1, ru2⟩ := vals2 r1
  cases ru1
  cases ru2
  obtain ⟨its1, rv1, pl1, hz1⟩ := I1.list hq1
  obtain ⟨its2, rv2, pl2, hz2⟩ := I1.list hq2
  have hlt1 : l1 < s1.heap.objs.size := let ⟨o, q, _⟩ := pl1.isList; Heap.lt_size q
  have hlt2 : l2 < s1.heap.objs.size := let ⟨o, q, _⟩ := pl2.isList; Heap.lt_size q
  refine call_zip_2 pl1.isList pl2.isList fun h2 hz hTI hTO hi1 hi2 hsz hk => wpAny_pyIter_zip hz ?_
  have fr1 : ∀ n, FpOk X pins H1 (s1.heap.objs.size + n) := fun n => I1.fpOk (Nat.le_add_right _ _) (I1.hok.fresh (Nat.le_add_right _ _))
  have fr : ∀ c ∈ [s1.heap.objs.size + 4, s1.heap.objs.size + 2, s1.heap.objs.size + 3, s1.heap.objs.size, s1.heap.objs.size + 1], FpOk X pins H1 c := fun c hc => by
    simp only [List.mem_cons, List.not_mem_nil, or_false] at hc
    rcases hc with rfl | rfl | rfl | rfl | rfl
    · exact fr1 4
    · exact fr1 2
    · exact fr1 3
    · exact fr1 0
    · exact fr1 1
  exact ⟨s1.heap.objs.size + 4, _, _, _, H1, rfl, I1.kept (t' := s1.toks) hk, turn_zip l1 l2 _ _ _ _ _ (zip_apart _ _ _ hlt1 hlt2), ⟨hz, hTI, ⟨_, _, hTO⟩, hi1, hi2⟩, fr, q⟩
end
theorem comp_zipBy {K : PySem.W.Frag} {a b : Addr} {xs ys : List V} {js : List Nat} {tc : TT} {te : TE} {σ : L2.St} {H1 : Hp} {Q : VK} (hz : xs.length ≤ sizeLine) (Pv : Addr → Nat → List V → Hp → Prop)
    (h0 : ∀ D, H1 D = none → Pv D 0 [] (upd H1 D (.lst []))) (hg : ∀ D i acc H, Pv D i acc H → SqL K H a xs ∧ SqL K H b ys)
    (hs : ∀ D (i : Nat) x y acc H t, H1 D = none → xs[i]? = some x → ys[i]? = some y → H D = some (.lst acc) → Pv D i acc H → H t = none → tc (some x :: some y :: frees σ js) (upd H t (.tup [x, y])) fun c H2 => if c = true then te (some x :: some y :: frees σ js) H2 fun y H3 => H3 D = some (.lst acc) ∧ Pv D (i + 1) (acc ++ [y]) (upd H3 D (.lst (acc ++ [y])))
      else H2 D = some (.lst acc) ∧ Pv D (i + 1) acc H2)
    (hd : ∀ D acc H, H1 D = none → H D = some (.lst acc) → Pv D (min xs.length ys.length) acc H → Q (.ref D) H) : CompW2 K (Itz K a b) js tc te σ H1 Q := by
  intro D nD
  refine ⟨fun i m H => m = min xs.length ys.length - i ∧ i ≤ min xs.length ys.length ∧ ∃ acc, H D = some (.lst acc) ∧ acc.length ≤ i ∧ Pv D i acc H, ⟨min xs.length ys.length, by simp, Nat.zero_le _, [], upd_same, Nat.le_refl _, h0 D nD⟩, ?_⟩
  rintro i m H ⟨rfl, hi, acc, ha, hl, p⟩
  obtain ⟨g1, g2⟩ := hg D i acc H p
  by_cases hlt : i < min xs.length ys.length
  · have l1 : i < xs.length := by omega
    have l2 : i < ys.length := by omega
    refine .inr ⟨⟨xs, ys, xs[i], ys[i], g1, g2, by simp [l1], by simp [l2]⟩, ?_⟩
    rintro x H' ⟨t, u, v, rfl, nt, rfl, e1, e2⟩
    refine ⟨t, _, _, rfl, SqT.of upd_same, fun H2 => H2 D = some (.lst acc) ∧ Pv D (i + 1) acc H2, fun y H3 => H3 D = some (.lst acc) ∧ Pv D (i + 1) (acc ++ [y]) (upd H3 D (.lst (acc ++ [y]))), fun H2 q => ?_, fun z H3 q => ?_, hs D i u v acc _ t nD (e1 _ g1) (e2 _ g2) ha p nt⟩
    · exact ⟨min xs.length ys.length - (i + 1), by omega, rfl, by omega, acc, q.1, by omega, q.2⟩
    · exact ⟨acc, q.1, by omega, min xs.length ys.length - (i + 1), by omega, rfl, by omega, acc ++ [z], upd_same, by rw [List.length_append, List.length_singleton]; omega, q.2⟩
  · have e : i = min xs.length ys.length := by omega
    subst e
    exact .inl ⟨⟨xs, ys, g1, g2, by omega⟩, hd D acc H nD ha p⟩
end Nd
namespace L2
open PySem PySem.Spec PyProof.Rows
section
variable {κ : Type} [DecidableEq κ]
def valV (kvs : List (κ × V)) (k : κ) : Option V := (kvs.find? fun kv => decide (kv.1 = k)).map (·.2)
def putK (kvs : List (κ × V)) (k : κ) (v : V) : List (κ × V) :=
  if (kvs.any fun kv => decide (kv.1 = k)) = true then kvs.map (fun kv => if kv.1 = k then (kv.1, v) else kv) else kvs ++ [(k, v)]
def dropK (kvs : List (κ × V)) (k : κ) : List (κ × V) := kvs.filter fun kv => decide (kv.1 ≠ k)
theorem valV_pos {p : κ × V} {r : List (κ × V)} {k : κ} (e : p.1 = k) : valV (p :: r) k = some p.2 := by simp [valV, List.find?_cons, e]
theorem valV_neg {p : κ × V} {r : List (κ × V)} {k : κ} (e : ¬ p.1 = k) : valV (p :: r) k = valV r k := by simp [valV, List.find?_cons, e]
theorem valV_any (k : κ) : ∀ kvs : List (κ × V), (kvs.any fun kv => decide (kv.1 = k)) = (valV kvs k).isSome
  | [] => rfl
  | p :: r => by
    rw [List.any_cons]
    by_cases e : p.1 = k
    · simp only [valV_pos e, decide_eq_true e, Bool.true_or, Option.isSome_some]
    · rw [valV_neg e, decide_eq_false e, Bool.false_or]; exact valV_any k r
theorem valV_map (k j : κ) (y : V) : ∀ kvs : List (κ × V), valV (kvs.map fun kv => if kv.1 = k then (kv.1, y) else kv) j = (valV kvs j).map fun x => if j = k then y else x
  | [] => rfl
  | p :: r => by
    have ih := valV_map k j y r
    rw [List.map_cons]
    by_cases h : p.1 = k
    · rw [if_pos h]
      by_cases e : p.1 = j
      · rw [valV_pos (p := (p.1, y)) e, valV_pos e, Option.map_some, if_pos (e.symm.trans h)]
      · rw [valV_neg (p := (p.1, y)) e, valV_neg e, ih]
    · rw [if_neg h]
      by_cases e : p.1 = j
      · rw [valV_pos (p := p) e, valV_pos e, Option.map_some, if_neg (fun z => h (e.trans z))]
      · rw [valV_neg (p := p) e, valV_neg e, ih]
theorem valV_snoc (k j : κ) (y : V) : ∀ kvs : List (κ × V), valV kvs k = none → valV (kvs ++ [(k, y)]) j = if j = k then some y else valV kvs j
  | [], _ => by
    by_cases e : k = j
    · rw [if_pos e.symm]; exact valV_pos (p := (k, y)) e
    · rw [if_neg (fun z => e z.symm)]; exact valV_neg (p := (k, y)) e
  | p :: r, hn => by
    rw [List.cons_append]
    have hk : ¬ p.1 = k := fun z => by rw [valV_pos z] at hn; cases hn
    rw [valV_neg hk] at hn
    have ih := valV_snoc k j y r hn
    by_cases e : p.1 = j
    · rw [valV_pos e, valV_pos e, if_neg (fun z => hk (e.trans z))]
    · rw [valV_neg e, valV_neg e, ih]
theorem valV_put (kvs : List (κ × V)) (k j : κ) (y : V) : valV (putK kvs k y) j = if j = k then some y else valV kvs j := by
  unfold putK
  by_cases a : (kvs.any fun kv => decide (kv.1 = k)) = true
  · rw [if_pos a, valV_map]
    rw [valV_any] at a
    by_cases e : j = k
    · obtain ⟨x, hx⟩ := Option.isSome_iff_exists.mp a
      rw [if_pos e, e, hx, Option.map_some, if_pos rfl]
    · rw [if_neg e]
      cases valV kvs j with
      | none => rfl
      | some x => rw [Option.map_some, if_neg e]
  · rw [if_neg a]
    refine valV_snoc k j y kvs ?_
    rw [valV_any] at a
    cases q : valV kvs k with
    | none => rfl
    | some x => rw [q] at a; exact (a rfl).elim
theorem length_putK (kvs : List (κ × V)) (k : κ) (v : V) : (putK kvs k v).length ≤ kvs.length + 1 := by
  unfold putK
  split
  · rw [List.length_map]; omega
  · rw [List.length_append, List.length_cons, List.length_nil]; omega
theorem RelO.isSome_eq {o : Option V} {u : Option Value} (r : RelO o u) : o.isSome = u.isSome := by
  cases o with
  | none => cases u with
    | none => rfl
    | some _ => exact (show False from r).elim
  | some _ => cases u with
    | none => exact (show False from r).elim
    | some _ => rfl
theorem RelO.getD {o : Option V} {u : Option Value} {d : V} {d' : Value} (r : RelO o u) (rd : RelV d d') : RelV (o.getD d) (u.getD d') := by
  cases o with
  | none => cases u with
    | none => exact rd
    | some _ => exact (show False from r).elim
  | some _ => cases u with
    | none => exact (show False from r).elim
    | some _ => exact r
theorem KV.val {kvs : List (κ × V)} {vs : List (κ × Value)} (r : KV kvs vs) (k : κ) : RelO (valV kvs k) (valueAt vs k) := by
  unfold KV at r
  induction r with
  | nil => exact True.intro
  | @cons p q ps qs h t ih =>
    obtain ⟨h1, h2⟩ := h
    by_cases e : p.1 = k
    · have e' : q.1 = k := h1.symm.trans e
      have b : valueAt (q :: qs) k = some q.2 := by simp [valueAt, List.find?_cons, e']
      rw [valV_pos e, b]; exact h2
    · have e' : ¬ q.1 = k := fun z => e (h1.trans z)
      have b : valueAt (q :: qs) k = valueAt qs k := by simp [valueAt, List.find?_cons, e']
      rw [valV_neg e, b]; exact ih
theorem KV.any {kvs : List (κ × V)} {vs : List (κ × Value)} (r : KV kvs vs) (k : κ) : (kvs.any fun kv => decide (kv.1 = k)) = vs.any fun kv => decide (kv.1 = k) := by
  unfold KV at r
  induction r with
  | nil => rfl
  | cons h t ih => rw [List.any_cons, List.any_cons, ih, h.1]
theorem KV.repl {kvs : List (κ × V)} {vs : List (κ × Value)} (r : KV kvs vs) (k : κ) {y : V} {u : Value} (ry : RelV y u) :
    KV (kvs.map fun kv => if kv.1 = k then (kv.1, y) else kv) (vs.map fun kv => if kv.1 = k then (kv.1, u) else kv) := by
  unfold KV at r ⊢
  induction r with
  | nil => exact .nil
  | @cons p q ps qs h t ih =>
    rw [List.map_cons, List.map_cons]
    refine .cons ?_ ih
    obtain ⟨h1, h2⟩ := h
    by_cases e : p.1 = k
    · rw [if_pos e, if_pos (h1.symm.trans e)]; exact ⟨h1, ry⟩
    · rw [if_neg e, if_neg (fun z => e (h1.trans z))]; exact ⟨h1, h2⟩
theorem KV.put {kvs : List (κ × V)} {vs : List (κ × Value)} (r : KV kvs vs) (k : κ) {y : V} {u : Value} (ry : RelV y u) : KV (putK kvs k y) (stored vs k u) := by
  unfold putK stored
  rw [r.any k]
  by_cases e : (vs.any fun kv => decide (kv.1 = k)) = true
  · rw [if_pos e, if_pos e]; exact r.repl k ry
  · rw [if_neg e, if_neg e]; exact Paired.snoc r ⟨rfl, ry⟩
theorem KV.drop {kvs : List (κ × V)} {vs : List (κ × Value)} (r : KV kvs vs) (k : κ) : KV (dropK kvs k) (without vs k) := by
  unfold KV at r ⊢
  unfold dropK without
  induction r with
  | nil => exact .nil
  | @cons p q ps qs h t ih =>
    obtain ⟨h1, h2⟩ := h
    rw [List.filter_cons, List.filter_cons]
    by_cases e : p.1 = k
    · have a : ¬ decide (p.1 ≠ k) = true := by simp [e]
      have b : ¬ decide (q.1 ≠ k) = true := by simp [h1.symm.trans e]
      rw [if_neg a, if_neg b]; exact ih
    · have e' : ¬ q.1 = k := fun z => e (h1.trans z)
      have a : decide (p.1 ≠ k) = true := by simp [e]
      have b : decide (q.1 ≠ k) = true := by simp [e']
      rw [if_pos a, if_pos b]; exact .cons ⟨h1, h2⟩ ih
theorem KV.keys {kvs : List (κ × V)} {vs : List (κ × Value)} (r : KV kvs vs) : kvs.map (·.1) = vs.map (·.1) := by
  unfold KV at r
  induction r with
  | nil => rfl
  | cons h t ih => rw [List.map_cons, List.map_cons, ih, h.1]
theorem KV.length {kvs : List (κ × V)} {vs : List (κ × Value)} (r : KV kvs vs) : kvs.length = vs.length := Paired.length r
end
theorem kV_is {P : Program} {w : World} {k : Key} {u : Value} (r : RelV (kV k) u) : (mixKind P w).is k u = true := by
  cases k with
  | inl i => obtain ⟨t, e⟩ := (show ∃ t, u = Value.int i t from r); subst e; exact mixKind_int P w i t
  | inr x => obtain ⟨t, e⟩ := (show ∃ t, u = Value.str x t from r); subst e; exact mixKind_str P w x t
theorem items_are {P : Program} {w : World} : ∀ {ks : List Key} {us : List Value}, Vals (ks.map kV) us → ItemsAre (mixKind P w) ks us
  | [], _, r => by rw [List.map_nil] at r; cases r; exact .nil
  | k :: ks, _, r => by
    rw [List.map_cons] at r
    cases r with
    | cons h t => exact .cons (kV_is h) (items_are t)
abbrev KT (H : Hp) : List (List Key × V) → List (List Key × Addr × Value) → Prop := Paired fun p q => p.1 = q.1 ∧ H q.2.1 = some (.tup (p.1.map kV)) ∧ RelV p.2 q.2.2
theorem KT.val {H : Hp} {kvs : List (List Key × V)} {xs : List (List Key × Addr × Value)} (r : KT H kvs xs) (k : List Key) : RelO (valV kvs k) ((atKey xs k).map (·.2)) := by
  induction r with
  | nil => exact True.intro
  | @cons p q ps qs h t ih =>
    obtain ⟨h1, _, h2⟩ := h
    by_cases e : p.1 = k
    · have e' : q.1 = k := h1.symm.trans e
      have b : atKey (q :: qs) k = some q.2 := by simp [atKey, List.find?_cons, e']
      rw [valV_pos e, b]; exact h2
    · have e' : ¬ q.1 = k := fun z => e (h1.trans z)
      have b : atKey (q :: qs) k = atKey qs k := by simp [atKey, List.find?_cons, e']
      rw [valV_neg e, b]; exact ih
theorem KT.repl {H : Hp} {kvs : List (List Key × V)} {xs : List (List Key × Addr × Value)} (r : KT H kvs xs) (k : List Key) {y : V} {u : Value} (ry : RelV y u) :
    KT H (kvs.map fun kv => if kv.1 = k then (kv.1, y) else kv) (xs.map (putAt k u)) := by
  induction r with
  | nil => exact .nil
  | @cons p q ps qs h t ih =>
    rw [List.map_cons, List.map_cons]
    refine .cons ?_ ih
    obtain ⟨h1, h2, h3⟩ := h
    unfold putAt
    by_cases e : p.1 = k
    · rw [if_pos e, if_pos (h1.symm.trans e)]; exact ⟨h1, h2, ry⟩
    · rw [if_neg e, if_neg (fun z => e (h1.trans z))]; exact ⟨h1, h2, h3⟩
theorem KT.put {H : Hp} {kvs : List (List Key × V)} {xs : List (List Key × Addr × Value)} (r : KT H kvs xs) (k : List Key) {b : Addr} {y : V} {u : Value} (hb : H b = some (.tup (k.map kV))) (ry : RelV y u) :
    KT H (putK kvs k y) (storedH xs k b u) := by
  have e : (kvs.any fun kv => decide (kv.1 = k)) = (atKey xs k).isSome := by
    rw [valV_any, (r.val k).isSome_eq, Option.isSome_map]
  unfold putK storedH
  rw [e]
  by_cases q : (atKey xs k).isSome = true
  · rw [if_pos q, if_pos q]; exact r.repl k ry
  · rw [if_neg q, if_neg q]; exact Paired.snoc r ⟨rfl, hb, ry⟩
theorem KT.keeps {H H' : Hp} {kvs : List (List Key × V)} {xs : List (List Key × Addr × Value)} (r : KT H kvs xs) (ht : ∀ b ys, H b = some (.tup ys) → H' b = some (.tup ys)) : KT H' kvs xs :=
  Paired.mapP r fun _ _ z => ⟨z.1, ht _ _ z.2.1, z.2.2⟩
section
variable {P : Program} {w : World} {H : Hp} {h : Heap} {a : Addr}
theorem rd_of {u : HO} (ok : HOk P w H h) (e : Rd H a u) : ObjOk P w H h a u := e.ok ok
theorem dk_rd {kvs : List (Key × V)} (ok : HOk P w H h) (e : Rd H a (.dK kvs)) : kvs.length ≤ sizeLine ∧ (a == sysModules) = false ∧ ∃ vs, KV kvs vs ∧ h.DictOf (mixKind P w) a vs :=
  show ObjOk P w H h a (.dK kvs) from rd_of ok e
theorem dk_of {kvs : List (Key × V)} (ok : HOk P w H h) (e : H a = some (.dK kvs)) : kvs.length ≤ sizeLine ∧ (a == sysModules) = false ∧ ∃ vs, KV kvs vs ∧ h.DictOf (mixKind P w) a vs := dk_rd ok (.inl e)
theorem key_of {ks : List Key} (ok : HOk P w H h) (e : H a = some (.tup (ks.map kV))) : (tupleKind (mixKind P w)).is h ks a := by
  obtain ⟨_, its, r, o, h1, h2, n, h3⟩ := (show ObjOk P w H h a (.tup (ks.map kV)) from ok a _ e)
  exact ⟨o, its.toArray, n, h1, h2, h3, by simpa using items_are r⟩
theorem dt_rd {kvs : List (List Key × V)} (ok : HOk P w H h) (e : Rd H a (.dT kvs)) : kvs.length ≤ sizeLine ∧ (a == sysModules) = false ∧
    ∃ xs, KT H kvs xs ∧ h.DictOfH (tupleKind (mixKind P w)) a xs := by
  obtain ⟨z, y, xs, r, o, es, ep, h1, h2, h3, h4, h5⟩ := (show ObjOk P w H h a (.dT kvs) from rd_of ok e)
  refine ⟨z, y, xs, r, o, es, ep, h1, h2, h3, h4, fun x hx => ?_, h5⟩
  have all : ∀ {l : List (List Key × V)} {m : List (List Key × Addr × Value)}, KT H l m → ∀ x ∈ m, (tupleKind (mixKind P w)).is h x.1 x.2.1 := by
    intro l m q
    induction q with
    | nil => intro x hx; exact nomatch hx
    | @cons p q ps qs hq t ih =>
      intro x hx
      rcases List.mem_cons.mp hx with e | hx
      · subst e
        exact key_of ok (by rw [← hq.1]; exact hq.2.1)
      · exact ih x hx
  exact all r x hx
theorem dt_of {kvs : List (List Key × V)} (ok : HOk P w H h) (e : H a = some (.dT kvs)) : kvs.length ≤ sizeLine ∧ (a == sysModules) = false ∧
    ∃ xs, KT H kvs xs ∧ h.DictOfH (tupleKind (mixKind P w)) a xs := dt_rd ok (.inl e)
end
def DGet (H : Hp) (a : Addr) (y : V) (r : Option V) : Prop :=
  (∃ kvs k, Rd H a (.dK kvs) ∧ y = kV k ∧ r = valV kvs k) ∨ ∃ kvs k b, Rd H a (.dT kvs) ∧ y = .ref b ∧ H b = some (.tup (k.map kV)) ∧ r = valV kvs k
def DPut (H : Hp) (a : Addr) (y v : V) (H' : Hp) : Prop :=
  (∃ kvs k, H a = some (.dK kvs) ∧ y = kV k ∧ kvs.length < sizeLine ∧ H' = upd H a (.dK (putK kvs k v))) ∨
  ∃ kvs k b, H a = some (.dT kvs) ∧ y = .ref b ∧ H b = some (.tup (k.map kV)) ∧ kvs.length < sizeLine ∧ H' = upd H a (.dT (putK kvs k v))
theorem DGet.k {H : Hp} {a : Addr} {kvs : List (Key × V)} {k : Key} (e : H a = some (.dK kvs)) : DGet H a (kV k) (valV kvs k) := .inl ⟨kvs, k, .inl e, rfl, rfl⟩
theorem DGet.t {H : Hp} {a b : Addr} {kvs : List (List Key × V)} {k : List Key} (e : H a = some (.dT kvs)) (eb : H b = some (.tup (k.map kV))) : DGet H a (.ref b) (valV kvs k) := .inr ⟨kvs, k, b, .inl e, rfl, eb, rfl⟩
theorem DPut.k {H : Hp} {a : Addr} {kvs : List (Key × V)} {k : Key} {v : V} (e : H a = some (.dK kvs)) (hl : kvs.length < sizeLine) : DPut H a (kV k) v (upd H a (.dK (putK kvs k v))) := .inl ⟨kvs, k, e, rfl, hl, rfl⟩
theorem DPut.t {H : Hp} {a b : Addr} {kvs : List (List Key × V)} {k : List Key} {v : V} (e : H a = some (.dT kvs)) (eb : H b = some (.tup (k.map kV))) (hl : kvs.length < sizeLine) :
    DPut H a (.ref b) v (upd H a (.dT (putK kvs k v))) := .inr ⟨kvs, k, b, e, rfl, eb, hl, rfl⟩
section
variable {X : Cx} {pins : List (Addr × Obj)} {σ : St} {H : Hp} {s : Shared} {a : Addr} {y v : V} {u r : Value} {o : Option V} {A : Around} {E : Value → Shared → Prop}
theorem Inv.big (I : Inv X pins σ H s) : sysModules < s.heap.objs.size := by
  have h : mainGlobals < s.heap.objs.size := (I.mod.glob.keeps I.bk).lt
  exact Nat.lt_trans (by decide) h
theorem d_getItem {Q : Value → Shared → Prop} (hu : A.units + 1 < cLine) (I : Inv X pins σ H s) (g : DGet H a y (some v)) (ry : RelV y u) (h : ∀ w' s', Inv X pins σ H s' → RelV v w' → Q w' s') :
    wpAny (model X.prog X.w) A (getItem (.ref a) u) Q E s := by
  rcases g with ⟨kvs, k, e, ey, l⟩ | ⟨kvs, k, b, e, ey, eb, l⟩
  · subst ey
    obtain ⟨z, hd, vs, rel, dd⟩ := dk_rd I.hok e
    obtain ⟨w', hw, rw'⟩ := RelO.some_of (v := v) (o := valueAt vs k) (by rw [l]; exact rel.val k)
    exact wpAny_getItem_of (kV_is ry) dd.mapOf hw (h w' _ (I.tok _) rw')
  · subst ey
    cases (show u = Value.ref b from ry)
    obtain ⟨z, hd, xs, rel, dd⟩ := dt_rd I.hok e
    obtain ⟨w', hw, rw'⟩ := RelO.some_of (v := v) (o := (atKey xs k).map (·.2)) (by rw [l]; exact rel.val k)
    obtain ⟨p, hp, hp2⟩ := Option.map_eq_some_iff.mp hw
    refine wpAny_getItem_heap (tupleKind_room_in1 hu) (key_of I.hok eb) dd hp ?_
    rw [hp2]
    exact h w' _ (I.tok _) rw'
theorem d_in {Q : Value → Shared → Prop} (hu : A.units + 1 < cLine) (I : Inv X pins σ H s) (g : DGet H a y o) (ry : RelV y u) (h : ∀ s', Inv X pins σ H s' → Q (.bool o.isSome) s') :
    wpAny (model X.prog X.w) A (compareOp .In u (.ref a)) Q E s := by
  rcases g with ⟨kvs, k, e, ey, l⟩ | ⟨kvs, k, b, e, ey, eb, l⟩
  · subst ey
    obtain ⟨z, hd, vs, rel, dd⟩ := dk_rd I.hok e
    refine wpAny_in_of (kV_is ry) hd dd.mapOf ?_
    rw [← (rel.val k).isSome_eq, ← l]
    exact h _ (I.tok _)
  · subst ey
    cases (show u = Value.ref b from ry)
    obtain ⟨z, hd, xs, rel, dd⟩ := dt_rd I.hok e
    refine wpAny_in_heap (tupleKind_room_in1 hu) (key_of I.hok eb) hd dd ?_
    have q := (rel.val k).isSome_eq
    rw [Option.isSome_map] at q
    rw [← q, ← l]
    exact h _ (I.tok _)
theorem d_write {h' : Heap} {t' : Nat} {ob : HO} (I : Inv X pins σ H s) (mu : Mut (H a)) (hs : Heap.SameBut a s.heap h') (he : ∃ q, h'.get? a = some q) (new : ObjOk X.prog X.w (upd H a ob) h' a ob) :
    Inv X pins σ (upd H a ob) { s with heap := h', toks := t' } :=
  I.write (x := a) (e := a) mu (.inl rfl) (fun b q hb z => (hs.2 b hb).trans z) he new
theorem dk_new {P : Program} {w : World} {H' : Hp} {h' : Heap} {kvs : List (Key × V)} {vs : List (Key × Value)} (z : kvs.length ≤ sizeLine) (hd : (a == sysModules) = false) (rel : KV kvs vs) (dd : h'.DictOf (mixKind P w) a vs) :
    ObjOk P w H' h' a (.dK kvs) := ⟨z, hd, vs, rel, dd⟩
theorem d_setItem {H' : Hp} {Q : Unit → Shared → Prop} (hu : A.units + 1 < cLine) (I : Inv X pins σ H s) (g : DPut H a y v H') (ry : RelV y u) (rv : RelV v r) (h : ∀ s', Inv X pins σ H' s' → Q () s') :
    wpAny (model X.prog X.w) A (setItem (.ref a) u r) Q E s := by
  rcases g with ⟨kvs, k, e, ey, l, eH⟩ | ⟨kvs, k, b, e, ey, eb, l, eH⟩
  · subst ey eH
    obtain ⟨z, hd, vs, rel, dd⟩ := dk_of I.hok e
    have hz : vs.length ≤ sizeLine := by rw [← rel.length]; exact z
    have hl : (putK kvs k v).length ≤ sizeLine := by have := length_putK kvs k v; omega
    refine wpAny_setItem_pairs (hsz := hz) (kV_is ry) dd fun h' dd' hs => h _ ?_
    have he : ∃ q, h'.get? a = some q := let ⟨q, _, _, hq, _⟩ := dd'; ⟨q, hq⟩
    exact d_write I (by rw [e]; exact True.intro) hs he (dk_new hl hd (rel.put k rv) dd')
  · subst ey eH
    cases (show u = Value.ref b from ry)
    obtain ⟨z, hd, xs, rel, dd⟩ := dt_of I.hok e
    have hz : xs.length ≤ sizeLine := by rw [← Paired.length rel]; exact z
    have hl : (putK kvs k v).length ≤ sizeLine := by have := length_putK kvs k v; omega
    refine wpAny_setItem_heap (hsz := hz) (tupleKind_room_in1 hu) (key_of I.hok eb) dd fun h' dd' hs => h _ ?_
    obtain ⟨q, es, ep, hq, h2, h3, h4, _, h5⟩ := dd'
    refine d_write I (by rw [e]; exact True.intro) hs ⟨q, hq⟩ ⟨hl, hd, _, (rel.put k eb rv).keeps fun c ys ec => ?_, q, es, ep, hq, h2, h3, h4, h5⟩
    rw [upd_ne (ne_of ec e (fun z => nomatch z))]
    exact ec
end
def NoSl (i : Expr) : Prop := ∀ ov iv, subscripted i false ov iv = operate [ov, iv] (getItem ov iv)
theorem subD_of {prog : Program} {w : World} {A : Around} {E : Value → Shared → Prop} {s : Shared} {env : Env} {value slice : Expr} {pos : Pos} {T id : String} {Q : Value → Shared → Prop}
    (hl : typeLookup (.type T) "__getitem__" = pure (some (.builtin id))) (hs : NoSl slice)
    (h : wpAny (model prog w) A (eval value env) (fun o s₁ => wpAny (model prog w) A (eval slice env) (fun i s₂ => s₂.TypeIs o T ∧ wpAny (model prog w) A (getItem o i) Q E s₂) E s₁) E s) :
    wpAny (model prog w) A (eval (.Subscript value slice pos) env) Q E s := by
  refine Subscript_ (wpAny_mono h (fun o s₁ h₁ => wpAny_mono h₁ (fun i s₂ h₂ => ?_) fun _ _ x => x) fun _ _ x => x)
  obtain ⟨hT, h₂⟩ := h₂
  unfold subscriptTail
  refine wpAny_bind ?_
  rw [getitemInPython_of_ne hT.not_modules]
  refine wpAny_bind (wpAny_specialOf hT hl ?_)
  have fin : wpAny (model prog w) A (subscripted slice false o i) (fun r s₃ => wpAny (model prog w) A (letTemporaryGo value o r >>= fun _ => pure r) Q E s₃) E s₂ := by
    rw [hs o i]
    exact wpAny_operating (wpAny_mono h₂ (fun r s₃ h₃ => wpAny_bind (wpAny_letTemporaryGo (wpAny_pure h₃))) fun _ _ x => x)
  first
    | exact wpAny_pure (wpAny_bind fin)
    | exact wpAny_bind (wpAny_pure (wpAny_bind fin))
    | exact wpAny_bind fin
theorem dict_typeIs {X : Cx} {pins : List (Addr × Obj)} {σ : St} {H : Hp} {s : Shared} {a : Addr} {y : V} {o : Option V} (I : Inv X pins σ H s) (g : DGet H a y o) : s.TypeIs (.ref a) "dict" := by
  rcases g with ⟨kvs, k, e, _, _⟩ | ⟨kvs, k, b, e, _, _, _⟩
  · obtain ⟨_, _, vs, _, dd⟩ := dk_rd I.hok e
    exact dd.typeIs
  · obtain ⟨_, _, xs, _, dd⟩ := dt_rd I.hok e
    exact dd.typeIs
def tDGet (td ty : TE) : TE := fun σ H Q => td σ H fun x H1 => ty σ H1 fun y H2 => ∃ a v, x = .ref a ∧ DGet H2 a y (some v) ∧ Q v H2
def tDIn (ty td : TE) : TE := fun σ H Q => ty σ H fun y H1 => td σ H1 fun x H2 => ∃ a o, x = .ref a ∧ DGet H2 a y o ∧ Q (.bl o.isSome) H2
def sDPut (td ty tv : TE) : TS := fun D σ H => tv σ H fun v H1 => td σ H1 fun x H2 => ty σ H2 fun y H3 => ∃ a H4, x = .ref a ∧ DPut H3 a y v H4 ∧ D.nx σ H4
section
variable {X : Cx} {o i e value : Expr} {pos pos' tpos : Pos} {td ty tv : TE}
theorem pe_dget (hu : X.A.units + 1 < cLine) (ho : PE X o td) (hi : PE X i ty) (hs : NoSl i) : PE X (.Subscript o i pos) (tDGet td ty) := by
  intro pins s σ H Q I h
  refine subD_of PySem.F.slot_dict_getitem.lookup hs (thn (ho pins s σ H _ I h) fun u s1 ⟨x, H1, I1, rx, q1⟩ => thn (hi pins s1 σ H1 _ I1 q1) fun iv s2 ⟨y, H2, I2, ry, a, v, ex, g, q2⟩ => ?_)
  subst ex
  obtain rfl : u = Value.ref a := rx
  exact ⟨dict_typeIs I2 g, d_getItem hu I2 g ry fun w' s3 I3 rw' => ⟨v, H2, I3, rw', q2⟩⟩
theorem pc_din (hu : X.A.units + 1 < cLine) (hi : PE X i ty) (ho : PE X o td) : PC X .In i o (tDIn ty td) := by
  intro pins s σ H Q I h
  refine thn (hi pins s σ H _ I h) fun iv s1 ⟨y, H1, I1, ry, q1⟩ => thn (ho pins s1 σ H1 _ I1 q1) fun u s2 ⟨x, H2, I2, rx, a, ov, ex, g, q2⟩ => ?_
  subst ex
  obtain rfl : u = Value.ref a := rx
  exact d_in hu I2 g ry fun s3 I3 => ⟨.bl ov.isSome, H2, I3, rfl, q2⟩
theorem ps_dput (hu : X.A.units + 1 < cLine) (ho : PE X o td) (hi : PE X i ty) (hv : PE X value tv) (hs : swapsWith value (some (.Subscript o i pos')) pos.line X.env = pure false) :
    PS X (.Assign [.Subscript o i pos'] value pos) (sDPut td ty tv) := by
  intro pins s σ H D I h
  refine wpAny_Assign_Subscript (thn (hv pins s σ H _ I h) fun r s1 ⟨v, H1, I1, rv, q1⟩ => thn (ho pins s1 σ H1 _ I1 q1) fun u s2 ⟨x, H2, I2, rx, q2⟩ => thn (hi pins s2 σ H2 _ I2 q2) fun iv s3 ⟨y, H3, I3, ry, a, H4, ex, g, q3⟩ => ?_) hs
  subst ex
  obtain rfl : u = Value.ref a := rx
  exact d_setItem hu I3 g ry rv fun s4 I4 => ⟨σ, H4, I4, q3⟩
end
theorem dt_empty {P : Program} {w : World} {H : Hp} (h : Heap) (hb : sysModules < h.objs.size) : ObjOk P w H (h.push { cls := .type "dict", data := .dict #[] }) h.objs.size (.dT []) :=
  ⟨Nat.zero_le _, beq_eq_false_iff_ne.mpr (Ne.symm (Nat.ne_of_lt hb)), [], .nil, _, #[], 0, Heap.get?_push_size _ rfl, ⟨rfl, rfl, rfl⟩, rfl, rfl, List.nodup_nil⟩
def tDNewT : TE := fun _ H Q => ∀ p, H p = none → Q (.ref p) (upd H p (.dT []))
section
variable {X : Cx} {pos : Pos}
theorem pe_dnewT : PE X (.Dict [] [] pos) tDNewT := fun pins s σ H Q I h =>
  wpAny_Dict_empty ⟨.ref s.heap.objs.size, _, I.laid (a := s.heap.objs.size) (o := .dT []) (t' := s.toks) (fun _ _ q => Heap.get?_push_of_some _ q) (Nat.le_refl _) (dt_empty s.heap I.big), rfl, h _ (I.hok.fresh (Nat.le_refl _))⟩
end
def mergeK (kvs more : List (Key × V)) : List (Key × V) := more.foldl (fun acc kv => putK acc kv.1 kv.2) kvs
theorem KV.merge : ∀ {more : List (Key × V)} {rs : List (Key × Value)} {kvs : List (Key × V)} {vs : List (Key × Value)}, KV more rs → KV kvs vs → KV (mergeK kvs more) (merged vs rs) := by
  intro more rs kvs vs r
  unfold KV at r
  induction r generalizing kvs vs with
  | nil => intro q; exact q
  | @cons p q ps qs h t ih =>
    intro r0
    have e : KV (putK kvs p.1 p.2) (stored vs q.1 q.2) := by
      have := r0.put p.1 h.2
      rw [← h.1]; exact this
    exact ih e
structure M1 (X : Cx) (o : Expr) (m : Str) (apos : Pos) (e : Expr) (cpos : Pos) : Prop where
  base : attributeBase o m X.env (eval o X.env) = eval o X.env
  few : ((backTo cpos (starEach [e] X.env)).all (fun x => !x.1) && (backToKw cpos (keywordEach [] X.env)).all (fun x => x.1.isSome)
    && decide (([e] : List Expr).length + ([] : List Keyword).length + (if ([] : List Keyword).isEmpty then 0 else 1) < 30)) = true
  line : (apos.endLine == cpos.line) = true
  trees : backTo cpos (starEach [e] X.env) = [(false, eval e X.env)]
structure M2 (X : Cx) (o : Expr) (m : Str) (apos : Pos) (e f : Expr) (cpos : Pos) : Prop where
  base : attributeBase o m X.env (eval o X.env) = eval o X.env
  few : ((backTo cpos (starEach [e, f] X.env)).all (fun x => !x.1) && (backToKw cpos (keywordEach [] X.env)).all (fun x => x.1.isSome)
    && decide (([e, f] : List Expr).length + ([] : List Keyword).length + (if ([] : List Keyword).isEmpty then 0 else 1) < 30)) = true
  line : (apos.endLine == cpos.line) = true
  trees : backTo cpos (starEach [e, f] X.env) = [(false, eval e X.env), (false, eval f X.env)]
end L2
namespace L2
open PySem PySem.Spec PyProof.Rows
end L2
namespace Ts
open PySem PyProof.Rows L2
def kofG {κ : Type} (c : Addr → κ) (d0 : κ) (x : Keyed) : κ := match x.1 with
  | .ref a => c a
  | _ => d0
def kLt {κ : Type} (c : Addr → κ) (d0 : κ) (lt_ : κ → κ → Bool) (x y : Keyed) : Bool := lt_ (kofG c d0 x) (kofG c d0 y)
def Kinded {κ : Type} (prog : Program) (w : World) (A : Around) (s : Shared) (rs : List Addr) (c : Addr → κ) (d0 : κ) (lt_ : κ → κ → Bool) : Prop :=
  ∃ kd, (∀ (R : SortKind → Shared → Prop) (E : Value → Shared → Prop), R kd s → wpAny (model prog w) A (keyKind' (rs.map Value.ref).toArray) R E s) ∧ Cmp prog w A s kd (fun x => ∃ r ∈ rs, x.1 = .ref r) (kLt c d0 lt_)
section
variable {prog : Program} {w : World} {A : Around} {E : Value → Shared → Prop} {s : Shared} {κ : Type} {c : Addr → κ} {d0 : κ} {lt_ : κ → κ → Bool} {rs : List Addr}
theorem sort_listG {a : Addr} {n : Nat} {P : Fin → Shared → Prop} (hl : s.heap.get? a = some (seqObj "list" (rs.map Value.ref).toArray n)) (hC : ∀ h' : Heap, (∀ b o, b ≠ a → s.heap.get? b = some o → h'.get? b = some o) → 2 ≤ rs.length → Kinded prog w A { s with heap := h' } rs c d0 lt_) (hz : rs.length ≤ sizeLine)
    (h : ∀ rs' : List Addr, rs'.Perm rs → rs'.Pairwise (fun x y => lt_ (c y) (c x) = false) → P (.done (.ret .none)) { s with heap := sortedHeap s.heap a (rs.map Value.ref) (rs'.map Value.ref).toArray }) :
    wpAny (model prog w) A (Builtin.«list.sort» ⟨[.ref a], []⟩) P E s := by
  have lt := Heap.lt_size hl
  have hsz : (rs.map Value.ref).toArray.size = rs.length := by simp
  rw [list_sort_plain]
  refine wpAny_bind (listItems_at hl rfl (wpAny_bind (listUpdate_at hl rfl ?_ (by rw [hsz]; exact hz))))
  obtain ⟨ep, hl1⟩ : ∃ ep, (s.heap.update a (Obj.mapSeq fun _ => #[])).get? a = some (seqObj "list" #[] ep) := ⟨_, get?_update_seq hl (fun _ => #[])⟩
  refine wpAny_bind (seqEpoch_at hl1 rfl (wpAny_bind (wpAny_newTuple (wpAny_bind (wpAny_newList (wpAny_holding ?_)) ))))
  have hl2 : (((s.heap.update a (Obj.mapSeq fun _ => #[])).push (seqObj "tuple" (rs.map Value.ref).toArray 0)).push (seqObj "list" #[] 0)).get? a = some (seqObj "list" #[] ep) := by
    rw [Heap.get?_push_ne _ _ _ (by rw [size_push', Heap.size_update]; exact Nat.ne_of_lt (Nat.lt_succ_of_lt lt)),
      Heap.get?_push_ne _ _ _ (by rw [Heap.size_update]; exact Nat.ne_of_lt lt)]
    exact hl1
  have kept : ∀ b o, b ≠ a → s.heap.get? b = some o → (((s.heap.update a (Obj.mapSeq fun _ => #[])).push (seqObj "tuple" (rs.map Value.ref).toArray 0)).push (seqObj "list" #[] 0)).get? b = some o := fun b o hb e => by
    refine Heap.get?_push_of_some _ (Heap.get?_push_of_some _ ?_)
    exact ((Heap.SameBut.update s.heap a _).2 b hb).trans e
  show wpAny (model prog w) A _ P E { s with heap := ((s.heap.update a (Obj.mapSeq fun _ => #[])).push (seqObj "tuple" (rs.map Value.ref).toArray 0)).push (seqObj "list" #[] 0) }
  dsimp only
  -- what is left behind the runs
  have fin : ∀ (out : Array Value) (rs' : List Addr), out = (rs'.map Value.ref).toArray → rs'.Perm rs → rs'.Pairwise (fun x y => lt_ (c y) (c x) = false) →
      P (.done (.ret .none)) { s with heap := sortedHeap s.heap a (rs.map Value.ref) out } := fun out rs' e p1 p2 => by rw [e]; exact h rs' p1 p2
  by_cases h2 : (rs.map Value.ref).toArray.size < 2
  · rw [if_pos h2, if_pos h2]
    refine wpAny_bind (wpAny_pure ?_)
    rw [StateT.run_pure]
    refine wpAny_bind (wpAny_pure (wpAny_bind (seqEpoch_at hl2 rfl (wpAny_bind (listUpdate_at hl2 rfl ?_ (by simp) ?_)))))
    · simp only [bne_self_eq_false, Bool.false_eq_true, if_false]
      refine wpAny_pure (fin _ rs ?_ (List.Perm.refl _) ?_)
      · show Array.map (fun x => x.2) ((rs.map Value.ref).toArray.zip (rs.map Value.ref).toArray) = _
        apply Array.ext'
        simp [List.map_snd_zip]
      · rw [hsz] at h2
        match rs, h2 with
        | [], _ => exact List.Pairwise.nil
        | [_], _ => exact List.pairwise_singleton _ _
        | _ :: _ :: _, h2 => simp only [List.length_cons] at h2; omega
    · show (Array.map (fun x : Keyed => x.2) ((rs.map Value.ref).toArray.zip (rs.map Value.ref).toArray)).size ≤ sizeLine + 1
      rw [Array.size_map, Array.size_zip, hsz]
      omega
  · rw [if_neg h2, if_neg h2]
    rw [hsz] at h2
    obtain ⟨kd, hk, C⟩ := hC (((s.heap.update a (Obj.mapSeq fun _ => #[])).push (seqObj "tuple" (rs.map Value.ref).toArray 0)).push (seqObj "list" #[] 0)) kept (by omega)
    refine wpAny_bind (hk _ _ ?_)
    have a0 : (pairsOf (rs.map Value.ref)).size = rs.length := by rw [pairsOf_size, List.length_map]
    refine wpAny_bind (wpAny_mono (runs_sort C (a₀ := pairsOf (rs.map Value.ref)) (st := SortSt.mk' kd ((rs.map Value.ref).toArray.zip (rs.map Value.ref).toArray) #[] 7 none) (E := E)
      (Q := fun _ st' => Good0 kd (pairsOf (rs.map Value.ref)) st' ∧ Asc (kLt c d0 lt_) (arrOf st') 0 (pairsOf (rs.map Value.ref)).size)
      ⟨rfl, rfl, Array.Perm.refl _⟩ (fun x hx => ?_) rfl (by rw [a0]; omega) fun st' g as => ⟨g, as⟩) ?_ fun _ _ z => z)
    · rw [pairsOf_toList] at hx
      obtain ⟨_, hm⟩ := mem_zip_self hx
      obtain ⟨r, hr, e⟩ := List.mem_map.mp hm
      exact ⟨r, hr, e.symm⟩
    · rintro ⟨⟨⟩, st'⟩ s' ⟨rfl, g, as⟩
      dsimp only
      -- the things of the new order
      have pl : (arrOf st').toList.Perm ((rs.map Value.ref).zip (rs.map Value.ref)) := by rw [← pairsOf_toList]; exact Array.perm_iff_toList_perm.mp g.perm
      have each : ∀ x ∈ (arrOf st').toList, ∃ r ∈ rs, x = (Value.ref r, Value.ref r) := fun x hx => by
        obtain ⟨e, hm⟩ := mem_zip_self (pl.mem_iff.mp hx)
        obtain ⟨r, hr, e2⟩ := List.mem_map.mp hm
        refine ⟨r, hr, ?_⟩
        obtain ⟨x1, x2⟩ := x
        simp only at e e2
        rw [← e, e2]
      have ex : ∀ l : List Keyed, (∀ x ∈ l, ∃ r ∈ rs, x = (Value.ref r, Value.ref r)) → ∃ rs' : List Addr, l = rs'.map fun r => (Value.ref r, Value.ref r) := by
        intro l
        induction l with
        | nil => intro _; exact ⟨[], rfl⟩
        | cons x l ih =>
          intro hx
          obtain ⟨r, _, e⟩ := hx x List.mem_cons_self
          obtain ⟨rs', e'⟩ := ih fun y hy => hx y (List.mem_cons_of_mem _ hy)
          exact ⟨r :: rs', by rw [List.map_cons, e, e']⟩
      obtain ⟨rs', ers⟩ := ex _ each
      have zz : (rs.map Value.ref).zip (rs.map Value.ref) = rs.map fun r => (Value.ref r, Value.ref r) := by
        rw [List.zip_map', ]
      rw [ers, zz] at pl
      have inj : ∀ x : Keyed, ∃ a : Addr, True := fun _ => ⟨0, trivial⟩
      have pr : rs'.Perm rs := by
        have := pl.map (fun x : Keyed => match x.1 with | .ref a => a | _ => 0)
        rw [List.map_map, List.map_map] at this
        simpa [Function.comp_def] using this
      have so : rs'.Pairwise (fun x y => lt_ (c y) (c x) = false) := by
        rw [List.pairwise_iff_getElem]
        intro i j hi hj hij
        have ls : (arrOf st').size = rs'.length := by
          have := congrArg List.length ers
          rw [Array.length_toList, List.length_map] at this
          exact this
        have xe : ∀ k (hk : k < rs'.length), X (arrOf st') k = (Value.ref rs'[k], Value.ref rs'[k]) := fun k hk => by
          have e1 := at_list (X_at (xs := arrOf st') (i := k) (by omega))
          rw [ers, List.getElem?_map, List.getElem?_eq_getElem hk] at e1
          exact (Option.some.inj e1).symm
        have := as i j (Nat.zero_le _) (by omega) (by rw [a0, ← pr.length_eq]; exact hj)
        rw [xe i hi, xe j hj] at this
        exact this
      refine wpAny_bind (seqEpoch_at hl2 rfl (wpAny_bind (listUpdate_at hl2 rfl ?_ (by simp) ?_)))
      · have fl : failedOf st' = none := g.fail
        rw [fl]
        simp only [bne_self_eq_false, Bool.false_eq_true, if_false]
        refine wpAny_pure (fin _ rs' ?_ pr so)
        apply Array.ext'
        rw [Array.toList_map, ers, List.map_map]
        rfl
      · show (Array.map (fun x : Keyed => x.2) (arrOf st')).size ≤ sizeLine + 1
        rw [Array.size_map, g.size, a0]
        omega
theorem sorted_callG {l : Addr} {Q : Value → Shared → Prop} (hl : s.heap.IsList l (rs.map Value.ref).toArray) (hC : ∀ (A' : Around) (h' : Heap), A'.units ≤ A.units + 2 → A'.handled = A.handled → (∀ b o, s.heap.get? b = some o → h'.get? b = some o) → 2 ≤ rs.length → Kinded prog w A' { s with heap := h' } rs c d0 lt_) (hz : rs.length ≤ sizeLine)
    (h : ∀ rs' : List Addr, rs'.Perm rs → rs'.Pairwise (fun x y => lt_ (c y) (c x) = false) → Q (.ref (s.heap.objs.size + 1)) { s with heap := sortedAll s.heap (rs.map Value.ref) (rs'.map Value.ref).toArray }) :
    wpAny (model prog w) A (call (.builtin "sorted") [.ref l]) Q E s := by
  refine Calls.call_function_entry (by exact kind_sorted) plain_sorted entry_sorted (args_sorted1 _) ?_
  unfold Builtin.«sorted»
  refine wpAny_bind (m := checkCount "sorted" 1 1 _) (wpAny_pure (wpAny_bind (collect_list hl (wpAny_bind (wpAny_newList ?_)) (by rw [List.length_map]; exact hz))))
  have z1 : ((s.heap.push (seqObj "list" #[] 0)).update s.heap.objs.size (Obj.mapSeq (· ++ (rs.map Value.ref).toArray))).objs.size = s.heap.objs.size + 1 := by rw [Heap.size_update, size_push']
  have g1 : (((s.heap.push (seqObj "list" #[] 0)).update s.heap.objs.size (Obj.mapSeq (· ++ (rs.map Value.ref).toArray))).push (seqObj "list" (rs.map Value.ref).toArray 0)).get? (s.heap.objs.size + 1) = some (seqObj "list" (rs.map Value.ref).toArray 0) := by
    rw [← z1]
    exact Heap.get?_push_size _ rfl
  have kept : ∀ b o, s.heap.get? b = some o → (((s.heap.push (seqObj "list" #[] 0)).update s.heap.objs.size (Obj.mapSeq (· ++ (rs.map Value.ref).toArray))).push (seqObj "list" (rs.map Value.ref).toArray 0)).get? b = some o := fun b o e => by
    refine Heap.get?_push_of_some _ (((Heap.SameBut.update _ _ _).2 b (Nat.ne_of_lt (Heap.lt_size e))).trans (Heap.get?_push_of_some _ e))
  show wpAny _ _ _ _ _ { s with heap := ((s.heap.push (seqObj "list" #[] 0)).update s.heap.objs.size (Obj.mapSeq (· ++ (rs.map Value.ref).toArray))).push (seqObj "list" (rs.map Value.ref).toArray 0) }
  rw [z1]
  refine wpAny_bind (wpAny_holding (wpAny_call_entry slot_list_sort ⟨_, g1, rfl⟩ entry_list_sort (sort_listG g1 (fun h' hk h2 => hC _ h' ?_ ?_ (fun b o e => hk b o (Nat.ne_of_lt (Nat.lt_succ_of_lt (Heap.lt_size e))) (kept b o e)) h2) hz fun rs' p1 p2 => ⟨_, rfl, ?_⟩) (args_list_sort _)))
  · first | exact Nat.le_refl _ | (show A.units + 1 ≤ A.units + 2; omega) | (show A.units ≤ A.units + 2; omega)
  · rfl
  · exact wpAny_pure ⟨_, rfl, h rs' p1 p2⟩
end
section
variable {prog : Program} {w : World} {A : Around} {E : Value → Shared → Prop} {s : Shared} {c : Addr → List Int} {rs : List Addr}
theorem one_int {b : Bool} {x y : Int} {t u : Tok} {Q : Bool → Shared → Prop} (h : Q (decide (x < y)) s) : wpAny (model prog w) A (oneLt' b (.int x t) (.int y u)) Q E s := by
  cases b with
  | true => exact oneLt_int h
  | false => exact PySem.W.kat_one _ _ (lt_int h)
theorem lex_ints {b : Bool} {Q : Bool → Shared → Prop} : ∀ {xs ys : List Value} {ns ms : List Int} (i : Nat), IntsAre xs ns → IntsAre ys ms → Q (HT.lexLt ns ms) s → PySem.W.KatLex prog w A b (decide (xs.length < ys.length)) Q (xs.zip ys) i s
  | _, _, _, _, i, .nil, .nil, h => h
  | _, _, _, _, i, .nil, .cons m u k, h => h
  | _, _, _, _, i, .cons n t k, .nil, h => h
  | _, _, _, _, i, .cons (vs := xs) n t k, .cons (vs := ys) m u k2, h => by
    rw [List.zip_cons_cons]
    refine PySem.W.kat_cons (wpAny_eqBool_int ?_)
    rw [HT.lexLt_cons] at h
    cases hnm : (n == m) with
    | true =>
      have e : n = m := by simpa using hnm
      rw [if_pos e] at h
      refine PySem.W.kat_yes ?_
      have : decide ((Value.int n t :: xs).length < (Value.int m u :: ys).length) = decide (xs.length < ys.length) := by simp
      rw [this]
      exact lex_ints (i + 1) k k2 h
    | false =>
      have e : ¬ n = m := by simpa using hnm
      rw [if_neg e] at h
      exact PySem.W.kat_no (one_int h)
theorem katTups_of : ∀ {l : List Addr}, (∀ r ∈ l, ∃ its : List Value, IntsAre its (c r) ∧ IsTup s.heap r its.toArray) → (∀ r ∈ l, c r ≠ []) → ∃ fs : List Value, PySem.W.KatTups s.heap (l.map Value.ref) fs ∧ fs.length = l.length ∧ ∀ v ∈ fs, ∃ i t, v = .int i t
  | [], _, _ => ⟨[], .nil, rfl, fun _ h => (nomatch h)⟩
  | r :: l, hH, hn => by
    obtain ⟨fs, h1, h2, h3⟩ := katTups_of (fun r' hr' => hH r' (List.mem_cons_of_mem _ hr')) (fun r' hr' => hn r' (List.mem_cons_of_mem _ hr'))
    obtain ⟨its, ti, o, g, k, n, e⟩ := hH r List.mem_cons_self
    have hne := hn r List.mem_cons_self
    match its, ti with
    | [], ti => cases hc : c r with
      | nil => exact absurd hc hne
      | cons _ _ => rw [hc] at ti; cases ti
    | v :: its, ti =>
      have : ∃ i t, v = .int i t := by
        revert ti
        generalize c r = cr
        intro ti
        cases ti with
        | cons m t k => exact ⟨_, _, rfl⟩
      refine ⟨v :: fs, PySem.W.KatTups.cons g k e (by simp) h1, by rw [List.length_cons, List.length_cons, h2], fun x hx => ?_⟩
      rcases List.mem_cons.mp hx with rfl | hx
      · exact this
      · exact h3 x hx
theorem kinded_ints (hH : Held c rs s.heap) (hu : A.units < cLine) (h2 : 2 ≤ rs.length) : Kinded prog w A s rs c [] HT.lexLt := by
  obtain ⟨r, l, rfl⟩ : ∃ r l, rs = r :: l := by
    cases rs with
    | nil => simp at h2
    | cons r l => exact ⟨r, l, rfl⟩
  by_cases h0 : c r = []
  · exact ⟨oneType', fun R E h => kind_tup hH h0 h, cmp_tup hH hu⟩
  by_cases hall : ∀ r' ∈ r :: l, c r' ≠ []
  · obtain ⟨fs, f1, f2, f3⟩ := katTups_of hH hall
    refine ⟨tuples' true, fun R E h => ?_, ?_⟩
    · refine PySem.W.kat_kind (T := .type "int") f1 (by rw [f2]; simp) (fun v hv => ?_) (by decide) h
      obtain ⟨i, t, rfl⟩ := f3 v hv
      exact .now
    · refine ⟨fun x y Q E ⟨r1, hr1, ex⟩ ⟨r2, hr2, ey⟩ h => ?_, fun x => lex_irr _, fun x y z => lex_tr, fun x y z => lex_neg⟩
      obtain ⟨x1, x2⟩ := x
      obtain ⟨y1, y2⟩ := y
      simp only at ex ey
      subst ex ey
      obtain ⟨i1, t1, o1, g1, k1, n1, e1⟩ := hH r1 hr1
      obtain ⟨i2, t2, o2, g2, k2, n2, e2⟩ := hH r2 hr2
      refine PySem.W.kat_lt g1 e1 g2 e2 ?_
      have e : (decide (i1.toArray.size < i2.toArray.size)) = decide (i1.length < i2.length) := by simp
      rw [e]
      exact lex_ints 0 t1 t2 h
  · refine ⟨general', fun R E h => ?_, ?_⟩
    · rw [kat_kind_eq, List.mapM_toArray, map_eq_pure_bind]
      refine wpAny_bind (wpAny_bind (firsts_tup hH fun fs hl hf => wpAny_pure ?_))
      have na : ¬ (fs.toArray.all fun x => x.isSome) = true := by
        intro z
        refine hall fun r' hr' => ?_
        obtain ⟨i, hi⟩ := List.getElem?_of_mem hr'
        obtain ⟨f, q1, q2⟩ := hf i r' hi
        refine q2.mp ?_
        exact Array.all_eq_true'.mp z f (by have := List.mem_of_getElem? q1; simpa using this)
      obtain ⟨f, q1, q2⟩ := hf 0 r rfl
      have n0 : (fs.toArray[0]?.bind id).isSome = true := by
        rw [List.getElem?_toArray, q1]
        simpa using q2.mpr h0
      rw [if_neg na, if_pos n0]
      exact wpAny_pure h
    · refine ⟨fun x y Q E ⟨r1, hr1, ex⟩ ⟨r2, hr2, ey⟩ h => ?_, fun x => lex_irr _, fun x y z => lex_tr, fun x y z => lex_neg⟩
      obtain ⟨x1, x2⟩ := x
      obtain ⟨y1, y2⟩ := y
      simp only at ex ey
      subst ex ey
      obtain ⟨i1, t1, p1⟩ := hH r1 hr1
      obtain ⟨i2, t2, p2⟩ := hH r2 hr2
      show wpAny (model prog w) A (oneLt' false (.ref r1) (.ref r2)) Q E s
      exact PySem.W.kat_one _ _ (HT.lt_tupInts p1 p2 (show IntsAre i1.toArray.toList (c r1) by simpa using t1) (show IntsAre i2.toArray.toList (c r2) by simpa using t2) hu h)
end
section
variable {X : Cx}
def rSortI (K : PySem.W.Frag) : List V → Hp → VK → Prop := fun xs H Q => ∃ (a : Addr) (rs : List Addr) (c : Addr → List Int), xs = [.ref a] ∧ SqL K H a (rs.map V.ref) ∧ (∀ r ∈ rs, SqT K H r ((c r).map V.int)) ∧
    ∀ (p : Addr) (rs' : List Addr), H p = none → rs'.Perm rs → rs'.Pairwise (fun x y => HT.lexLt (c y) (c x) = false) → Q (.ref p) (upd H p (.lst (rs'.map V.ref)))
theorem call_sortedI (hu : X.A.units + 64 < cLine) : CallR X (.builtin "sorted") (rSortI X.K) := by
  intro pins s σ H xs us Q I r h
  obtain ⟨a, rs, c, rfl, hl, hc, q⟩ := h
  obtain ⟨u, rfl, ru⟩ := vals1 r
  cases ru
  obtain ⟨its, rv, pl, hz⟩ := I.list hl
  have e := refs_vals rv
  subst e
  rw [List.length_map] at hz
  refine sorted_callG (c := c) (d0 := []) (lt_ := HT.lexLt) pl.isList (fun A' h' hA _ hk h2 => kinded_ints (fun r hr => ?_) (by omega) h2) hz fun rs' p1 p2 => ?_
  · obtain ⟨ti, t1, ⟨o, g, k⟩, _⟩ := I.tuple (hc r hr)
    exact ⟨ti, intsAre_of t1, o, hk _ _ g, k⟩
  · obtain ⟨n, hn⟩ := sortedAll_new (h := s.heap) (vs := rs.map Value.ref) (out := (rs'.map Value.ref).toArray)
    refine ⟨.ref (s.heap.objs.size + 1), upd H (s.heap.objs.size + 1) (.lst (rs'.map V.ref)), I.laid (t' := s.toks) (fun b o e => sortedAll_keeps e) (Nat.le_succ _) ⟨?_, _, n, vals_refs rs', hn⟩, rfl, q _ rs' (I.hok.fresh (Nat.le_succ _)) p1 p2⟩
    rw [List.length_map, p1.length_eq]
    exact hz
end
end Ts
namespace K23
open PySem L2 Nd
def spChoose : Sp := fun vs H Q _ => ∃ n k : Int, vs = [.int n, .int k] ∧ 0 ≤ n ∧ n ≤ 1000 ∧ 0 ≤ k ∧ ∀ H', Same H H' → Q (.int (ch n.toNat k.toNat)) H'
theorem ch_div (n i : Nat) (h : i ≤ n) : ((ch n i : Int) * ((n : Int) - (i : Int))) / ((i : Int) + 1) = (ch n (i + 1) : Int) := by
  have h1 := ch_step n i
  have h2 : ((ch n i : Int) * ((n : Int) - (i : Int))) = (ch n (i + 1) : Int) * ((i : Int) + 1) := by
    have : (((ch n i * (n - i) : Nat)) : Int) = ((ch n (i + 1) * (i + 1) : Nat) : Int) := by rw [h1]
    rw [Int.natCast_mul, Int.natCast_mul, Int.natCast_sub h] at this
    rw [this]
    rfl
  rw [h2, Int.mul_ediv_cancel _ (by omega)]
section
variable {P : Program} {w : World} {K : PySem.W.Frag} {mg : Str → Option Value} {base : Heap}
theorem sc_choose : FnScope ["n", "k", "many", "step"] ["n", "k"] (defScope s_choose) := ⟨rfl, rfl, rfl, by decide +kernel, rfl, by decide +kernel, by decide +kernel⟩
theorem ok_choose {f  : Addr} {fd  : FuncData} (F : Fun K "choose" "choose" s_choose f fd)
    (mz_min : mg "min" = none) (mz_range : mg "range" = none) :
    FnOk P w K mg base CX0 1 f fd ["n", "k"] (spChoose) := by
  refine F.ok sc_choose (fun vs H Q E h => ?_) (fun cdv A outer s H vs Q E hr h => ?_)
  · obtain ⟨n, k, rfl, _⟩ := h
    rfl
  obtain ⟨n, k, rfl, n0, n1, k0, q⟩ := h
  have hu := hu_of hr
  have hu64 := hr.units
  refine ⟨_, pss_cons (ps_if (pt_cmpR op_gt (pv 1) (pv 0) (nomark _))
    (pss_one (ps_ret pe_int)) pss_nil)
    (pss_cons (ps_set (i := 2) sc_choose.nd rfl (Or.inl rfl) pe_int)
    (pss_cons (ps_for PassesOwn.never rfl (pi_range1 rfl mz_range (pa_cons (pe_callB (call_min2 rfl) rfl mz_min (by decide +kernel) (pa_cons (pv 1) (pa_cons (pe_op op_sub (pv 0) (pv 1)) pa_nil))) pa_nil)) (pg_name (i := 3) sc_choose.nd rfl (Or.inl rfl))
    (pss_one (ps_set (i := 2) sc_choose.nd rfl (Or.inl rfl) (pe_op op_fdiv (pe_op op_mul (pv 2) (pe_op op_sub (pv 0) (pv 3))) (pe_op op_add (pv 3) pe_int)))))
    (pss_one (ps_ret (pv 2))))), ?_⟩
  refine ⟨_, rfl, _, rfl, _, _, rfl, rfl, _, rfl, ite2 (fun hkn => ?_) (fun hkn => ?_)⟩
  · have := q H (Same.refl _)
    rw [ch_above (by have := of_decide_eq_true hkn; omega)] at this
    exact this
  have hkn : k ≤ n := by
    have : ¬ n < k := fun z => hkn (decide_eq_true z)
    omega
  refine ⟨_, rfl, _, rfl, _, rfl, _, _, rfl, rfl, _, _, rfl, ?_⟩
  obtain ⟨t, et, ht⟩ : ∃ t : Nat, (if n - k < k then n - k else k) = (t : Int) ∧ (t = k.toNat ∨ t = n.toNat - k.toNat) := by
    by_cases h : n - k < k
    · exact ⟨(n - k).toNat, by rw [if_pos h]; omega, .inr (by omega)⟩
    · exact ⟨k.toNat, by rw [if_neg h]; omega, .inl rfl⟩
  rw [et]
  have tn : t ≤ n.toNat := by omega
  have ec : ch n.toNat t = ch n.toNat k.toNat := by
    rcases ht with rfl | rfl
    · rfl
    · exact (ch_sym (by omega)).symm
  refine ⟨t, rfl, by omega, by omega, for_range (lo := 0) (n := ((t : Nat) : Int).toNat) (fun i σ H2 => ∃ u3 : Option V, σ = [some (.int n), some (.int k), some (.int (ch n.toNat i)), u3] ∧ Same H H2) ⟨none, by rw [ch_zero]; rfl, Same.refl _⟩ ?_ ?_⟩
  · rintro i σ H2 hi ⟨u3, rfl, sm⟩
    refine ⟨_, rfl, _, rfl, _, rfl, _, _, rfl, rfl, _, _, rfl, rfl, .inr ⟨by omega, by omega⟩, _, rfl, _, _, rfl, rfl, _, _, rfl, rfl, ⟨by omega, by omega⟩, ?_⟩
    have e := ch_div n.toNat i (by omega)
    have en : ((n.toNat : Nat) : Int) = n := by omega
    rw [en] at e
    refine ⟨some (.int (0 + (i : Int))), ?_, sm⟩
    show [some (V.int n), some (V.int k), some (V.int (((ch n.toNat i : Nat) : Int) * (n - (0 + (i : Int))) / (0 + (i : Int) + 1))), some (V.int (0 + (i : Int)))] = _
    rw [Int.zero_add, e]
  · rintro σ H2 ⟨u3, rfl, sm⟩
    have := q H2 sm
    rw [← ec] at this
    exact ⟨_, rfl, this⟩
end
def spAt : Sp := fun vs H Q _ => ∃ (h m n : Int), vs = [.int h, .int m, .int n] ∧ 0 ≤ h ∧ h ≤ 60 ∧ 0 ≤ m ∧ 0 ≤ n ∧ n < (ch h.toNat m.toNat : Int) ∧
  ∀ (p : Addr) (w : List Int) (H' : Hp), H' p = some (.tup (w.map V.int)) → (cw h.toNat 0 m.toNat)[n.toNat]? = some w → Same H H' → Q (.ref p) H'
theorem drop_more {α : Type} {xs : List α} {i : Nat} {x : α} (h : xs[i]? = some x) : xs.drop i = x :: xs.drop (i + 1) := by
  obtain ⟨hi, e⟩ := List.getElem?_eq_some_iff.mp h
  rw [List.drop_eq_getElem_cons hi, e]
section
variable {P : Program} {w : World} {K : PySem.W.Frag} {mg : Str → Option Value} {base : Heap}
theorem sc_word_at : FnScope ["holes", "many", "number", "word", "left", "place", "having"] ["holes", "many", "number"] (defScope s_word_at) := ⟨rfl, rfl, rfl, by decide +kernel, rfl, by decide +kernel, by decide +kernel⟩
theorem ok_word_at {f f_choose : Addr} {fd d_choose : FuncData} (F : Fun K "word_at" "word_at" s_word_at f fd)
    (G_choose : FnOk P w K mg base CX0 1 f_choose d_choose ["n", "k"] (spChoose)) (b_choose : Binds K d_choose ["n", "k"] []) (k_choose : PySem.W.keepIn K (.ref f_choose) = true) (m_choose : mg "choose" = some (.ref f_choose))
    (mz_len : mg "len" = none) :
    FnOk P w K mg base CX0 2 f fd ["holes", "many", "number"] (spAt) := by
  refine F.ok sc_word_at (fun vs H Q E h => ?_) (fun cdv A outer s H vs Q E hr h => ?_)
  · obtain ⟨h, m, n, rfl, _⟩ := h
    rfl
  obtain ⟨h, m, n, rfl, h0, h1, m0, n0, n1, q⟩ := h
  have hr1 : Room 1 _ := hr.mono (by decide)
  have hu := hu_of hr
  have hu64 := hr.units
  refine ⟨_, pss_cons (ps_if (PW.pt (pw_or (pt_cmpR op_lt (pv 2) pe_int (nomark _)) (pw_or1 (pt_cmpR op_ge (pv 2) (pe_call G_choose hr1 rfl m_choose k_choose b_choose .nil pass0 (pa_cons (pv 0) (pa_cons (pv 1) pa_nil))) (nomark _)))))
    (pss_one ps_never) pss_nil)
    (pss_cons (ps_set (i := 3) sc_word_at.nd rfl (Or.inl rfl) (pe_tup pa_nil))
    (pss_cons (ps_set (i := 4) sc_word_at.nd rfl (Or.inl rfl) (pv 2))
    (pss_cons (ps_set (i := 5) sc_word_at.nd rfl (Or.inl rfl) pe_int)
    (pss_cons (ps_while PassesOwn.never (pt_cmpR op_lt (pe_callB (r := rLen K) len_ok rfl mz_len (by decide +kernel) (pa_cons (pv 3) pa_nil)) (pv 1) (nomark _))
    (pss_cons (ps_set (i := 6) sc_word_at.nd rfl (Or.inl rfl) (pe_call G_choose hr1 rfl m_choose k_choose b_choose .nil pass0 (pa_cons (pe_op op_sub (pe_op op_sub (pv 0) pe_int) (pv 5)) (pa_cons (pe_op op_sub (pe_op op_sub (pv 1) (pe_callB (r := rLen K) len_ok rfl mz_len (by decide +kernel) (pa_cons (pv 3) pa_nil))) pe_int) pa_nil))))
      (pss_cons (ps_if (pt_cmpR op_lt (pv 4) (pv 6) (nomark _))
      (pss_one (ps_set (i := 3) sc_word_at.nd rfl (Or.inl rfl) (pe_op (r := rCatX K) op_catX (pv 3) (pe_tup (pa_cons (pv 5) pa_nil))))) (pss_one (ps_aug (i := 4) sc_word_at.nd rfl (Or.inl rfl) (pv 6) ip_sub)))
      (pss_one (ps_aug (i := 5) sc_word_at.nd rfl (Or.inl rfl) pe_int ip_add)))))
    (pss_one (ps_ret (pv 3))))))), ?_⟩
  have mh : m.toNat ≤ h.toNat := Nat.le_of_not_lt fun z => by rw [ch_above z] at n1; omega
  refine ⟨_, rfl, _, _, rfl, rfl, _, rfl, ?_⟩
  rw [decide_eq_false (by omega : ¬ n < 0)]
  refine iteF ⟨_, rfl, _, rfl, _, rfl, h, m, rfl, h0, by omega, m0, fun H1 s1 => ⟨_, _, rfl, rfl, _, rfl, ?_⟩⟩
  rw [decide_eq_false (by omega : ¬ (ch h.toNat m.toNat : Int) ≤ n)]
  refine iteF ⟨sz, fun p0 np0 => ?_⟩
  have s2 := s1.trans (same_new np0 (.tup []))
  have ep0 := upd_same (H := H1) (a := p0) (o := .tup [])
  generalize upd H1 p0 (.tup []) = H2 at s2 ep0
  obtain ⟨tg, etg⟩ : ∃ tg, (cw h.toNat 0 m.toNat)[n.toNat]? = some tg := by
    have : n.toNat < (cw h.toNat 0 m.toNat).length := by rw [cw_len]; omega
    exact ⟨_, List.getElem?_eq_getElem this⟩
  have hm : tg.length = m.toNat := (cw_mem.mp (List.mem_of_getElem? etg)).1
  refine ⟨_, rfl, ?_⟩
  refine ⟨fun μ σ H3 => ∃ (p : Addr) (w r : List Int) (lf pl : Nat) (u6 : Option V), σ = [some (.int h), some (.int m), some (.int n), some (.ref p), some (.int lf), some (.int pl), u6] ∧ H3 p = some (.tup (w.map V.int)) ∧ w ++ r = tg ∧ pl ≤ h.toNat ∧ μ = h.toNat - pl ∧ (cw (h.toNat - pl) pl r.length)[lf]? = some r ∧ Same H H3,
    ⟨_, p0, [], tg, n.toNat, 0, none, by rw [Int.toNat_of_nonneg n0]; rfl, ep0, rfl, Nat.zero_le _, rfl, by rw [hm]; exact etg, s2⟩, ?_⟩
  rintro μ σ H3 ⟨p, w, r, lf, pl, u6, rfl, ep, ew, pl0, rfl, er, sm⟩
  have lw : w.length + r.length = m.toNat := by rw [← hm, ← ew, List.length_append]
  refine ⟨_, rfl, p, _, rfl, .inr (SqT.of ep), _, rfl, _, _, rfl, rfl, _, rfl, ?_⟩
  rw [List.length_map]
  match r, lw, er, ew with
  | [], lw, er, ew =>
    rw [decide_eq_false (by simp at lw; omega)]
    refine iteF ⟨_, rfl, ?_⟩
    rw [List.append_nil] at ew
    subst ew
    exact q p w H3 ep etg sm
  | x :: r, lw, er, ew =>
    rw [List.length_cons] at lw er
    rw [decide_eq_true (by omega : (w.length : Int) < m)]
    obtain ⟨d, hd⟩ : ∃ d, h.toNat - pl = d + 1 := by
      cases hd : h.toNat - pl with
      | zero => rw [hd] at er; cases er
      | succ d => exact ⟨d, rfl⟩
    rw [hd, cw_succ] at er
    refine iteT ⟨fun σ' H' => ∃ m', m' < h.toNat - pl ∧ _, fun σ' H' z => z, ?_⟩
    refine ⟨_, rfl, _, _, rfl, rfl, _, rfl, _, _, rfl, rfl, _, rfl, _, rfl, p, _, rfl, .inr (SqT.of ep), _, _, rfl, rfl, _, _, rfl, rfl, h - 1 - pl, m - (w.map V.int).length - 1, rfl, by omega, by omega, by rw [List.length_map]; omega, fun H4 s4 => ?_⟩
    have e1 : (h - 1 - (pl : Int)).toNat = d := by omega
    have e2 : (m - ((w.map V.int).length : Int) - 1).toNat = r.length := by rw [List.length_map]; omega
    rw [e1, e2]
    have sm4 := sm.trans s4
    have ep4 := s4 _ _ ep
    refine ⟨_, rfl, _, rfl, _, _, rfl, rfl, _, rfl, ite2 (fun hl => ?_) (fun hl => ?_)⟩
    · have hl' : lf < ch d r.length := by have := of_decide_eq_true hl; omega
      rw [List.getElem?_append_left (by rw [List.length_map, cw_len]; exact hl'), List.getElem?_map] at er
      cases hv : (cw d ((pl : Int) + 1) r.length)[lf]? with
      | none => rw [hv] at er; cases er
      | some v =>
        rw [hv] at er
        have er' : (pl : Int) :: v = x :: r := Option.some.inj er
        injection er' with ex evr
        subst ex evr
        have fin : ∀ (p' : Addr) (H5 : Hp), H5 p' = some (.tup ((w ++ [(pl : Int)]).map V.int)) → Same H H5 → ∃ m', m' < h.toNat - pl ∧ ∃ (p : Addr) (w' r' : List Int) (lf' pl' : Nat) (u6 : Option V), [some (V.int h), some (.int m), some (.int n), some (.ref p'), some (.int lf), some (.int ((pl : Int) + 1)), some (.int (ch d v.length))] = [some (.int h), some (.int m), some (.int n), some (.ref p), some (.int lf'), some (.int pl'), u6] ∧ H5 p = some (.tup (w'.map V.int)) ∧ w' ++ r' = tg ∧ pl' ≤ h.toNat ∧ m' = h.toNat - pl' ∧ (cw (h.toNat - pl') pl' r'.length)[lf']? = some r' ∧ Same H H5 := fun p' H5 e5 s5 =>
          ⟨_, (by omega : h.toNat - (pl + 1) < h.toNat - pl), p', w ++ [(pl : Int)], v, lf, pl + 1, some (.int (ch d v.length)), (by rw [show ((pl + 1 : Nat) : Int) = (pl : Int) + 1 by omega]), e5, by rw [← ew, List.append_assoc]; rfl, by omega, rfl, by rw [show h.toNat - (pl + 1) = d by omega, show ((pl + 1 : Nat) : Int) = (pl : Int) + 1 by omega]; exact hv, s5⟩
        refine ⟨_, rfl, _, rfl, sz, fun p5 np5 => ?_⟩
        have s5 := same_new np5 (.tup [V.int (pl : Int)])
        refine ⟨p, p5, _, _, rfl, rfl, SqT.of (s5 _ _ ep4), SqT.of upd_same, (by rw [List.length_map]; exact sz2 (by rw [List.length_singleton]; omega)), fun hw => ?_, fun z => (nomatch z), fun p6 np6 => ?_⟩
        · have hw' : w = [] := by simpa using hw
          subst hw'
          exact ⟨_, rfl, _, _, rfl, rfl, fin p5 _ upd_same (sm4.trans s5)⟩
        · refine ⟨_, rfl, _, _, rfl, rfl, fin p6 _ (by rw [upd_same, List.map_append]; rfl) ((sm4.trans s5).trans (same_new np6 _))⟩
    · have hl' : ch d r.length ≤ lf := by
        have : ¬ (lf : Int) < (ch d r.length : Int) := fun z => hl (decide_eq_true z)
        omega
      rw [List.getElem?_append_right (by rw [List.length_map, cw_len]; exact hl'), List.length_map, cw_len] at er
      refine ⟨_, rfl, _, rfl, _, _, rfl, rfl, _, rfl, _, _, rfl, rfl, ?_⟩
      refine ⟨_, (by omega : h.toNat - (pl + 1) < h.toNat - pl), p, w, x :: r, lf - ch d r.length, pl + 1, some (.int (ch d r.length)), ?_, ep4, ew, by omega, rfl, by rw [show h.toNat - (pl + 1) = d by omega, show ((pl + 1 : Nat) : Int) = (pl : Int) + 1 by omega, List.length_cons]; exact er, sm4⟩
      have e3 : ((lf - ch d r.length : Nat) : Int) = (lf : Int) - (ch d r.length : Int) := by omega
      have e4 : ((pl + 1 : Nat) : Int) = (pl : Int) + 1 := by omega
      rw [e3, e4]
      rfl
end
def spWordsOf : Sp := fun vs H Q _ => ∃ (h m : Int), vs = [.int h, .int m] ∧ 0 ≤ h ∧ h ≤ 20 ∧ 0 ≤ m ∧
  ∀ (p : Addr) (ps : List (Addr × List Int)) (H' : Hp), H p = none → H' p = some (.lst ((ps.map (·.1)).map V.ref)) → Ws (hide p H') ps → ps.map (·.2) = cw h.toNat 0 m.toNat → Same H H' → Q (.ref p) H'
theorem Ws.unhide {H : Hp} {p : Addr} {ps : List (Addr × List Int)} (h : Ws (hide p H) ps) : Ws H ps := h.same hide_in
section
variable {P : Program} {w : World} {K : PySem.W.Frag} {mg : Str → Option Value} {base : Heap}
theorem sc_words_of : FnScope ["holes", "many"] ["holes", "many"] (defScope s_words_of) := ⟨rfl, rfl, rfl, by decide +kernel, rfl, by decide +kernel, by decide +kernel⟩
theorem ok_words_of {f f_choose f_word_at : Addr} {fd d_choose d_word_at : FuncData} (F : Fun K "words_of" "words_of" s_words_of f fd)
    (G_choose : FnOk P w K mg base CX0 1 f_choose d_choose ["n", "k"] (spChoose)) (b_choose : Binds K d_choose ["n", "k"] []) (k_choose : PySem.W.keepIn K (.ref f_choose) = true) (m_choose : mg "choose" = some (.ref f_choose))
    (G_word_at : FnOk P w K mg base CX0 2 f_word_at d_word_at ["holes", "many", "number"] (spAt)) (b_word_at : Binds K d_word_at ["holes", "many", "number"] []) (k_word_at : PySem.W.keepIn K (.ref f_word_at) = true) (m_word_at : mg "word_at" = some (.ref f_word_at))
    (mz_range : mg "range" = none) :
    FnOk P w K mg base CX0 3 f fd ["holes", "many"] (spWordsOf) := by
  refine F.ok sc_words_of (fun vs H Q E h => ?_) (fun cdv A outer s H vs Q E hr h => ?_)
  · obtain ⟨h, m, rfl, _⟩ := h
    rfl
  obtain ⟨h, m, rfl, h0, h1, m0, q⟩ := h
  have hr1 : Room 1 _ := hr.mono (by decide)
  have hr2 : Room 2 _ := hr.mono (by decide)
  have hu := hu_of hr
  have hu64 := hr.units
  have CS1 : ∀ {scope : Scope} (h : scope = { kind := .function, names := [(".0", .local), ("number", .local), ("word_at", .globalImplicit), ("holes", .free), ("many", .free)], isGenerator := false, isCoroutine := false }),
      CompScope (cxOf CX0 P w K mg base ["holes", "many"] "words_of" (defScope s_words_of) f cdv A outer s H E).nox scope [("many", s.heap.objs.size + 2), ("holes", s.heap.objs.size + 1)] "number" ["holes", "many"] [0, 1] := by
    rintro scope rfl
    refine ⟨by rfl, by decide +kernel, by rfl, by decide +kernel, by rfl, fun y c h => ?_, by rfl, by decide +kernel, rfl, fun k y j e1 e2 => ?_⟩
    · have z := lookup_mem h
      simp only [List.mem_cons, List.not_mem_nil, or_false, Prod.mk.injEq] at z
      rcases z with ⟨rfl, rfl⟩ | ⟨rfl, rfl⟩ <;> rfl
    · match k, e1, e2 with
      | 0, e1, e2 => cases e1; cases e2; exact ⟨rfl, rfl, .inl rfl⟩
      | 1, e1, e2 => cases e1; cases e2; exact ⟨rfl, rfl, .inl rfl⟩
      | k + 2, e1, e2 => cases e1
  refine ⟨_, pss_one (ps_ret (pe_comp (CS1 rfl) rfl (pi_range1 rfl mz_range (pa_cons (pe_call G_choose hr1 rfl m_choose k_choose b_choose .nil pass0 (pa_cons (pv 0) (pa_cons (pv 1) pa_nil))) pa_nil)) (fun _ _ _ => pts_none) (fun _ _ _ => pe_call G_word_at hr2 rfl m_word_at k_word_at b_word_at .nil pass0 (pa_cons (pv 1) (pa_cons (pv 2) (pa_cons (pv 0) pa_nil)))))), ?_⟩
  have c20 : (ch h.toNat m.toNat : Int) ≤ 1048576 := by
    have h1' := ch_le h.toNat m.toNat
    have h2 : 2 ^ h.toNat ≤ 2 ^ 20 := Nat.pow_le_pow_right (by decide) (by omega)
    have h3 : (2 : Nat) ^ 20 = 1048576 := by decide
    omega
  refine ⟨_, rfl, _, rfl, h, m, rfl, h0, by omega, m0, fun H1 s1 => ⟨_, rfl, by omega, by omega, ?_⟩⟩
  rw [Int.toNat_natCast]
  refine comp_by (walked_range (lo := 0) (n := ch h.toNat m.toNat)) (by rw [List.length_map, List.length_range, sizeLine_eq]; omega) (fun D i acc G => ∃ ps : List (Addr × List Int), acc = (ps.map (·.1)).map V.ref ∧ Ws (hide D G) ps ∧ ps.map (·.2) = (cw h.toNat 0 m.toNat).take i ∧ Same H1 G)
    (fun D nD => ⟨[], rfl, fun _ z => (nomatch z), rfl, same_new nD _⟩) (fun _ _ _ _ _ => trivial) ?_ ?_
  · rintro D i x acc G nD hx ha ⟨ps, rfl, hw, ew, sm⟩
    have il : i < ch h.toNat m.toNat := by
      have := (List.getElem?_eq_some_iff.mp hx).1
      rwa [List.length_map, List.length_range] at this
    have ex : x = .int (0 + i) := by
      rw [List.getElem?_map, List.getElem?_range il] at hx
      exact (Option.some.inj hx).symm
    subst ex
    refine noTest ⟨_, rfl, _, rfl, _, rfl, h, m, 0 + (i : Int), rfl, h0, by omega, m0, by omega, by omega, fun p w G2 ep e1 s2 => ?_⟩
    rw [show (0 + (i : Int)).toNat = i by omega] at e1
    have eD := s2 _ _ ha
    have pD : p ≠ D := ne_of ep eD (by intro z; cases z)
    refine ⟨eD, ps ++ [(p, w)], by simp, ?_, ?_, same_upd nD (sm.trans s2)⟩
    · rw [hide_upd]
      intro y hy
      rcases List.mem_append.mp hy with z | z
      · exact hide_same s2 _ _ (hw y z)
      · have : y = (p, w) := by simpa using z
        rw [this, hide_ne pD]
        exact ep
    · rw [List.map_append, ew, take_more e1]
      rfl
  · rintro D acc G nD ha ⟨ps, rfl, hw, ew, sm⟩
    rw [List.length_map, List.length_range, ← cw_len h.toNat 0 m.toNat, List.take_length] at ew
    exact q D ps G (s1.free nD) ha hw ew (s1.trans sm)
end
end K23
namespace K23
open PySem L2 Nd
def CutOf (c : Addr → List Int) (rs : List Addr) (ms : List Int) (ts : List Int) : Prop := Rising 60 ts ∧ ∀ x, x ∈ ts ↔ ∃ m ∈ ms, ∃ r, rs[m.toNat]? = some r ∧ x ∈ c r
theorem CutOf.eq {c : Addr → List Int} {rs : List Addr} {ms ts us : List Int} (h : CutOf c rs ms ts) (h' : CutOf c rs ms us) : ts = us := rising_eq h.1.1 h'.1.1 fun x => (h.2 x).trans (h'.2 x).symm
def spCut (K : PySem.W.Frag) : Sp := fun vs H Q _ => ∃ (a b : Addr) (rs : List Addr) (c : Addr → List Int) (ms : List Int), vs = [.ref a, .ref b] ∧ SqL K H a (rs.map V.ref) ∧ (∀ r ∈ rs, SqT K H r ((c r).map V.int) ∧ Rising 60 (c r)) ∧ SqL K H b (ms.map V.int) ∧ (∀ m ∈ ms, 0 ≤ m ∧ m < (rs.length : Int)) ∧ ms.length ≤ 60 ∧
  ∀ (p : Addr) (ts : List Int) (H' : Hp), H p = none → H' p = some (.tup (ts.map V.int)) → CutOf c rs ms ts → Same H H' → Q (.ref p) H'
theorem at_num {rs : List Addr} {m : Int} (h0 : 0 ≤ m) (h1 : m < (rs.length : Int)) : ∃ r, atI (rs.map V.ref) m = some (.ref r) ∧ rs[m.toNat]? = some r ∧ r ∈ rs := by
  have hk : m.toNat < rs.length := by omega
  have ek : m = ((m.toNat : Nat) : Int) := by omega
  refine ⟨rs[m.toNat], ?_, by simp [hk], List.getElem_mem hk⟩
  have q : atI (rs.map V.ref) ((m.toNat : Nat) : Int) = some (.ref rs[m.toNat]) := atI_nat (by simp [hk])
  rw [← ek] at q
  exact q
theorem CutOf.nil {c : Addr → List Int} {rs : List Addr} : CutOf c rs [] [] := ⟨Rising.nil _, fun x => ⟨fun h => (nomatch h), fun ⟨_, h, _⟩ => (nomatch h)⟩⟩
theorem CutOf.more {c : Addr → List Int} {rs : List Addr} {ms ts us : List Int} {m : Int} {r : Addr} (h : CutOf c rs ms ts) (hr : rs[m.toNat]? = some r) (rr : Rising 60 (c r)) (nd : us.Nodup) (pw : us.Pairwise (· ≤ ·)) (mem : ∀ x, x ∈ us ↔ x ∈ ts ∨ x ∈ c r) : CutOf c rs (ms ++ [m]) us := by
  refine ⟨⟨strict_of nd pw, fun x hx => ?_⟩, fun x => ?_⟩
  · rcases (mem x).mp hx with z | z
    · exact h.1.2 x z
    · exact rr.2 x z
  · rw [mem, h.2]
    constructor
    · rintro (⟨m', h1, r', h2, h3⟩ | h1)
      · exact ⟨m', List.mem_append_left _ h1, r', h2, h3⟩
      · exact ⟨m, List.mem_append_right _ (List.mem_singleton.mpr rfl), r, hr, h1⟩
    · rintro ⟨m', h1, r', h2, h3⟩
      rcases List.mem_append.mp h1 with z | z
      · exact .inl ⟨m', z, r', h2, h3⟩
      · rw [List.mem_singleton.mp z, hr] at h2
        cases h2
        exact .inr h3
theorem int_at {ms : List Int} {i : Nat} {x : V} (h : (ms.map V.int)[i]? = some x) : ∃ m, x = .int m ∧ m ∈ ms ∧ ms.take (i + 1) = ms.take i ++ [m] := by
  rw [List.getElem?_map] at h
  cases e : ms[i]? with
  | none => rw [e] at h; cases h
  | some m => rw [e] at h; cases h; exact ⟨m, rfl, List.mem_of_getElem? e, take_more e⟩
section
variable {P : Program} {w : World} {K : PySem.W.Frag} {mg : Str → Option Value} {base : Heap}
theorem scCI : FnScope ["code", "numbers", "word", "number"] ["code", "numbers"] (defScope s_cut_in) := ⟨rfl, rfl, rfl, by decide +kernel, rfl, by decide +kernel, by decide +kernel⟩
theorem ok_cut_in {f g : Addr} {fd gd : FuncData} (F : Fun K "cut_in" "cut_in" s_cut_in f fd) (G_T : FnOk P w K mg base CX0 1 g gd ["one", "other"] (spTog K)) (b_T : Binds K gd ["one", "other"] []) (k_T : PySem.W.keepIn K (.ref g) = true) (m_T : mg "together" = some (.ref g)) :
    FnOk P w K mg base CX0 2 f fd ["code", "numbers"] (spCut K) := by
  refine F.ok scCI (fun vs H Q E h => ?_) (fun cdv A outer s H vs Q E hr h => ?_)
  · obtain ⟨a, b, rs, c, ms, rfl, _⟩ := h
    rfl
  obtain ⟨a, b, rs, c, ms, rfl, hA, hC, hB, hm, m60, q⟩ := h
  have hr1 : Room 1 _ := hr.mono (by decide)
  refine ⟨_, pss_cons (ps_set (i := 2) scCI.nd rfl (Or.inl rfl) (pe_tup pa_nil))
    (pss_cons (ps_for PassesOwn.never rfl (pi_list (pv 1)) (pg_name (i := 3) scCI.nd rfl (Or.inl rfl))
    (pss_one (ps_set (i := 2) scCI.nd rfl (Or.inl rfl) (pe_call G_T hr1 rfl m_T k_T b_T .nil pass0 (pa_cons (pv 2) (pa_cons (pe_ix ix_list (pv 0) (pv 3) (fun _ _ => rfl)) pa_nil))))))
    (pss_one (ps_ret (pv 2)))), ?_⟩
  refine ⟨sz, fun p0 np0 => ?_⟩
  have s0 := same_new np0 (.tup [])
  refine ⟨_, rfl, b, rfl, ⟨_, Same.seq s0 hB⟩, for_list (K := K) (a := b) (xs := ms.map V.int) (fun i σ H2 => ∃ (p : Addr) (ts : List Int) (u3 : Option V), σ = [some (.ref a), some (.ref b), some (.ref p), u3] ∧ H p = none ∧ H2 p = some (.tup (ts.map V.int)) ∧ CutOf c rs (ms.take i) ts ∧ Same H H2)
    ⟨p0, [], none, rfl, np0, upd_same, CutOf.nil, s0⟩ (fun i σ H2 _ ⟨_, _, _, _, _, _, _, sm⟩ => Same.seq sm hB) ?_ ?_⟩
  · rintro i x σ H2 hx ⟨p, ts, u3, rfl, np, ep, ct, sm⟩
    obtain ⟨m, rfl, mm, tk⟩ := int_at hx
    obtain ⟨r, ar, er, mr⟩ := at_num (hm m mm).1 (hm m mm).2
    refine ⟨_, rfl, _, rfl, _, rfl, a, _, _, _, rfl, rfl, Same.seq sm hA, ar, ?_⟩
    refine ⟨p, r, ts, c r, rfl, SqT.of ep, Same.tup sm (hC r mr).1, ct.1, (hC r mr).2, fun t us H3 nt et nd pw mem s3 => ?_⟩
    refine ⟨t, us, _, rfl, sm.free nt, et, ?_, sm.trans s3⟩
    rw [tk]
    exact ct.more er (hC r mr).2 nd pw fun x => (mem x).trans List.mem_append
  · rintro σ H2 ⟨p, ts, u3, rfl, np, ep, ct, sm⟩
    rw [List.length_map, List.take_length] at ct
    exact ⟨_, rfl, q p ts H2 np ep ct sm⟩
theorem scLC : FnScope ["_law_code_here", "_law_numbers", "_law_told", "_law_number"] ["_law_code_here", "_law_numbers"] (defScope s__law_cut) := ⟨rfl, rfl, rfl, by decide +kernel, rfl, by decide +kernel, by decide +kernel⟩
theorem in_ints {i : Int} {ms : List Int} : inV (.int i) (ms.map V.int) = true ↔ i ∈ ms := by
  unfold inV
  rw [List.any_map, List.any_eq_true]
  constructor
  · rintro ⟨x, h1, h2⟩
    have : x = i := by simpa [eqV] using h2
    rw [← this]; exact h1
  · intro h
    exact ⟨i, h, by simp [eqV]⟩
theorem ok_lcut {f : Addr} {fd : FuncData} (F : Fun K "_law_cut" "_law_cut" s__law_cut f fd) (mz_tuple : mg "tuple" = none) (mz_sorted : mg "sorted" = none) :
    FnOk P w K mg base CX0 1 f fd ["_law_code_here", "_law_numbers"] (spCut K) := by
  refine F.ok scLC (fun vs H Q E h => ?_) (fun cdv A outer s H vs Q E hr h => ?_)
  · obtain ⟨a, b, rs, c, ms, rfl, _⟩ := h
    rfl
  obtain ⟨a, b, rs, c, ms, rfl, hA, hC, hB, hm, m60, q⟩ := h
  have CS1 : ∀ {scope : Scope} (h : scope = { kind := .function, names := [(".0", .local), ("_law_place", .local), ("_law_told", .free)], isGenerator := false, isCoroutine := false }),
      CompScope (cxOf CX0 P w K mg base ["_law_code_here", "_law_numbers", "_law_told", "_law_number"] "_law_cut" (defScope s__law_cut) f cdv A outer s H E).nox scope [("_law_told", s.heap.objs.size + 1)] "_law_place" ["_law_told"] [2] := by
    rintro scope rfl
    refine ⟨by rfl, by decide +kernel, by rfl, by decide +kernel, by rfl, fun y c h => ?_, by rfl, by decide +kernel, rfl, fun k y j e1 e2 => ?_⟩
    · have z := lookup_mem h
      simp only [List.mem_cons, List.not_mem_nil, or_false, Prod.mk.injEq] at z
      obtain ⟨rfl, rfl⟩ := z; rfl
    · match k, e1, e2 with
      | 0, e1, e2 => cases e1; cases e2; exact ⟨rfl, rfl, .inl rfl⟩
      | k + 1, e1, e2 => cases e1
  refine ⟨_, pss_cons (ps_set (i := 2) scLC.nd rfl (Or.inr rfl) (pe_lst pa_nil))
    (pss_cons (ps_for PassesOwn.never rfl (pi_list (pv 1)) (pg_name (i := 3) scLC.nd rfl (Or.inl rfl))
    (pss_one (ps_set (i := 2) scLC.nd rfl (Or.inr rfl) (pe_op op_cat (pv 2) (pe_comp (CS1 rfl) rfl (pi_tup (pe_ix ix_list (pv 0) (pv 3) (fun _ _ => rfl))) (fun _ _ _ => pts_one (pt_cmpR (r := rIn K true) op_notIn_seq (pv 0) (pv 1) (by with_unfolding_all rfl))) (fun _ _ _ => pv 0))))))
    (pss_one (ps_ret (pe_callTy call_tuple_of rfl mz_tuple (by decide +kernel) (pa_cons (pe_callB (r := rSortedL K) call_sortedL rfl mz_sorted (by decide +kernel) (pa_cons (pv 2) pa_nil)) pa_nil))))), ?_⟩
  refine ⟨sz, fun p0 np0 => ?_⟩
  have s0 := same_new np0 (.lst [])
  refine ⟨_, rfl, b, rfl, ⟨_, Same.seq s0 hB⟩, for_list (K := K) (a := b) (xs := ms.map V.int) (fun i σ H2 => ∃ (p : Addr) (ts : List Int) (u3 : Option V), σ = [some (.ref a), some (.ref b), some (.ref p), u3] ∧ H p = none ∧ H2 p = some (.lst (ts.map V.int)) ∧ ts.Nodup ∧ (∀ x ∈ ts, 0 ≤ x ∧ x < 60) ∧ (∀ x, x ∈ ts ↔ ∃ m ∈ ms.take i, ∃ r, rs[m.toNat]? = some r ∧ x ∈ c r) ∧ Same H H2)
    ⟨p0, [], none, rfl, np0, upd_same, List.nodup_nil, fun _ z => (nomatch z), fun x => ⟨fun h => (nomatch h), fun ⟨_, h, _⟩ => (nomatch h)⟩, s0⟩ (fun i σ H2 _ ⟨_, _, _, _, _, _, _, _, _, sm⟩ => Same.seq sm hB) ?_ ?_⟩
  · rintro i x σ H2 hx ⟨p, ts, u3, rfl, np, ep, nd, bd, mem, sm⟩
    obtain ⟨m, rfl, mm, tk⟩ := int_at hx
    obtain ⟨r, ar, er, mr⟩ := at_num (hm m mm).1 (hm m mm).2
    have hr60 : (c r).length ≤ 60 := Nat.le_trans (NdS.len_leI ((hC r mr).2.1.imp fun {x y} h => Int.ne_of_lt h) fun e he => mem_U60 ((hC r mr).2.2 e he).1 ((hC r mr).2.2 e he).2) (by decide)
    have ht60 : ts.length ≤ 60 := Nat.le_trans (NdS.len_leI nd fun e he => mem_U60 (bd e he).1 (bd e he).2) (by decide)
    refine ⟨_, rfl, _, rfl, _, rfl, a, _, _, _, rfl, rfl, Same.seq sm hA, ar, r, rfl, ⟨_, Same.tup sm (hC r mr).1⟩, ?_⟩
    refine comp_pure (walked_tup (xs := (c r).map V.int)) (by rw [List.length_map]; exact sz (by omega)) (fun x => !inV x (ts.map V.int)) (fun x => x) (fun H' s' => Same.tup (sm.trans s') (hC r mr).1) ?_ (fun x _ _ H' _ Q' k => ⟨_, rfl, k H' (Same.refl _)⟩) ?_
    · intro y hy H' s' Q' k
      obtain ⟨j, _, rfl⟩ := mem_int hy
      exact ⟨_, rfl, _, rfl, p, _, rfl, .inl (SqL.of (s' _ _ ep)), rfl, flat_ints ts, _, rfl, k H' (Same.refl _)⟩
    · intro D H3 nD eD s3
      rw [filt_ints] at eD
      have lf := List.length_filter_le (fun i => !inV (.int i) (ts.map V.int)) (c r)
      refine ⟨p, D, _, _, rfl, rfl, s3 _ _ ep, eD, (by rw [List.length_map, List.length_map]; exact sz (by omega)), fun p4 np4 => ?_⟩
      rw [← List.map_append]
      refine ⟨p4, _, _, rfl, (sm.trans s3).free np4, upd_same, ?_, ?_, ?_, (sm.trans s3).trans (same_new np4 _)⟩
      · refine List.nodup_append.mpr ⟨nd, (List.Pairwise.filter _ (hC r mr).2.1).imp fun {x y} h => Int.ne_of_lt h, fun x hx y hy e => ?_⟩
        subst e
        have := (List.mem_filter.mp hy).2
        rw [in_ints.mpr hx] at this
        cases this
      · intro x hx
        rcases List.mem_append.mp hx with z | z
        · exact bd x z
        · exact (hC r mr).2.2 x (List.mem_filter.mp z).1
      · intro x
        rw [tk, List.mem_append, mem, List.mem_filter]
        constructor
        · rintro (⟨m', h1, r', h2, h3⟩ | h1)
          · exact ⟨m', List.mem_append_left _ h1, r', h2, h3⟩
          · exact ⟨m, List.mem_append_right _ (List.mem_singleton.mpr rfl), r, er, h1.1⟩
        · rintro ⟨m', h1, r', h2, h3⟩
          by_cases hx : x ∈ ts
          · exact .inl ((mem x).mp hx)
          · rcases List.mem_append.mp h1 with z | z
            · exact .inl ⟨m', z, r', h2, h3⟩
            · rw [List.mem_singleton.mp z, er] at h2
              cases h2
              refine .inr ⟨h3, ?_⟩
              cases hin : inV (.int x) (ts.map V.int) with
              | false => rfl
              | true => exact absurd (in_ints.mp hin) hx
  · rintro σ H2 ⟨p, ts, u3, rfl, np, ep, nd, bd, mem, sm⟩
    rw [List.length_map, List.take_length] at mem
    have ht60 : ts.length ≤ 60 := Nat.le_trans (NdS.len_leI nd fun e he => mem_U60 (bd e he).1 (bd e he).2) (by decide)
    refine ⟨_, rfl, p, ts, rfl, SqL.of ep, by omega, fun p5 us np5 pe pw => ?_⟩
    have s5 := same_new np5 (.lst (us.map V.int))
    refine ⟨p5, _, rfl, .inl ⟨SqL.of upd_same, fun p6 np6 => ?_⟩⟩
    have s6 := same_new np6 (.tup (us.map V.int))
    refine q p6 us _ ((sm.trans s5).free np6) upd_same ⟨⟨strict_of (pe.nodup_iff.mpr nd) pw, fun x hx => bd x (pe.mem_iff.mp hx)⟩, fun x => pe.mem_iff.trans (mem x)⟩ ((sm.trans s5).trans s6)
end
end K23
namespace K23
open PySem L2 Nd
def Ls (H : Hp) (ps : List (Addr × List Int)) : Prop := ∀ p ∈ ps, H p.1 = some (.lst (p.2.map V.int))
theorem Ls.to {H H' : Hp} {ps : List (Addr × List Int)} (h : Ls H ps) (s : Same H H') : Ls H' ps := fun p hp => s _ _ (h p hp)
def lsts (m s : Nat) : List (List Int) := (List.range (min s m + 1)).flatMap fun k => cw m 0 k
theorem risingAt_len {m : Nat} {w : List Int} (h : RisingAt 0 m w) : w.length ≤ m := by
  have h1 : w ∈ cw m 0 w.length := cw_mem.mpr ⟨rfl, h⟩
  have h2 := List.length_pos_of_mem h1
  rw [cw_len] at h2
  by_cases h3 : w.length ≤ m
  · exact h3
  · rw [ch_above (by omega)] at h2
    exact absurd h2 (Nat.lt_irrefl _)
theorem lsts_mem {m s : Nat} {w : List Int} : w ∈ lsts m s ↔ w.length ≤ s ∧ RisingAt 0 m w := by
  unfold lsts
  rw [List.mem_flatMap]
  constructor
  · rintro ⟨k, hk, hw⟩
    have := List.mem_range.mp hk
    obtain ⟨h1, h2⟩ := cw_mem.mp hw
    exact ⟨by omega, h2⟩
  · rintro ⟨h1, h2⟩
    have := risingAt_len h2
    exact ⟨w.length, List.mem_range.mpr (by omega), cw_mem.mpr ⟨rfl, h2⟩⟩
theorem flat_more (m i : Nat) : (List.range (i + 1)).flatMap (fun k => cw m 0 k) = (List.range i).flatMap (fun k => cw m 0 k) ++ cw m 0 i := by
  rw [List.range_succ, List.flatMap_append, List.flatMap_cons, List.flatMap_nil, List.append_nil]
theorem flat_len {m : Nat} (hm : m ≤ 12) : ∀ i : Nat, ((List.range i).flatMap fun k => cw m 0 k).length ≤ i * 4096
  | 0 => Nat.zero_le _
  | i + 1 => by
    have h1 := flat_len hm i
    have h2 := ch_le m i
    have h3 : 2 ^ m ≤ 2 ^ 12 := Nat.pow_le_pow_right (by decide) hm
    have h4 : (2 : Nat) ^ 12 = 4096 := by decide
    rw [flat_more, List.length_append, cw_len]
    omega
theorem flat_sorted (m : Nat) : ∀ i : Nat, ((List.range i).flatMap fun k => cw m 0 k).Pairwise (fun a b => a.length ≤ b.length) ∧ ∀ w ∈ (List.range i).flatMap (fun k => cw m 0 k), w.length < i
  | 0 => ⟨List.Pairwise.nil, fun _ h => (nomatch h)⟩
  | i + 1 => by
    obtain ⟨h1, h2⟩ := flat_sorted m i
    rw [flat_more]
    refine ⟨List.pairwise_append.mpr ⟨h1, List.pairwise_of_forall_mem_list fun a ha b hb => ?_, fun a ha b hb => ?_⟩, fun w hw => ?_⟩
    · rw [(cw_mem.mp ha).1, (cw_mem.mp hb).1]
      exact Nat.le_refl _
    · rw [(cw_mem.mp hb).1]
      exact Nat.le_of_lt (h2 a ha)
    · rcases List.mem_append.mp hw with z | z
      · have := h2 w z; omega
      · rw [(cw_mem.mp z).1]; omega
def spNLists : Sp := fun vs H Q _ => ∃ (m s : Int), vs = [.int m, .int s] ∧ 0 ≤ m ∧ m ≤ 12 ∧ 0 ≤ s ∧ s ≤ 3 ∧
  ∀ (p : Addr) (ps : List (Addr × List Int)) (H' : Hp), H p = none → H' p = some (.lst ((ps.map (·.1)).map V.ref)) → Ls (hide p H') ps → (∀ q ∈ ps, H q.1 = none) → ps.map (·.2) = lsts m.toNat s.toNat → Same H H' → Q (.ref p) H'
section
variable {P : Program} {w : World} {K : PySem.W.Frag} {mg : Str → Option Value} {base : Heap}
theorem sc_number_lists : FnScope ["many", "several"] ["many", "several"] (defScope s_number_lists) := ⟨rfl, rfl, rfl, by decide +kernel, rfl, by decide +kernel, by decide +kernel⟩
theorem ok_number_lists {f f_words_of : Addr} {fd d_words_of : FuncData} (F : Fun K "number_lists" "number_lists" s_number_lists f fd)
    (G_words_of : FnOk P w K mg base CX0 3 f_words_of d_words_of ["holes", "many"] (spWordsOf)) (b_words_of : Binds K d_words_of ["holes", "many"] []) (k_words_of : PySem.W.keepIn K (.ref f_words_of) = true) (m_words_of : mg "words_of" = some (.ref f_words_of))
    (mz_list : mg "list" = none) (mz_min : mg "min" = none) (mz_range : mg "range" = none) :
    FnOk P w K mg base CX0 4 f fd ["many", "several"] (spNLists) := by
  refine F.ok sc_number_lists (fun vs H Q E h => ?_) (fun cdv A outer s H vs Q E hr h => ?_)
  · obtain ⟨m, sv, rfl, _⟩ := h
    rfl
  obtain ⟨m, sv, rfl, m0, m12, s0, s3, q⟩ := h
  have hr1 : Room 1 _ := hr.mono (by decide)
  have hr2 : Room 2 _ := hr.mono (by decide)
  have hr3 : Room 3 _ := hr.mono (by decide)
  have hu := hu_of hr
  have hu64 := hr.units
  have CS1 : ∀ {scope : Scope} (h : scope = { kind := .function, names := [(".0", .local), ("size", .local), ("word", .local), ("words_of", .globalImplicit), ("list", .globalImplicit), ("many", .free)], isGenerator := false, isCoroutine := false }),
      CompScope (cxOf CX0 P w K mg base ["many", "several"] "number_lists" (defScope s_number_lists) f cdv A outer s H E).nox scope [("many", s.heap.objs.size + 1)] "size" ["many"] [0] := by
    rintro scope rfl
    refine ⟨by rfl, by decide +kernel, by rfl, by decide +kernel, by rfl, fun y c h => ?_, by rfl, by decide +kernel, rfl, fun k y j e1 e2 => ?_⟩
    · have z := lookup_mem h
      simp only [List.mem_cons, List.not_mem_nil, or_false, Prod.mk.injEq] at z
      obtain ⟨rfl, rfl⟩ := z; rfl
    · match k, e1, e2 with
      | 0, e1, e2 => cases e1; cases e2; exact ⟨rfl, rfl, .inl rfl⟩
      | k + 1, e1, e2 => cases e1
  refine ⟨_, pss_one (ps_ret (pe_compN (CS1 rfl) rfl (by decide +kernel) rfl (pi_range1 rfl mz_range (pa_cons (pe_op op_add (pe_callB (call_min2 rfl) rfl mz_min (by decide +kernel) (pa_cons (pv 1) (pa_cons (pv 0) pa_nil))) pe_int) pa_nil)) (fun _ _ _ => pi_listK (K := K) rfl (pe_call G_words_of hr3 rfl m_words_of k_words_of b_words_of .nil pass0 (pa_cons (pv 2) (pa_cons (pv 0) pa_nil)))) (fun _ _ _ => pe_callTy (r := rLstC K) list_ok rfl mz_list (by decide +kernel) (pa_cons (pv 1) pa_nil)))), ?_⟩
  have emin : (if m < sv then m else sv) = ((min sv.toNat m.toNat : Nat) : Int) := by split <;> omega
  refine ⟨_, rfl, _, rfl, sv, m, rfl, _, _, rfl, rfl, (if m < sv then m else sv) + 1, rfl, by omega, by omega, ?_⟩
  have en : ((if m < sv then m else sv) + 1).toNat = min sv.toNat m.toNat + 1 := by rw [emin]; omega
  rw [en]
  refine comp_byN (walked_range (lo := 0) (n := min sv.toNat m.toNat + 1)) (fun D i G => ∃ ps : List (Addr × List Int), G D = some (.lst ((ps.map (·.1)).map V.ref)) ∧ Ls (hide D G) ps ∧ (∀ q ∈ ps, H q.1 = none) ∧ ps.map (·.2) = (List.range i).flatMap (fun k => cw m.toNat 0 k) ∧ Same H G)
    (fun D nD => ⟨[], upd_same, fun _ z => (nomatch z), fun _ z => (nomatch z), rfl, same_new nD _⟩) (fun _ _ _ _ => trivial) ?_ ?_
  · rintro D i x G o nD hx ⟨ps, eD, hL, hF, ew, sm⟩ R hR
    have il : i < min sv.toNat m.toNat + 1 := by
      have := (List.getElem?_eq_some_iff.mp hx).1
      rwa [List.length_map, List.length_range] at this
    have ex : x = .int (0 + i) := by
      rw [List.getElem?_map, List.getElem?_range il] at hx
      exact (Option.some.inj hx).symm
    subst ex
    refine ⟨_, rfl, _, rfl, m, 0 + (i : Int), rfl, m0, by omega, by omega, fun l qs G2 nl el hq eq s2 => ?_⟩
    rw [show (0 + (i : Int)).toNat = i by omega] at eq
    have hq' := K23.Ws.unhide hq
    have lD : D ≠ l := ne_of_none eD nl
    refine ⟨l, rfl, ⟨_, SqL.of el⟩, hR _ _ _ _ (fun j G3 => ∃ ps : List (Addr × List Int), G3 D = some (.lst ((ps.map (·.1)).map V.ref)) ∧ Ls (hide D G3) ps ∧ (∀ q ∈ ps, H q.1 = none) ∧ ps.map (·.2) = (List.range i).flatMap (fun k => cw m.toNat 0 k) ++ (cw m.toNat 0 i).take j ∧ Same H G3 ∧ Same (hide D G2) G3) (walked_list (K := K) (a := l) (xs := (qs.map (·.1)).map V.ref)) ⟨ps, s2 _ _ eD, hL.to (hide_same s2), hF, (by rw [List.take_zero, List.append_nil]; exact ew), sm.trans s2, hide_in⟩ (fun j G3 ⟨_, _, _, _, _, _, s4⟩ => SqL.of (s4 _ _ ((hide_ne (Ne.symm lD)).trans el))) ?_ ?_⟩
    · rintro j y G3 hy ⟨ps3, eD3, hL3, hF3, ew3, sm3, s4⟩ Q' k
      rw [List.getElem?_map, List.getElem?_map] at hy
      cases hv : qs[j]? with
      | none => rw [hv] at hy; cases hy
      | some qv =>
        rw [hv] at hy
        have ey : V.ref qv.1 = y := Option.some.inj hy
        subst ey
        have hqv := hq' qv (List.mem_of_getElem? hv)
        have neq : qv.1 ≠ D := ne_of hqv (s2 _ _ eD) (by intro z; cases z)
        have hqv3 := s4 _ _ ((hide_ne neq).trans hqv)
        have ec : (cw m.toNat 0 i)[j]? = some qv.2 := by rw [← eq, List.getElem?_map, hv]; rfl
        have l1 : ps3.length = ((List.range i).flatMap (fun k => cw m.toNat 0 k) ++ (cw m.toNat 0 i).take j).length := by rw [← ew3, List.length_map]
        have l2 : ps3.length ≤ 20000 := by
          have h1 := flat_len (m := m.toNat) (by omega) i
          have h2 := ch_le m.toNat i
          have h3 : 2 ^ m.toNat ≤ 2 ^ 12 := Nat.pow_le_pow_right (by decide) (by omega)
          have h4 : (2 : Nat) ^ 12 = 4096 := by decide
          rw [List.length_append, List.length_take, cw_len] at l1
          omega
        refine ⟨_, rfl, qv.1, _, rfl, .inr (SqT.of hqv3), fun p np => ?_⟩
        have s5 := same_new np (.lst (qv.2.map V.int))
        have pD : p ≠ D := fun z => by rw [z, eD3] at np; cases np
        refine k _ _ _ (s5 _ _ eD3) (by rw [List.length_map, List.length_map, sizeLine_eq]; omega) ⟨ps3 ++ [(p, qv.2)], ?_, ?_, ?_, ?_, ?_, ?_⟩
        · rw [upd_same]; simp
        · rw [hide_upd]
          intro z hz
          rcases List.mem_append.mp hz with z1 | z1
          · exact hide_same s5 _ _ (hL3 z z1)
          · have : z = (p, qv.2) := by simpa using z1
            rw [this, hide_ne pD]
            exact upd_same
        · intro z hz
          rcases List.mem_append.mp hz with z1 | z1
          · exact hF3 z z1
          · have : z = (p, qv.2) := by simpa using z1
            rw [this]
            exact sm3.free np
        · rw [List.map_append, ew3, take_more ec, List.append_assoc]; rfl
        · exact same_upd nD (sm3.trans s5)
        · intro b ob e
          have bD : b ≠ D := fun z => by rw [z] at e; unfold hide at e; rw [if_pos rfl] at e; cases e
          rw [upd_ne bD]
          exact s5 _ _ (s4 _ _ e)
    · rintro G3 ⟨ps3, eD3, hL3, hF3, ew3, sm3, s4⟩
      have el2 : (cw m.toNat 0 i).take ((qs.map (·.1)).map V.ref).length = cw m.toNat 0 i := List.take_of_length_le (by rw [List.length_map, List.length_map, ← eq, List.length_map]; exact Nat.le_refl _)
      rw [el2, ← flat_more] at ew3
      exact ⟨ps3, eD3, hL3, hF3, ew3, sm3⟩
  · rintro D G nD ⟨ps, eD, hL, hF, ew, sm⟩
    rw [List.length_map, List.length_range] at ew
    exact q D ps G nD eD hL hF ew sm
end
end K23
namespace K23
open PySem L2 Nd
theorem Cards.rise {K : PySem.W.Frag} {H : Hp} {rs : List Addr} {c : Addr → List Int} (h : Cards H rs c) : ∀ r ∈ rs, SqT K H r ((c r).map V.int) ∧ Rising 60 (c r) := fun r hr => ⟨SqT.of (h r hr).2, (h r hr).1.2⟩
theorem ref_at {rs : List Addr} {i : Nat} {x : V} (h : (rs.map V.ref)[i]? = some x) : ∃ r, x = .ref r ∧ rs[i]? = some r ∧ r ∈ rs := by
  rw [List.getElem?_map] at h
  cases e : rs[i]? with
  | none => rw [e] at h; cases h
  | some r => rw [e] at h; cases h; exact ⟨r, rfl, rfl, List.mem_of_getElem? e⟩
theorem pair_at {ps : List (Addr × List Int)} {i : Nat} {x : V} (h : ((ps.map (·.1)).map V.ref)[i]? = some x) : ∃ q, x = .ref q.1 ∧ ps[i]? = some q ∧ q ∈ ps := by
  rw [List.getElem?_map, List.getElem?_map] at h
  cases e : ps[i]? with
  | none => rw [e] at h; cases h
  | some r => rw [e] at h; cases h; exact ⟨r, rfl, rfl, List.mem_of_getElem? e⟩
end K23
namespace K23
open PySem L2 Nd
def spLists : Sp := fun vs H Q _ => ∃ (m s : Int), vs = [.int m, .int s] ∧ 0 ≤ m ∧ m ≤ 12 ∧ 0 ≤ s ∧ s ≤ 3 ∧
  ∀ (p : Addr) (ps : List (Addr × List Int)) (H' : Hp), H p = none → H' p = some (.lst ((ps.map (·.1)).map V.ref)) → Ls H' ps → ps.length ≤ 4000 → (∀ w, w ∈ ps.map (·.2) ↔ (w.length : Int) ≤ s ∧ RisingAt 0 m.toNat w) → (ps.map (·.2)).Nodup → Same H H' → Q (.ref p) H'
def okK (ws : List Int) (k : Int) : Bool := match ws.getLast? with
  | none => true
  | some l => decide (l < k)
theorem snoc_or (ws : List Int) : ws = [] ∨ ∃ vs l, ws = vs ++ [l] := by
  rcases List.eq_nil_or_concat ws with rfl | ⟨vs, l, e⟩
  · exact .inl rfl
  · exact .inr ⟨vs, l, by rw [e, List.concat_eq_append]⟩
theorem RisingAt.nil (m : Nat) : RisingAt 0 m [] := ⟨List.Pairwise.nil, fun _ h => (nomatch h)⟩
theorem rise_snoc {m : Nat} {ws : List Int} {k : Int} (h : RisingAt 0 m ws) (k0 : 0 ≤ k) (k1 : k < m) : okK ws k = true ↔ RisingAt 0 m (ws ++ [k]) := by
  unfold okK
  rcases snoc_or ws with rfl | ⟨vs, l, rfl⟩
  · simp only [List.getLast?_nil, List.nil_append, true_iff]
    exact ⟨List.pairwise_singleton _ _, fun x hx => by rw [List.mem_singleton.mp hx]; omega⟩
  · rw [List.getLast?_concat]
    constructor
    · intro hl
      have hl := of_decide_eq_true hl
      refine ⟨List.pairwise_append.mpr ⟨h.1, List.pairwise_singleton _ _, fun a ha b hb => ?_⟩, fun x hx => ?_⟩
      · rw [List.mem_singleton.mp hb]
        rcases List.mem_append.mp (by simpa using ha : a ∈ vs ++ [l]) with z | z
        · have := (List.pairwise_append.mp (by simpa using h.1 : (vs ++ [l]).Pairwise (· < ·))).2.2 a z l (List.mem_singleton.mpr rfl)
          omega
        · rw [List.mem_singleton.mp z]; exact hl
      · rcases List.mem_append.mp hx with z | z
        · exact h.2 x z
        · rw [List.mem_singleton.mp z]; omega
    · intro hr
      refine decide_eq_true ((List.pairwise_append.mp hr.1).2.2 l ?_ k (List.mem_singleton.mpr rfl))
      simp
theorem last_at {ws : List Int} (h : ws ≠ []) : ∃ l, atI (ws.map V.int) (-1) = some (.int l) ∧ ∀ k, okK ws k = decide (l < k) := by
  rcases snoc_or ws with rfl | ⟨vs, l, rfl⟩
  · exact absurd rfl h
  · refine ⟨l, ?_, fun k => by unfold okK; rw [List.getLast?_concat]⟩
    unfold atI
    rw [List.length_map, List.length_append, List.length_singleton, show ixN (vs.length + 1) (-1) = some vs.length by unfold ixN; rw [if_neg (by decide), if_pos (by omega)]; congr 1; omega]
    simp
theorem pow12 {i : Nat} (h : i ≤ 3) : 12 ^ i ≤ 1728 := Nat.le_trans (Nat.pow_le_pow_right (by decide) h) (by decide)
section
variable {P : Program} {w : World} {K : PySem.W.Frag} {mg : Str → Option Value} {base : Heap}
theorem sc__law_lists : FnScope ["_law_many", "_law_most_of", "_law_told", "_law_last", "_law_turn", "_law_more", "_law_some"] ["_law_many", "_law_most_of"] (defScope s__law_lists) := ⟨rfl, rfl, rfl, by decide +kernel, rfl, by decide +kernel, by decide +kernel⟩
theorem ok_llists {f  : Addr} {fd  : FuncData} (F : Fun K "_law_lists" "_law_lists" s__law_lists f fd)
    (mz_range : mg "range" = none) :
    FnOk P w K mg base CX0 1 f fd ["_law_many", "_law_most_of"] (spLists) := by
  refine F.ok sc__law_lists (fun vs H Q E h => ?_) (fun cdv A outer s H vs Q E hr h => ?_)
  · obtain ⟨m, sv, rfl, _⟩ := h
    rfl
  obtain ⟨m, sv, rfl, m0, m12, s0, s3, q⟩ := h
  have hu := hu_of hr
  have hu64 := hr.units
  have CS1 : ∀ {scope : Scope} (h : scope = { kind := .function, names := [(".0", .local), ("_law_k", .local), ("_law_some", .free)], isGenerator := false, isCoroutine := false }),
      CompScope (cxOf CX0 P w K mg base ["_law_many", "_law_most_of", "_law_told", "_law_last", "_law_turn", "_law_more", "_law_some"] "_law_lists" (defScope s__law_lists) f cdv A outer s H E).nox scope [("_law_some", s.heap.objs.size + 1)] "_law_k" ["_law_some"] [6] := by
    rintro scope rfl
    refine ⟨by rfl, by decide +kernel, by rfl, by decide +kernel, by rfl, fun y c h => ?_, by rfl, by decide +kernel, rfl, fun k y j e1 e2 => ?_⟩
    · have z := lookup_mem h
      simp only [List.mem_cons, List.not_mem_nil, or_false, Prod.mk.injEq] at z
      obtain ⟨rfl, rfl⟩ := z; rfl
    · match k, e1, e2 with
      | 0, e1, e2 => cases e1; cases e2; exact ⟨rfl, rfl, .inl rfl⟩
      | k + 1, e1, e2 => cases e1
  refine ⟨_, pss_cons (ps_set (i := 2) sc__law_lists.nd rfl (Or.inl rfl) (pe_lst (pa_cons (pe_lst pa_nil) pa_nil)))
    (pss_cons (ps_set (i := 3) sc__law_lists.nd rfl (Or.inl rfl) (pe_lst (pa_cons (pe_lst pa_nil) pa_nil)))
    (pss_cons (ps_for PassesOwn.never rfl (pi_range1 rfl mz_range (pa_cons (pv 1) pa_nil)) (pg_name (i := 4) sc__law_lists.nd rfl (Or.inl rfl))
    (pss_cons (ps_set (i := 5) sc__law_lists.nd rfl (Or.inl rfl) (pe_lst pa_nil))
      (pss_cons (ps_for PassesOwn.never rfl (pi_list (pv 3)) (pg_name (i := 6) sc__law_lists.nd rfl (Or.inr rfl))
      (pss_one (ps_set (i := 5) sc__law_lists.nd rfl (Or.inl rfl) (pe_op op_cat (pv 5) (pe_comp (CS1 rfl) rfl (pi_range1 rfl mz_range (pa_cons (pv 0) pa_nil)) (fun _ _ _ => pts_one (PW.pt (pw_or (pt_cmpR (r := rEqD K) (op_eqD hu64) (pv 1) (pe_lst pa_nil) (nomark _)) (pw_or1 (pt_cmpR op_lt (pe_ix (r := rIxL K) ix_list (pv 1) (pe_un un_neg pe_int) (fun _ _ => rfl)) (pv 0) (nomark _)))))) (fun _ _ _ => pe_op op_cat (pv 1) (pe_lst (pa_cons (pv 0) pa_nil))))))))
      (pss_cons (ps_set (i := 3) sc__law_lists.nd rfl (Or.inl rfl) (pv 5))
      (pss_one (ps_set (i := 2) sc__law_lists.nd rfl (Or.inl rfl) (pe_op op_cat (pv 2) (pv 5))))))))
    (pss_one (ps_ret (pv 2))))), ?_⟩
  refine ⟨sz, fun p0 np0 => ⟨sz, fun p1 np1 => ⟨sz, fun p2 np2 => ⟨sz, fun p3 np3 => ?_⟩⟩⟩⟩
  have t0 := same_new np0 (.lst [])
  have t1 := same_new np1 (.lst [V.ref p0])
  have t2 := same_new np2 (.lst [])
  have t3 := same_new np3 (.lst [V.ref p2])
  have np1H := t0.free np1
  have ep0 := (t1.trans (t2.trans t3)) _ _ (upd_same (H := H) (a := p0) (o := .lst []))
  have ep1 := (t2.trans t3) _ _ (upd_same (H := upd H p0 (.lst [])) (a := p1) (o := .lst [V.ref p0]))
  have ep2 := t3 _ _ (upd_same (H := upd (upd H p0 (.lst [])) p1 (.lst [V.ref p0])) (a := p2) (o := .lst []))
  have ep3 := upd_same (H := upd (upd (upd H p0 (.lst [])) p1 (.lst [V.ref p0])) p2 (.lst [])) (a := p3) (o := .lst [V.ref p2])
  have sA := (t0.trans t1).trans (t2.trans t3)
  generalize upd (upd (upd (upd H p0 (.lst [])) p1 (.lst [V.ref p0])) p2 (.lst [])) p3 (.lst [V.ref p2]) = H1 at ep0 ep1 ep2 ep3 sA
  refine ⟨_, rfl, _, rfl, by omega, by omega, for_range (lo := 0) (n := sv.toNat) (fun i σ H2 => ∃ (pt pl : Addr) (tps lps : List (Addr × List Int)) (u4 u5 u6 : Option V), σ = [some (.int m), some (.int sv), some (.ref pt), some (.ref pl), u4, u5, u6] ∧ H pt = none ∧ H2 pt = some (.lst ((tps.map (·.1)).map V.ref)) ∧ Ls H2 tps ∧ tps.length ≤ 2 * 12 ^ i ∧ ((∀ w, w ∈ tps.map (·.2) ↔ w.length ≤ i ∧ RisingAt 0 m.toNat w) ∧ (tps.map (·.2)).Nodup) ∧
      H2 pl = some (.lst ((lps.map (·.1)).map V.ref)) ∧ Ls H2 lps ∧ lps.length ≤ 12 ^ i ∧ ((∀ w, w ∈ lps.map (·.2) ↔ w.length = i ∧ RisingAt 0 m.toNat w) ∧ (lps.map (·.2)).Nodup) ∧ Same H H2)
    ⟨p1, p3, [(p0, [])], [(p2, [])], none, none, none, rfl, np1H, ep1, (fun z hz => by rw [List.mem_singleton.mp hz]; exact ep0), by simp, ⟨fun w => ?_, by simp⟩, ep3, (fun z hz => by rw [List.mem_singleton.mp hz]; exact ep2), by simp, ⟨fun w => ?_, by simp⟩, sA⟩ ?_ ?_⟩
  · show w ∈ [[]] ↔ _
    rw [List.mem_singleton]
    exact ⟨fun e => by rw [e]; exact ⟨Nat.le_refl _, RisingAt.nil _⟩, fun e => List.eq_nil_of_length_eq_zero (Nat.le_zero.mp e.1)⟩
  · show w ∈ [[]] ↔ _
    rw [List.mem_singleton]
    exact ⟨fun e => by rw [e]; exact ⟨rfl, RisingAt.nil _⟩, fun e => List.eq_nil_of_length_eq_zero e.1⟩
  · rintro i σ H2 hi ⟨pt, pl, tps, lps, u4, u5, u6, rfl, npt, ept, hT, lT, mT, epl, hL, lL, mL, sm⟩
    have pw := pow12 (show i ≤ 3 by omega)
    have pw' := pow12 (show i + 1 ≤ 3 by omega)
    have pwe : 12 ^ (i + 1) = 12 ^ i * 12 := Nat.pow_succ ..
    refine ⟨sz, fun p5 np5 => ?_⟩
    have s5 := same_new np5 (.lst [])
    refine ⟨_, rfl, pl, rfl, ⟨_, SqL.of (s5 _ _ epl)⟩, for_list (K := K) (a := pl) (xs := (lps.map (·.1)).map V.ref) (fun j σ H3 => ∃ (pm : Addr) (mps : List (Addr × List Int)) (u6 : Option V), σ = [some (.int m), some (.int sv), some (.ref pt), some (.ref pl), some (.int (0 + i)), some (.ref pm), u6] ∧ H3 pm = some (.lst ((mps.map (·.1)).map V.ref)) ∧ Ls H3 mps ∧ mps.length ≤ j * 12 ∧ ((∀ w, w ∈ mps.map (·.2) ↔ ∃ ws ∈ (lps.map (·.2)).take j, ∃ k, w = ws ++ [k] ∧ RisingAt 0 m.toNat w) ∧ (mps.map (·.2)).Nodup) ∧ Same H2 H3)
      ⟨p5, [], u6, rfl, upd_same, (fun _ z => (nomatch z)), Nat.zero_le _, ⟨(fun w => ⟨fun z => (nomatch z), fun ⟨_, z, _⟩ => (nomatch z)⟩), List.nodup_nil⟩, s5⟩ (fun j σ H3 _ ⟨_, _, _, _, _, _, _, _, sm3⟩ => SqL.of (sm3 _ _ epl)) ?_ ?_⟩
    · rintro j x σ H3 hx ⟨pm, mps, u6, rfl, epm, hM, lM, mM, sm3⟩
      obtain ⟨qv, rfl, eqv, mqv⟩ := pair_at hx
      have jl := (List.getElem?_eq_some_iff.mp eqv).1
      have ewj : (lps.map (·.2))[j]? = some qv.2 := by rw [List.getElem?_map, eqv]; rfl
      obtain ⟨w1, w2⟩ := (mL.1 qv.2).mp (List.mem_of_getElem? ewj)
      have w3 := risingAt_len w2
      have eq3 := sm3 _ _ (hL qv mqv)
      refine ⟨_, rfl, _, rfl, _, rfl, by omega, by omega, ?_⟩
      refine comp_by (walked_range (lo := 0) (n := m.toNat)) (by rw [List.length_map, List.length_range]; exact sz (by omega)) (fun D k acc G => ∃ cs : List (Addr × List Int), acc = (cs.map (·.1)).map V.ref ∧ Ls (hide D G) cs ∧ cs.length ≤ k ∧ ((∀ w, w ∈ cs.map (·.2) ↔ ∃ k' : Nat, k' < k ∧ okK qv.2 k' = true ∧ w = qv.2 ++ [(k' : Int)]) ∧ (cs.map (·.2)).Nodup) ∧ Same H3 G)
        (fun D nD => ⟨[], rfl, fun _ z => (nomatch z), Nat.le_refl _, ⟨fun w => ⟨fun z => (nomatch z), fun ⟨_, z, _⟩ => absurd z (Nat.not_lt_zero _)⟩, List.nodup_nil⟩, same_new nD _⟩) (fun _ _ _ _ _ => trivial) ?_ ?_
      · rintro D k x acc G nD hx2 ha ⟨cs, rfl, hc, lc, mc, smG⟩
        have kl : k < m.toNat := by
          have := (List.getElem?_eq_some_iff.mp hx2).1
          rwa [List.length_map, List.length_range] at this
        have ex : x = .int (k : Int) := by
          rw [List.getElem?_map, List.getElem?_range kl] at hx2
          have e2 := (Option.some.inj hx2).symm
          rw [e2]
          show V.int (0 + (k : Int)) = _
          rw [Int.zero_add]
        subst ex
        -- the two ways on
        have no : ∀ G2, Same G G2 → okK qv.2 k = false → G2 D = some (.lst ((cs.map (·.1)).map V.ref)) ∧ ∃ cs' : List (Addr × List Int), (cs.map (·.1)).map V.ref = (cs'.map (·.1)).map V.ref ∧ Ls (hide D G2) cs' ∧ cs'.length ≤ k + 1 ∧ ((∀ w, w ∈ cs'.map (·.2) ↔ ∃ k' : Nat, k' < k + 1 ∧ okK qv.2 k' = true ∧ w = qv.2 ++ [(k' : Int)]) ∧ (cs'.map (·.2)).Nodup) ∧ Same H3 G2 := fun G2 sG ho =>
          ⟨sG _ _ ha, cs, rfl, hc.to (hide_same sG), by omega, ⟨fun w => ⟨fun z => let ⟨k', a1, a2, a3⟩ := (mc.1 w).mp z; ⟨k', by omega, a2, a3⟩, fun ⟨k', a1, a2, a3⟩ => by
            by_cases e : k' = k
            · subst e; rw [ho] at a2; cases a2
            · exact (mc.1 w).mpr ⟨k', by omega, a2, a3⟩⟩, mc.2⟩, smG.trans sG⟩
        have yes : ∀ G2, Same G G2 → okK qv.2 k = true → ∀ p, G2 p = some (.lst ((qv.2 ++ [(k : Int)]).map V.int)) → p ≠ D → G2 D = some (.lst ((cs.map (·.1)).map V.ref)) ∧ ∃ cs' : List (Addr × List Int), (cs.map (·.1)).map V.ref ++ [V.ref p] = (cs'.map (·.1)).map V.ref ∧ Ls (hide D (upd G2 D (.lst ((cs.map (·.1)).map V.ref ++ [V.ref p])))) cs' ∧ cs'.length ≤ k + 1 ∧ ((∀ w, w ∈ cs'.map (·.2) ↔ ∃ k' : Nat, k' < k + 1 ∧ okK qv.2 k' = true ∧ w = qv.2 ++ [(k' : Int)]) ∧ (cs'.map (·.2)).Nodup) ∧ Same H3 (upd G2 D (.lst ((cs.map (·.1)).map V.ref ++ [V.ref p]))) := fun G2 sG ho p ep pD =>
          ⟨sG _ _ ha, cs ++ [(p, qv.2 ++ [(k : Int)])], by simp, by
            rw [hide_upd]
            intro z hz
            rcases List.mem_append.mp hz with z1 | z1
            · exact hide_same sG _ _ (hc z z1)
            · rw [List.mem_singleton.mp z1, hide_ne pD]
              exact ep, by rw [List.length_append, List.length_singleton]; omega, ⟨fun w => by
            rw [List.map_append, List.mem_append, mc.1 w]
            constructor
            · rintro (⟨k', a1, a2, a3⟩ | z)
              · exact ⟨k', by omega, a2, a3⟩
              · exact ⟨k, by omega, ho, List.mem_singleton.mp z⟩
            · rintro ⟨k', a1, a2, a3⟩
              by_cases e : k' = k
              · subst e; exact .inr (List.mem_singleton.mpr a3)
              · exact .inl ⟨k', by omega, a2, a3⟩, by
            rw [List.map_append]
            refine List.nodup_append.mpr ⟨mc.2, by simp, fun x hx y hy e => ?_⟩
            have hy' := List.mem_singleton.mp hy
            subst e
            obtain ⟨k', a1, a2, a3⟩ := (mc.1 x).mp hx
            rw [hy'] at a3
            have a4 := List.append_cancel_left a3
            have a5 : (k : Int) = (k' : Int) := by injection a4
            omega⟩, same_upd nD (smG.trans sG)⟩
        have elt : ∀ G2, Same G G2 → okK qv.2 k = true → tOp rCat (tVar 1) (tLst (tCons (tVar 0) tNil)) (some (V.int (k : Int)) :: frees [some (.int m), some (.int sv), some (.ref pt), some (.ref pl), some (.int (0 + i)), some (.ref pm), some (.ref qv.1)] [6]) G2 fun y H3' => H3' D = some (.lst ((cs.map (·.1)).map V.ref)) ∧ ∃ cs' : List (Addr × List Int), (cs.map (·.1)).map V.ref ++ [y] = (cs'.map (·.1)).map V.ref ∧ Ls (hide D (upd H3' D (.lst ((cs.map (·.1)).map V.ref ++ [y])))) cs' ∧ cs'.length ≤ k + 1 ∧ ((∀ w, w ∈ cs'.map (·.2) ↔ ∃ k' : Nat, k' < k + 1 ∧ okK qv.2 k' = true ∧ w = qv.2 ++ [(k' : Int)]) ∧ (cs'.map (·.2)).Nodup) ∧ Same H3 (upd H3' D (.lst ((cs.map (·.1)).map V.ref ++ [y]))) := fun G2 sG ho => by
          refine ⟨_, rfl, _, rfl, sz, fun p8 np8 => ?_⟩
          have s8 := same_new np8 (.lst [V.int (k : Int)])
          refine ⟨qv.1, p8, _, _, rfl, rfl, s8 _ _ (sG _ _ (smG _ _ eq3)), upd_same, (by rw [List.length_map]; exact sz (by rw [List.length_singleton]; omega)), fun p9 np9 => ?_⟩
          have s9 := same_new np9 (.lst (qv.2.map V.int ++ [V.int (k : Int)]))
          have eD9 := (sG.trans s8) _ _ ha
          exact yes _ (sG.trans (s8.trans s9)) ho p9 (by rw [upd_same, List.map_append]; rfl) (fun z => by rw [z, eD9] at np9; cases np9)
        refine ⟨_, rfl, sz, fun p7 np7 => ?_⟩
        have s7 := same_new np7 (.lst [])
        refine ⟨.list (qv.2.map PyData.int), .list [], .lst (SqL.of (s7 _ _ (smG _ _ eq3))) (RdVs.ints _), .lst (SqL.of upd_same) .nil, (by simp only [PyData.depth]; rw [depth_ints]; decide), _, rfl, ?_⟩
        rw [eqD_nil]
        cases hw : (qv.2.map PyData.int).isEmpty with
        | true =>
          have hn : qv.2 = [] := by simpa using hw
          have ho : okK qv.2 k = true := by rw [hn]; rfl
          exact iteT (iteT (elt _ s7 ho))
        | false =>
          have hn : qv.2 ≠ [] := by
            intro z
            rw [z] at hw
            cases hw
          obtain ⟨l, el, ol⟩ := last_at hn
          refine iteF ⟨_, rfl, _, rfl, qv.1, _, _, _, rfl, rfl, SqL.of (s7 _ _ (smG _ _ eq3)), el, _, rfl, _, _, rfl, rfl, _, rfl, ?_⟩
          have ok := ol (k : Int)
          cases hd : decide (l < (k : Int)) with
          | true => rw [hd] at ok; exact iteT (elt _ s7 ok)
          | false => rw [hd] at ok; exact iteF (no _ s7 ok)
      · rintro D acc G nD ha ⟨cs, rfl, hc, lc, mc, smG⟩
        rw [List.length_map, List.length_range] at lc mc
        refine ⟨pm, D, _, _, rfl, rfl, smG _ _ epm, ha, (by rw [List.length_map, List.length_map, List.length_map, List.length_map, sizeLine_eq]; omega), fun p9 np9 => ?_⟩
        have s9 := same_new np9 (.lst ((mps.map (·.1)).map V.ref ++ (cs.map (·.1)).map V.ref))
        refine ⟨p9, mps ++ cs, _, rfl, (by rw [upd_same, List.map_append, List.map_append]), (fun z hz => ?_), (by rw [List.length_append]; omega), ⟨fun w => ?_, ?_⟩, (sm3.trans smG).trans s9⟩
        · rcases List.mem_append.mp hz with z1 | z1
          · exact s9 _ _ (smG _ _ (hM z z1))
          · exact s9 _ _ (hide_in _ _ (hc z z1))
        · rw [List.map_append, List.mem_append, mM.1 w, mc.1 w, take_more ewj]
          constructor
          · rintro (⟨ws, a1, k, a2, a3⟩ | ⟨k, a1, a2, a3⟩)
            · exact ⟨ws, List.mem_append_left _ a1, k, a2, a3⟩
            · refine ⟨qv.2, List.mem_append_right _ (List.mem_singleton.mpr rfl), k, a3, ?_⟩
              rw [a3]
              exact (rise_snoc w2 (by omega) (by omega)).mp a2
          · rintro ⟨ws, a1, k, a2, a3⟩
            rcases List.mem_append.mp a1 with z | z
            · exact .inl ⟨ws, z, k, a2, a3⟩
            · rw [List.mem_singleton.mp z] at a2
              have kb := a3.2 k (by rw [a2]; simp)
              refine .inr ⟨k.toNat, by omega, ?_, by rw [a2, Int.toNat_of_nonneg kb.1]⟩
              rw [Int.toNat_of_nonneg kb.1]
              rw [a2] at a3
              exact (rise_snoc w2 kb.1 (by omega)).mpr a3
        · rw [List.map_append]
          refine List.nodup_append.mpr ⟨mM.2, mc.2, fun x hx y hy e => ?_⟩
          subst e
          obtain ⟨ws, a1, k, a2, _⟩ := (mM.1 x).mp hx
          obtain ⟨k', _, _, a3⟩ := (mc.1 x).mp hy
          rw [a2] at a3
          have a4 := congrArg List.dropLast a3
          rw [List.dropLast_concat, List.dropLast_concat] at a4
          rw [a4] at a1
          have nd := mL.2
          rw [← List.take_append_drop j (lps.map (·.2)), drop_more ewj] at nd
          exact (List.nodup_append.mp nd).2.2 _ a1 _ List.mem_cons_self rfl
    · rintro σ H3 ⟨pm, mps, u6, rfl, epm, hM, lM, mM, sm3⟩
      have mM2 := mM.2
      have mM := mM.1
      rw [List.length_map, List.length_map] at lM mM
      have lM' : mps.length ≤ 12 ^ (i + 1) := by rw [pwe]; exact Nat.le_trans lM (Nat.mul_le_mul_right 12 lL)
      rw [List.take_of_length_le (by rw [List.length_map]; exact Nat.le_refl _)] at mM
      have mM' : ∀ w, w ∈ mps.map (·.2) ↔ w.length = i + 1 ∧ RisingAt 0 m.toNat w := fun w => by
        rw [mM w]
        constructor
        · rintro ⟨ws, a1, k, a2, a3⟩
          refine ⟨?_, a3⟩
          rw [a2, List.length_append, ((mL.1 ws).mp a1).1]
          rfl
        · rintro ⟨a1, a2⟩
          rcases snoc_or w with rfl | ⟨vs, l, rfl⟩
          · cases a1
          · refine ⟨vs, (mL.1 vs).mpr ⟨by simpa using a1, ?_⟩, l, by simp, a2⟩
            refine ⟨(List.pairwise_append.mp (by simpa using a2.1 : (vs ++ [l]).Pairwise (· < ·))).1, fun x hx => a2.2 x (by simp [hx])⟩
      refine ⟨_, rfl, _, rfl, _, rfl, pt, pm, _, _, rfl, rfl, sm3 _ _ ept, epm, (by rw [List.length_map, List.length_map, List.length_map, List.length_map, sizeLine_eq]; omega), fun p9 np9 => ?_⟩
      have s9 := same_new np9 (.lst ((tps.map (·.1)).map V.ref ++ (mps.map (·.1)).map V.ref))
      refine ⟨p9, pm, tps ++ mps, mps, _, _, _, rfl, (sm.trans sm3).free np9, (by rw [upd_same, List.map_append, List.map_append]), (fun z hz => ?_), (by rw [List.length_append]; omega), ⟨fun w => ?_, ?_⟩, s9 _ _ epm, hM.to s9, lM', ⟨mM', mM2⟩, (sm.trans sm3).trans s9⟩
      · rcases List.mem_append.mp hz with z1 | z1
        · exact s9 _ _ (sm3 _ _ (hT z z1))
        · exact s9 _ _ (hM z z1)
      · rw [List.map_append, List.mem_append, mT.1 w, mM' w]
        constructor
        · rintro (⟨a1, a2⟩ | ⟨a1, a2⟩)
          · exact ⟨by omega, a2⟩
          · exact ⟨by omega, a2⟩
        · rintro ⟨a1, a2⟩
          by_cases e : w.length = i + 1
          · exact .inr ⟨e, a2⟩
          · exact .inl ⟨by omega, a2⟩
      · rw [List.map_append]
        refine List.nodup_append.mpr ⟨mT.2, mM2, fun x hx y hy e => ?_⟩
        subst e
        have h1 := ((mT.1 x).mp hx).1
        have h2 := ((mM' x).mp hy).1
        omega
  · rintro σ H2 ⟨pt, pl, tps, lps, u4, u5, u6, rfl, npt, ept, hT, lT, mT, epl, hL, lL, mL, sm⟩
    have pw := pow12 (show sv.toNat ≤ 3 by omega)
    refine ⟨_, rfl, q pt tps H2 npt ept hT (by omega) (fun w => ?_) mT.2 sm⟩
    rw [mT.1 w]
    constructor
    · rintro ⟨a1, a2⟩; exact ⟨by omega, a2⟩
    · rintro ⟨a1, a2⟩; exact ⟨by omega, a2⟩
end
end K23
namespace K23
open PySem L2 Nd
abbrev DueE := Addr × Addr × Int × List Int
def Dues (H : Hp) (ds : List DueE) : Prop := ∀ d ∈ ds, H d.1 = some (.tup [.int d.2.2.1, .ref d.2.1]) ∧ H d.2.1 = some (.lst (d.2.2.2.map V.int))
theorem Dues.to {H H' : Hp} {ds : List DueE} (h : Dues H ds) (s : Same H H') : Dues H' ds := fun d hd => ⟨s _ _ (h d hd).1, s _ _ (h d hd).2⟩
def spMade : Sp := fun vs H Q _ => ∃ (d : Addr) (h m c k : Int) (f : Bool), vs = [.ref d, .int h, .int m] ∧ Draw H d c k f ∧ 0 ≤ k ∧ k ≤ 10000 ∧ 0 ≤ h ∧ h ≤ 60 ∧ 0 ≤ m ∧ m ≤ 12 ∧
  ∀ (l : Addr) (rs : List Addr) (c' k' : Int) (H' : Hp), H l = none → H' l = some (.lst (rs.map V.ref)) → (rs.length : Int) ≤ m → (∀ r ∈ rs, Wd H' r) → Draw H' d c' k' f → k ≤ k' → k' ≤ k + 20000 → SameB d H H' → Q (.ref l) H'
theorem sIx_pos {n d : Nat} {v : Int} (h : 0 ≤ v) : HT.sIx n d (some v) = min v.toNat n := by
  show (if v < 0 then (v + (n : Int)).toNat else min v.toNat n) = _
  rw [if_neg (by omega)]
theorem cut_head {ns : List Int} {u : Int} (h0 : 0 ≤ u) : cutV (ns.map V.int) none (some u) = (ns.take u.toNat).map V.int := by
  unfold cutV
  obtain ⟨n, rfl⟩ : ∃ n : Nat, u = n := ⟨u.toNat, by omega⟩
  rw [HT.sIx_nat, HT.sIx_none, List.drop_zero, Nat.sub_zero, List.length_map, Int.toNat_natCast, List.map_take]
  by_cases h : n ≤ ns.length
  · rw [Nat.min_eq_left h]
  · rw [Nat.min_eq_right (by omega), List.take_of_length_le (by rw [List.length_map]; exact Nat.le_refl _), List.take_of_length_le (by rw [List.length_map]; omega)]
theorem cut_last {vs : List Int} {l : Int} : cutV ((vs ++ [l]).map V.int) (some (-1)) none = [V.int l] := by
  unfold cutV
  have e : HT.sIx ((vs ++ [l]).map V.int).length 0 (some (-1)) = vs.length := by
    show (if (-1 : Int) < 0 then ((-1 : Int) + (((vs ++ [l]).map V.int).length : Int)).toNat else min (-1 : Int).toNat ((vs ++ [l]).map V.int).length) = _
    rw [if_pos (by decide), List.length_map, List.length_append, List.length_singleton]
    omega
  rw [e, HT.sIx_none, List.map_append, List.drop_left' (by rw [List.length_map])]
  rw [List.length_append, List.length_map]
  simp
theorem Rising.sub {h : Int} {ns ms : List Int} (r : Rising h ns) (s : ms.Sublist ns) : Rising h ms := ⟨r.1.sublist s, fun x hx => r.2 x (s.subset hx)⟩
theorem rising_len {ns : List Int} (r : Rising 60 ns) : ns.length ≤ 60 := Nat.le_trans (NdS.len_leI (r.1.imp fun {x y} h => Int.ne_of_lt h) fun e he => mem_U60 (r.2 e he).1 (r.2 e he).2) (by decide)
theorem cutA_len {xs : List Addr} {m : Int} (h : 0 ≤ m) : ((cutA xs none (some m)).length : Int) ≤ m := by
  unfold cutA
  obtain ⟨n, rfl⟩ : ∃ n : Nat, m = n := ⟨m.toNat, by omega⟩
  rw [HT.sIx_nat, HT.sIx_none, List.drop_zero, Nat.sub_zero, List.length_take]
  omega
theorem Wd.same {H H' : Hp} {r : Addr} (h : Wd H r) (s : Same H H') : Wd H' r := let ⟨ns, a, b⟩ := h; ⟨ns, a, s _ _ b⟩
theorem Wd.sameB {H H' : Hp} {r d : Addr} {c k : Int} {f : Bool} (h : Wd H r) (hd : Draw H d c k f) (s : SameB d H H') : Wd H' r := let ⟨ns, a, b⟩ := h; ⟨ns, a, s _ _ (ne_of b hd (by intro z; cases z)) b⟩
section
variable {P : Program} {w : World} {K : PySem.W.Frag} {mg : Str → Option Value} {base : Heap}
theorem sc__law_made : FnScope ["_law_draws_here", "_law_holes", "_law_many", "_law_code_here", "_law_word_here", "_law_told"] ["_law_draws_here", "_law_holes", "_law_many"] (defScope s__law_made) := ⟨rfl, rfl, rfl, by decide +kernel, rfl, by decide +kernel, by decide +kernel⟩
theorem ok_lmade {f f_L_next f_L_code f_L_cut : Addr} {fd d_L_next d_L_code d_L_cut : FuncData} (F : Fun K "_law_made" "_law_made" s__law_made f fd)
    (G_L_next : FnOk P w K mg base CX0 1 f_L_next d_L_next ["_law_draws_here"] (spNext)) (b_L_next : Binds K d_L_next ["_law_draws_here"] []) (k_L_next : PySem.W.keepIn K (.ref f_L_next) = true) (m_L_next : mg "_law_next" = some (.ref f_L_next))
    (G_L_code : FnOk P w K mg base CX0 3 f_L_code d_L_code ["_law_draws_here", "_law_holes", "_law_many"] (spCode)) (b_L_code : Binds K d_L_code ["_law_draws_here", "_law_holes", "_law_many"] []) (k_L_code : PySem.W.keepIn K (.ref f_L_code) = true) (m_L_code : mg "_law_code" = some (.ref f_L_code))
    (G_L_cut : FnOk P w K mg base CX0 1 f_L_cut d_L_cut ["_law_code_here", "_law_numbers"] (spCut K)) (b_L_cut : Binds K d_L_cut ["_law_code_here", "_law_numbers"] []) (k_L_cut : PySem.W.keepIn K (.ref f_L_cut) = true) (m_L_cut : mg "_law_cut" = some (.ref f_L_cut))
    (mz_enumerate : mg "enumerate" = none) (mz_len : mg "len" = none) :
    FnOk P w K mg base CX0 4 f fd ["_law_draws_here", "_law_holes", "_law_many"] (spMade) := by
  refine F.ok sc__law_made (fun vs H Q E h => ?_) (fun cdv A outer s H vs Q E hr h => ?_)
  · obtain ⟨d, h, m, c, k, fl, rfl, _⟩ := h
    rfl
  obtain ⟨d, h, m, c, k, fl, rfl, hd, k0, k1, h0, h1, m0, m1, q⟩ := h
  have hr1 : Room 1 _ := hr.mono (by decide)
  have hr2 : Room 2 _ := hr.mono (by decide)
  have hr3 : Room 3 _ := hr.mono (by decide)
  have hu := hu_of hr
  have hu64 := hr.units
  have CS1 : ∀ {scope : Scope} (h : scope = { kind := .function, names := [(".0", .local), ("_law_k", .local), ("_law_word_here", .local), ("len", .globalImplicit)], isGenerator := false, isCoroutine := false }),
      CompScope (cxOf CX0 P w K mg base ["_law_draws_here", "_law_holes", "_law_many", "_law_code_here", "_law_word_here", "_law_told"] "_law_made" (defScope s__law_made) f cdv A outer s H E).nox scope [] "_law_k" [] [] := by
    rintro scope rfl
    exact compScope0 (by rfl) (by decide +kernel) (by rfl) (by decide +kernel) (by rfl) (by rfl)
  refine ⟨_, pss_cons (ps_set (i := 3) sc__law_made.nd rfl (Or.inl rfl) (pe_call G_L_code hr3 rfl m_L_code k_L_code b_L_code .nil pass0 (pa_cons (pv 0) (pa_cons (pv 1) (pa_cons (pv 2) pa_nil)))))
    (pss_cons (ps_if (pt_cmpR op_eq (pe_op op_mod (pe_call G_L_next hr1 rfl m_L_next k_L_next b_L_next .nil pass0 (pa_cons (pv 0) pa_nil)) pe_int) pe_int (nomark _))
    (pss_one (ps_setC2 (i0 := 3) sc__law_made.nd rfl rfl (CS1 rfl) rfl (by decide +kernel) rfl (pi_enum rfl mz_enumerate (pa_cons (pv 3) pa_nil)) (fun _ _ _ => pts_one (pt_cmpR op_gt (pe_callB (r := rLen K) len_ok rfl mz_len (by decide +kernel) (pa_cons (pv 1) pa_nil)) pe_int (nomark _))) (fun _ _ _ => pe_op (r := rCatX K) op_catX (pe_slice (r := rSlT K) sl_tup (pv 1) po_none (po_some (pe_op op_add pe_int (pe_op op_mod (pv 0) pe_int)))) (pe_slice (r := rSlT K) sl_tup (pv 1) (po_some (pe_un un_neg pe_int)) po_none)))) pss_nil)
    (pss_cons (ps_if (PW.pt (pw_and (pt_cmpR op_gt (pe_callB (r := rLen K) len_ok rfl mz_len (by decide +kernel) (pa_cons (pv 3) pa_nil)) pe_int (nomark _)) (pw_and1 (pt_cmpR op_eq (pe_op op_mod (pe_call G_L_next hr1 rfl m_L_next k_L_next b_L_next .nil pass0 (pa_cons (pv 0) pa_nil)) pe_int) pe_int (nomark _)))))
    (pss_one (ps_set (i := 3) sc__law_made.nd rfl (Or.inl rfl) (pe_op op_cat (pv 3) (pe_lst (pa_cons (pe_call G_L_cut hr1 rfl m_L_cut k_L_cut b_L_cut .nil pass0 (pa_cons (pv 3) (pa_cons (pe_lst (pa_cons (pe_op op_mod (pe_call G_L_next hr1 rfl m_L_next k_L_next b_L_next .nil pass0 (pa_cons (pv 0) pa_nil)) (pe_callB (r := rLen K) len_ok rfl mz_len (by decide +kernel) (pa_cons (pv 3) pa_nil))) (pa_cons (pe_op op_mod (pe_call G_L_next hr1 rfl m_L_next k_L_next b_L_next .nil pass0 (pa_cons (pv 0) pa_nil)) (pe_callB (r := rLen K) len_ok rfl mz_len (by decide +kernel) (pa_cons (pv 3) pa_nil))) pa_nil))) pa_nil))) pa_nil))))) pss_nil)
    (pss_cons (ps_set (i := 5) sc__law_made.nd rfl (Or.inl rfl) (pe_lst pa_nil))
    (pss_cons (ps_for PassesOwn.never rfl (pi_list (pv 3)) (pg_name (i := 4) sc__law_made.nd rfl (Or.inl rfl))
    (pss_one (ps_if (pt_cmpR (r := rInD K true) (op_notInD hu64) (pv 4) (pv 5) (by with_unfolding_all rfl))
      (pss_one (ps_expr (pe_bm PySem.F.plainAttrs_list PySem.F.slot_list_append PySem.F.type_list_append mt_append (pv 5) (pa_cons (pv 4) pa_nil)))) pss_nil)))
    (pss_one (ps_ret (pe_slice (r := rSlL K) sl_list (pv 5) po_none (po_some (pv 2))))))))), ?_⟩
  refine ⟨_, rfl, _, rfl, _, rfl, d, h, m, c, k, fl, rfl, hd, k0, by omega, h0, h1, m0, by omega, fun l1 rs1 c2 k2 H2 nl1 el1 lr1 wr1 d2 k21 k22 sB2 => ?_⟩
  have l1d : l1 ≠ d := draw_ne hd nl1
  -- if next % 2 == 1
  refine at_nx (seq_join (t := tIfS _ _ _) (fun σ' G => ∃ (pc : Addr) (rs : List Addr) (c' k' : Int) (u4 u5 : Option V), σ' = [some (.ref d), some (.int h), some (.int m), some (.ref pc), u4, u5] ∧ G pc = some (.lst (rs.map V.ref)) ∧ pc ≠ d ∧ (rs.length : Int) ≤ m ∧ (∀ r ∈ rs, Wd G r) ∧ Draw G d c' k' fl ∧ k ≤ k' ∧ k' ≤ k + 10001 ∧ SameB d H G) ?_ ?_)
  rotate_left
  · intro N hN
    refine ⟨_, rfl, d, c2, k2, fl, rfl, d2, by omega, by omega, fun r3 c3 H3 d3 s3 => ?_⟩
    have el3 := s3 _ _ l1d el1
    have wr3 : ∀ r ∈ rs1, Wd H3 r := fun r hr => (wr1 r hr).sameB d2 s3
    refine ⟨_, _, rfl, rfl, (by show (0 : Int) < 2; decide), rfl, _, rfl, ?_⟩
    by_cases ht : r3 % 2 = 1
    · rw [decide_eq_true (show (V.int (r3 % 2)) = V.int 1 by rw [ht])]
      refine iteT ⟨_, rfl, l1, rfl, ⟨_, SqL.of el3⟩, ?_⟩
      refine comp_enumBy (K := K) (a := l1) (xs := rs1.map V.ref) (by rw [List.length_map]; exact sz (by omega)) (fun D i acc G => ∃ rs' : List Addr, acc = rs'.map V.ref ∧ rs'.length ≤ i ∧ (∀ r ∈ rs', Wd (hide D G) r) ∧ Same H3 G)
        (fun D nD => ⟨[], rfl, Nat.le_refl _, fun _ z => (nomatch z), same_new nD _⟩) (fun D i acc G ⟨_, _, _, _, sG⟩ => SqL.of (sG _ _ el3)) ?_ ?_
      · rintro D i x acc G t nD hx ha ⟨rs', rfl, lE, wE, sG⟩ nt
        obtain ⟨r, rfl, er, mr⟩ := ref_at hx
        obtain ⟨ns, ⟨ln, rn⟩, en⟩ := wr3 r mr
        have st := same_new nt (.tup [.int i, .ref r])
        have ha5 := st _ _ ha
        have wE5 : ∀ r ∈ rs', Wd (hide D _) r := fun r hr => (wE r hr).same (hide_same st)
        have sG5 := sG.trans st
        generalize upd G t (.tup [.int i, .ref r]) = G5 at ha5 wE5 sG5
        have en5 := sG5 _ _ en
        refine ⟨_, rfl, r, _, rfl, .inr (SqT.of en5), _, _, rfl, rfl, _, rfl, ?_⟩
        rw [List.length_map]
        by_cases hl : (ns.length : Int) > 2
        · rw [decide_eq_true hl]
          obtain ⟨vs, l, rfl⟩ : ∃ vs l, ns = vs ++ [l] := by
            rcases snoc_or ns with rfl | z
            · exact absurd hl (by decide)
            · exact z
          rw [List.length_append, List.length_singleton] at hl
          have bi := emod_in (i : Int) 2 (by decide)
          refine iteT ⟨_, rfl, _, rfl, _, _, rfl, rfl, (by show (0 : Int) < 2; decide), _, _, rfl, rfl, _, rfl, r, _, rfl, SqT.of en5, (fun z => ?_), fun p6 np6 => ?_⟩
          · have z2 := z.2
            rw [List.length_map, List.length_append, List.length_singleton] at z2
            have e := sIx_pos (n := vs.length + 1) (d := vs.length + 1) (v := 1 + (i : Int) % 2) (by omega)
            rw [e] at z2
            omega
          · rw [cut_head (by omega)]
            have s6 := same_new np6 (.tup (((vs ++ [l]).take (1 + (i : Int) % 2).toNat).map V.int))
            have ep6 := upd_same (H := G5) (a := p6) (o := .tup (((vs ++ [l]).take (1 + (i : Int) % 2).toNat).map V.int))
            refine ⟨_, rfl, _, rfl, _, rfl, r, _, rfl, SqT.of (s6 _ _ en5), (fun z => ?_), fun p7 np7 => ?_⟩
            · have z1 := z.1
              rw [List.length_map, List.length_append, List.length_singleton] at z1
              have e : HT.sIx (vs.length + 1) 0 (some (-1)) = vs.length := by
                show (if (-1 : Int) < 0 then ((-1 : Int) + ((vs.length + 1 : Nat) : Int)).toNat else min (-1 : Int).toNat (vs.length + 1)) = _
                rw [if_pos (by decide)]
                omega
              have z1' : HT.sIx (vs.length + 1) 0 (some (-1)) = 0 := z1
              rw [e] at z1'
              omega
            · have z7 := cut_last (vs := vs) (l := l)
              have s7 := same_new np7 (.tup (cutV ((vs ++ [l]).map V.int) (some (-1)) none))
              have ep7 := upd_same (H := upd G5 p6 (.tup (((vs ++ [l]).take (1 + (i : Int) % 2).toNat).map V.int))) (a := p7) (o := .tup (cutV ((vs ++ [l]).map V.int) (some (-1)) none))
              have ep6' := s7 _ _ ep6
              have sX := s6.trans s7
              generalize hHX : upd (upd G5 p6 (.tup (((vs ++ [l]).take (1 + (i : Int) % 2).toNat).map V.int))) p7 (.tup (cutV ((vs ++ [l]).map V.int) (some (-1)) none)) = GX at s7 ep7 ep6' sX
              have hHX' : upd (upd G5 p6 (.tup (((vs ++ [l]).take (1 + (i : Int) % 2).toNat).map V.int))) p7 (.tup (cutV ((vs ++ [l]).map V.int) (some (-1)) none)) = GX := hHX
              rw [z7] at ep7
              have tk : (vs ++ [l]).take (1 + (i : Int) % 2).toNat = vs.take (1 + (i : Int) % 2).toNat := List.take_append_of_le_length (by omega)
              have tl := List.length_take (i := (1 + (i : Int) % 2).toNat) (l := vs)
              refine ⟨p6, p7, _, _, rfl, rfl, SqT.of ep6', SqT.of ep7, (by rw [List.length_map, tk, tl]; exact sz (by rw [List.length_singleton]; omega)), (fun e => ?_), (fun e => (nomatch e)), fun p8 np8 => ?_⟩
              · rw [tk] at e
                have e' := congrArg List.length e
                rw [List.length_map, tl, List.length_nil] at e'
                omega
              · have s8 := same_new np8 (.tup (((vs ++ [l]).take (1 + (i : Int) % 2).toNat).map V.int ++ [V.int l]))
                have sY := sX.trans s8
                have haX := sX _ _ ha5
                have p8D : p8 ≠ D := fun z => by rw [z, haX] at np8; cases np8
                refine ⟨s8 _ _ haX, rs' ++ [p8], by simp, by rw [List.length_append, List.length_singleton]; omega, fun r' hr' => ?_, same_upd nD (sG5.trans sY)⟩
                rw [hide_upd]
                rcases List.mem_append.mp hr' with z | z
                · exact (wE5 r' z).same (hide_same sY)
                · rw [List.mem_singleton.mp z]
                  have rr : Rising 60 (vs.take (1 + (i : Int) % 2).toNat ++ [l]) := rn.sub ((List.take_sublist _ _).append (List.Sublist.refl _))
                  refine ⟨vs.take (1 + (i : Int) % 2).toNat ++ [l], ⟨rising_len rr, rr⟩, ?_⟩
                  rw [hide_ne p8D, upd_same, tk, List.map_append]
                  rfl
        · rw [decide_eq_false hl]
          exact iteF ⟨ha5, rs', rfl, by omega, wE5, sG5⟩
      · rintro D acc G nD ha ⟨rs', rfl, lE, wE, sG⟩
        rw [List.length_map] at lE
        exact hN _ _ ⟨D, rs', c3, k2 + 1, _, _, rfl, ha, draw_ne d3 nD, by omega, fun r hr => (wE r hr).same hide_in, d3.same sG, by omega, by omega, sB2.trans (s3.trans (SameB.of sG))⟩
    · rw [decide_eq_false (show ¬ (V.int (r3 % 2)) = V.int 1 from fun z => ht (by injection z))]
      exact iteF (hN _ _ ⟨l1, rs1, c3, k2 + 1, _, _, rfl, el3, l1d, lr1, wr3, d3, by omega, by omega, sB2.trans s3⟩)
  rintro _ G ⟨pc, rs, c3, k3, u4, u5, rfl, epc, pcd, lrs, wrs, d3, k31, k32, sB3⟩
  -- if len(code) > 1 and next % 2 == 1
  refine seq_join (t := tIfS _ _ _) (fun σ' G => ∃ (pc : Addr) (rs : List Addr) (c' k' : Int) (u4 u5 : Option V), σ' = [some (.ref d), some (.int h), some (.int m), some (.ref pc), u4, u5] ∧ G pc = some (.lst (rs.map V.ref)) ∧ pc ≠ d ∧ (rs.length : Int) ≤ m + 1 ∧ (∀ r ∈ rs, Wd G r) ∧ Draw G d c' k' fl ∧ k ≤ k' ∧ k' ≤ k + 10004 ∧ SameB d H G) ?_ ?_
  rotate_left
  · intro N hN
    refine ⟨_, rfl, pc, _, rfl, .inl (SqL.of epc), _, _, rfl, rfl, _, rfl, ?_⟩
    rw [List.length_map]
    by_cases hl : (rs.length : Int) > 1
    rotate_left
    · rw [decide_eq_false hl]
      exact iteF (iteF (hN _ _ ⟨pc, rs, c3, k3, _, _, rfl, epc, pcd, by omega, wrs, d3, by omega, by omega, sB3⟩))
    · rw [decide_eq_true hl]
      refine iteT ⟨_, rfl, d, c3, k3, fl, rfl, d3, by omega, by omega, fun r4 c4 H4 d4 s4 => ?_⟩
      have epc4 := s4 _ _ pcd epc
      have wrs4 : ∀ r ∈ rs, Wd H4 r := fun r hr => (wrs r hr).sameB d3 s4
      refine ⟨_, _, rfl, rfl, (by show (0 : Int) < 2; decide), rfl, _, rfl, ?_⟩
      by_cases ht : r4 % 2 = 1
      rotate_left
      · rw [decide_eq_false (show ¬ (V.int (r4 % 2)) = V.int 1 from fun z => ht (by injection z))]
        exact iteF (hN _ _ ⟨pc, rs, c4, k3 + 1, _, _, rfl, epc4, pcd, by omega, wrs4, d4, by omega, by omega, sB3.trans s4⟩)
      · rw [decide_eq_true (show (V.int (r4 % 2)) = V.int 1 by rw [ht])]
        refine iteT ⟨_, rfl, _, rfl, _, rfl, d, c4, k3 + 1, fl, rfl, d4, by omega, by omega, fun r5 c5 H5 d5 s5 => ?_⟩
        have epc5 := s5 _ _ pcd epc4
        refine ⟨_, rfl, pc, _, rfl, .inl (SqL.of epc5), _, _, rfl, rfl, (by show (0 : Int) < _; rw [List.length_map]; omega), ?_⟩
        refine ⟨_, rfl, d, c5, k3 + 1 + 1, fl, rfl, d5, by omega, by omega, fun r6 c6 H6 d6 s6 => ?_⟩
        have epc6 := s6 _ _ pcd epc5
        refine ⟨_, rfl, pc, _, rfl, .inl (SqL.of epc6), _, _, rfl, rfl, (by show (0 : Int) < _; rw [List.length_map]; omega), sz, fun p7 np7 => ?_⟩
        have eN : (((rs.map V.ref).length : Nat) : Int) = (rs.length : Int) := by rw [List.length_map]
        have b5 := emod_in r5 ((rs.map V.ref).length : Int) (by omega)
        have b6 := emod_in r6 ((rs.map V.ref).length : Int) (by omega)
        have s7 := same_new np7 (.lst [V.int (r5 % ((rs.map V.ref).length : Int)), V.int (r6 % ((rs.map V.ref).length : Int))])
        have ep7 := upd_same (H := H6) (a := p7) (o := .lst [V.int (r5 % ((rs.map V.ref).length : Int)), V.int (r6 % ((rs.map V.ref).length : Int))])
        generalize upd H6 p7 (.lst [V.int (r5 % ((rs.map V.ref).length : Int)), V.int (r6 % ((rs.map V.ref).length : Int))]) = H7 at s7 ep7
        have s47 : SameB d H4 H7 := (s5.trans s6).trans (SameB.of s7)
        have epc7 := s47 _ _ pcd epc4
        have wrs7 : ∀ r ∈ rs, Wd H7 r := fun r hr => (wrs4 r hr).sameB d4 s47
        obtain ⟨cc, hcc⟩ := cards_of wrs7
        refine ⟨pc, p7, rs, cc, [r5 % ((rs.map V.ref).length : Int), r6 % ((rs.map V.ref).length : Int)], rfl, SqL.of epc7, Cards.rise hcc, SqL.of ep7, (fun x hx => by
          rcases List.mem_cons.mp hx with rfl | hx
          · omega
          · rw [List.mem_singleton.mp hx]; omega), (by simp), fun p8 ts H8 np8 ep8 cut s8 => ⟨sz, fun p9 np9 => ?_⟩⟩
        have s9 := same_new np9 (.lst [V.ref p8])
        have s79 := s8.trans s9
        refine ⟨pc, p9, _, _, rfl, rfl, s79 _ _ epc7, upd_same, (by rw [List.length_map]; exact sz (by rw [List.length_singleton]; omega)), fun p10 np10 => ?_⟩
        have s10 := same_new np10 (.lst (rs.map V.ref ++ [V.ref p8]))
        have sE := s79.trans s10
        have d10 := (d6.same s7).same sE
        refine hN _ _ ⟨p10, rs ++ [p8], c6, k3 + 1 + 1 + 1, _, _, rfl, (by rw [upd_same, List.map_append]; rfl), draw_ne ((d6.same s7).same s79) np10, by rw [List.length_append, List.length_singleton]; omega, fun r hr => ?_, d10, by omega, by omega, ((sB3.trans s4).trans s47).trans (SameB.of sE)⟩
        rcases List.mem_append.mp hr with z | z
        · exact (wrs7 r z).same sE
        · rw [List.mem_singleton.mp z]
          exact ⟨ts, ⟨rising_len cut.1, cut.1⟩, (s9.trans s10) _ _ ep8⟩
  rintro _ G ⟨pc, rs, c4, k4, u4, u5, rfl, epc, pcd, lrs, wrs, d4, k41, k42, sB4⟩
  refine ⟨sz, fun pt npt => ?_⟩
  have st := same_new npt (.lst [])
  have ptd : pt ≠ d := draw_ne d4 npt
  have nptH : H pt = none := by
    cases e : H pt with
    | none => rfl
    | some o => have := sB4 _ _ ptd e; rw [npt] at this; cases this
  refine ⟨_, rfl, pc, rfl, ⟨_, SqL.of (st _ _ epc)⟩, for_list (K := K) (a := pc) (xs := rs.map V.ref) (fun j σ H2 => ∃ (ts : List Addr) (u4 : Option V), σ = [some (.ref d), some (.int h), some (.int m), some (.ref pc), u4, some (.ref pt)] ∧ H2 pt = some (.lst (ts.map V.ref)) ∧ ts.length ≤ j ∧ (∀ r ∈ ts, r ∈ rs) ∧ Same G H2)
    ⟨[], u4, rfl, upd_same, Nat.le_refl _, (fun _ z => (nomatch z)), st⟩ (fun j σ H2 _ ⟨_, _, _, _, _, _, sm⟩ => SqL.of (sm _ _ epc)) ?_ ?_⟩
  · rintro j x σ H2 hx ⟨ts, u4, rfl, ept, lts, its, sm⟩
    obtain ⟨r, rfl, er, mr⟩ := ref_at hx
    have jl := (List.getElem?_eq_some_iff.mp er).1
    obtain ⟨cc, hcc⟩ := cards_of wrs
    have hcc2 := hcc.same sm
    have rdw : ∀ r ∈ rs, RdV K H2 (.ref r) (wordD (cc r)) := fun r hr => .tup (SqT.of (hcc2 r hr).2) (RdVs.ints _)
    refine ⟨_, rfl, _, rfl, pt, _, wordD (cc r), ts.map fun r => wordD (cc r), rfl, .inl (SqL.of ept), rdw r mr, RdVs.of_map ts fun r hr => rdw r (its r hr), (Nat.le_trans (depthAll_le fun x hx => by
      obtain ⟨r, _, rfl⟩ := List.mem_map.mp hx
      exact depth_word _) (by decide : (1 : Nat) ≤ 60)), _, rfl, ?_⟩
    refine ite2 (fun _ => ?_) (fun _ => ?_)
    · refine ⟨_, rfl, .inl ⟨rfl, _, SqL.of ept⟩, _, rfl, pt, _, _, rfl, rfl, ept, (by rw [List.length_map]; exact small1000 (by omega)), ts ++ [r], _, rfl, (by rw [upd_same, List.map_append]; rfl), (by rw [List.length_append, List.length_singleton]; omega), (fun z hz => ?_), same_upd npt sm⟩
      rcases List.mem_append.mp hz with z1 | z1
      · exact its z z1
      · rw [List.mem_singleton.mp z1]; exact mr
    · exact ⟨ts, _, rfl, ept, by omega, its, sm⟩
  · rintro σ H2 ⟨ts, u4, rfl, ept, lts, its, sm⟩
    refine ⟨_, rfl, _, rfl, _, rfl, pt, _, rfl, SqL.of ept, fun p9 np9 => ?_⟩
    rw [cut_refs]
    have s9 := same_new np9 (.lst ((cutA ts none (some m)).map V.ref))
    have p9d : p9 ≠ d := draw_ne (d4.same sm) np9
    refine q p9 (cutA ts none (some m)) c4 k4 _ ?_ upd_same (cutA_len m0) (fun r hr => (wrs r (its r ((cutA_sub _ _ _).subset hr))).same (sm.trans s9)) (d4.same (sm.trans s9)) (by omega) (by omega) (sB4.trans (SameB.of (sm.trans s9)))
    cases e : H p9 with
    | none => rfl
    | some o => have := sm _ _ (sB4 _ _ p9d e); rw [np9] at this; cases this
end
end K23
namespace K23
open PySem L2 Nd
theorem lex_irr : ∀ w : List Int, HT.lexLt w w = false
  | [] => rfl
  | x :: w => by rw [HT.lexLt_cons, if_pos rfl]; exact lex_irr w
theorem lex_anti : ∀ {x y : List Int}, HT.lexLt x y = false → HT.lexLt y x = false → x = y
  | [], [], _, _ => rfl
  | [], y :: ys, h, _ => by rw [HT.lexLt_nil_cons] at h; cases h
  | x :: xs, [], _, h => by rw [HT.lexLt_nil_cons] at h; cases h
  | x :: xs, y :: ys, h1, h2 => by
    rw [HT.lexLt_cons] at h1 h2
    by_cases e : x = y
    · subst e
      rw [if_pos rfl] at h1 h2
      rw [lex_anti h1 h2]
    · rw [if_neg e] at h1
      rw [if_neg (Ne.symm e)] at h2
      have := of_decide_eq_false h1
      have := of_decide_eq_false h2
      omega
theorem cw_nodup (d : Nat) (p : Int) (m : Nat) : (cw d p m).Nodup := (cw_lex d p m).imp fun {x y} h e => by
  rw [e, lex_irr] at h
  cases h
theorem flat_nodup (m : Nat) : ∀ i : Nat, ((List.range i).flatMap fun k => cw m 0 k).Nodup
  | 0 => List.nodup_nil
  | i + 1 => by
    rw [flat_more]
    refine List.nodup_append.mpr ⟨flat_nodup m i, cw_nodup _ _ _, fun x hx y hy e => ?_⟩
    subst e
    have h1 := (flat_sorted m i).2 x hx
    have h2 := (cw_mem.mp hy).1
    omega
def LL (m : Nat) (s : Int) (w : List Int) : Prop := (w.length : Int) ≤ s ∧ RisingAt 0 m w
def NoTwins (c : Addr → List Int) (rs : List Addr) (s : Int) : Prop := ∀ w1 w2 ts, LL rs.length s w1 → LL rs.length s w2 → CutOf c rs w1 ts → CutOf c rs w2 ts → w1 = w2
def spApart : Sp := fun vs H Q _ => ∃ (a : Addr) (rs : List Addr) (c : Addr → List Int) (s : Int), vs = [.ref a, .int s] ∧ H a = some (.lst (rs.map V.ref)) ∧ rs.length ≤ 12 ∧ Cards H rs c ∧ 0 ≤ s ∧ s ≤ 3 ∧
  (∀ (t : Addr) (H' : Hp), H t = none → NoTwins c rs s → H' t = some (.tup [.str "apart"]) → Same H H' → Q (.ref t) H') ∧
  (∀ (t q1 q2 : Addr) (w1 w2 ts : List Int) (H' : Hp), H t = none → H q1 = none → H q2 = none → LL rs.length s w1 → LL rs.length s w2 → w1 ≠ w2 → CutOf c rs w1 ts → CutOf c rs w2 ts → H' t = some (.tup [.str "same", .ref q1, .ref q2]) → H' q1 = some (.lst (w1.map V.int)) → H' q2 = some (.lst (w2.map V.int)) → Same H H' → Q (.ref t) H')
theorem keyed (ts : List Int) : (ts.map (Sum.inl : Int → Key)).map kV = ts.map V.int := by rw [List.map_map]; rfl
theorem key_inj {ts us : List Int} (h : ts.map (Sum.inl : Int → Key) = us.map Sum.inl) : ts = us := (List.map_inj_right fun x y e => Sum.inl.inj e).mp h
theorem ints_inj {ts us : List Int} (h : ts.map V.int = us.map V.int) : ts = us := (List.map_inj_right fun x y e => V.int.inj e).mp h
section
variable {P : Program} {w : World} {K : PySem.W.Frag} {mg : Str → Option Value} {base : Heap}
theorem sc_apart : FnScope ["code", "several", "made", "numbers", "word"] ["code", "several"] (defScope s_apart) := ⟨rfl, rfl, rfl, by decide +kernel, rfl, by decide +kernel, by decide +kernel⟩
theorem ok_apart {f f_cut_in f_number_lists : Addr} {fd d_cut_in d_number_lists : FuncData} (F : Fun K "apart" "apart" s_apart f fd)
    (G_cut_in : FnOk P w K mg base CX0 2 f_cut_in d_cut_in ["code", "numbers"] (spCut K)) (b_cut_in : Binds K d_cut_in ["code", "numbers"] []) (k_cut_in : PySem.W.keepIn K (.ref f_cut_in) = true) (m_cut_in : mg "cut_in" = some (.ref f_cut_in))
    (G_number_lists : FnOk P w K mg base CX0 4 f_number_lists d_number_lists ["many", "several"] (spNLists)) (b_number_lists : Binds K d_number_lists ["many", "several"] []) (k_number_lists : PySem.W.keepIn K (.ref f_number_lists) = true) (m_number_lists : mg "number_lists" = some (.ref f_number_lists))
    (mz_len : mg "len" = none) :
    FnOk P w K mg base CX0 5 f fd ["code", "several"] (spApart) := by
  refine F.ok sc_apart (fun vs H Q E h => ?_) (fun cdv A outer s H vs Q E hr h => ?_)
  · obtain ⟨a, rs, c, sv, rfl, _⟩ := h
    rfl
  obtain ⟨a, rs, c, sv, rfl, hA, r12, hC, s0, s3, qn, qy⟩ := h
  have hr1 : Room 1 _ := hr.mono (by decide)
  have hr2 : Room 2 _ := hr.mono (by decide)
  have hr3 : Room 3 _ := hr.mono (by decide)
  have hr4 : Room 4 _ := hr.mono (by decide)
  have hu := hu_of hr
  have hu64 := hr.units
  refine ⟨_, pss_cons (ps_set (i := 2) sc_apart.nd rfl (Or.inl rfl) pe_dnewT)
    (pss_cons (ps_for PassesOwn.never rfl (pi_list (pe_call G_number_lists hr4 rfl m_number_lists k_number_lists b_number_lists .nil pass0 (pa_cons (pe_callB (r := rLen K) len_ok rfl mz_len (by decide +kernel) (pa_cons (pv 0) pa_nil)) (pa_cons (pv 1) pa_nil)))) (pg_name (i := 3) sc_apart.nd rfl (Or.inl rfl))
    (pss_cons (ps_set (i := 4) sc_apart.nd rfl (Or.inl rfl) (pe_call G_cut_in hr2 rfl m_cut_in k_cut_in b_cut_in .nil pass0 (pa_cons (pv 0) (pa_cons (pv 3) pa_nil))))
      (pss_cons (ps_if (pt_cmp (pc_din hu (pv 4) (pv 2)) (by with_unfolding_all rfl))
      (pss_one (ps_ret (pe_tup (pa_cons pe_str (pa_cons (pe_dget hu (pv 2) (pv 4) (fun _ _ => rfl)) (pa_cons (pv 3) pa_nil)))))) pss_nil)
      (pss_one (ps_dput hu (pv 2) (pv 4) (pv 3) rfl)))))
    (pss_one (ps_ret (pe_tup (pa_cons pe_str pa_nil))))), ?_⟩
  intro md nmd
  have t0 := same_new nmd (.dT [])
  refine ⟨_, rfl, a, _, rfl, .inl (SqL.of (t0 _ _ hA)), _, rfl, _, sv, rfl, by omega, by rw [List.length_map]; omega, s0, s3, fun l ps H1 nl el hL hF ew s1 => ?_⟩
  rw [List.length_map, Int.toNat_natCast] at ew
  have hL1 : Ls H1 ps := hL.to hide_in
  have lps : ps.length = (lsts rs.length sv.toNat).length := by rw [← ew, List.length_map]
  have lps2 : ps.length ≤ 20000 := by
    have := flat_len (m := rs.length) r12 (min sv.toNat rs.length + 1)
    have e : (lsts rs.length sv.toNat).length = ((List.range (min sv.toNat rs.length + 1)).flatMap fun k => cw rs.length 0 k).length := rfl
    have e2 : min sv.toNat rs.length + 1 ≤ 4 := by omega
    have e3 : (min sv.toNat rs.length + 1) * 4096 ≤ 4 * 4096 := Nat.mul_le_mul_right _ e2
    omega
  have sH : Same H (hide md H1) := same_hide nmd (t0.trans s1)
  have nd : (ps.map (·.2)).Nodup := by rw [ew]; exact flat_nodup _ _
  have emd := s1 _ _ (upd_same (H := H) (a := md) (o := .dT []))
  have lmd : l ≠ md := fun z => by rw [z, upd_same] at nl; cases nl
  have qmd : ∀ q ∈ ps, q.1 ≠ md := fun q hq z => by have := hF q hq; rw [z, upd_same] at this; cases this
  have qH : ∀ q ∈ ps, H q.1 = none := fun q hq => t0.free (hF q hq)
  refine ⟨l, rfl, ⟨_, SqL.of el⟩, for_list (K := K) (a := l) (xs := (ps.map (·.1)).map V.ref) (fun j σ H2 => ∃ (kvs : List (List Key × V)) (u3 u4 : Option V), σ = [some (.ref a), some (.int sv), some (.ref md), u3, u4] ∧ H2 md = some (.dT kvs) ∧ kvs.length ≤ j ∧ (∀ ts v, valV kvs (ts.map Sum.inl) = some v → ∃ q ∈ ps.take j, v = .ref q.1 ∧ CutOf c rs q.2 ts) ∧ (∀ q ∈ ps.take j, ∀ ts, CutOf c rs q.2 ts → (valV kvs (ts.map Sum.inl)).isSome = true) ∧ (∀ q1 ∈ ps.take j, ∀ q2 ∈ ps.take j, ∀ ts, CutOf c rs q1.2 ts → CutOf c rs q2.2 ts → q1.2 = q2.2) ∧ Same (hide md H1) H2)
    ⟨[], none, none, rfl, emd, Nat.le_refl _, (fun ts v z => (nomatch z)), (fun _ z => (nomatch z)), (fun _ z => (nomatch z)), hide_in⟩ (fun j σ H2 _ ⟨_, _, _, _, _, _, _, _, _, sm⟩ => SqL.of (sm _ _ ((hide_ne lmd).trans el))) ?_ ?_⟩
  · rintro j x σ H2 hx ⟨kvs, u3, u4, rfl, ekv, lkv, k1, k2, k3, sm⟩
    obtain ⟨q, rfl, eq, mq⟩ := pair_at hx
    have jl := (List.getElem?_eq_some_iff.mp eq).1
    have ewj : (lsts rs.length sv.toNat)[j]? = some q.2 := by rw [← ew, List.getElem?_map, eq]; rfl
    obtain ⟨w1, w2⟩ := lsts_mem.mp (List.mem_of_getElem? ewj)
    have w3 := risingAt_len w2
    have sm0 := sH.trans sm
    have lst2 : ∀ q ∈ ps, H2 q.1 = some (.lst (q.2.map V.int)) := fun q hq => sm _ _ ((hide_ne (qmd q hq)).trans (hL1 q hq))
    refine ⟨_, rfl, _, rfl, a, q.1, rs, c, q.2, rfl, SqL.of (sm0 _ _ hA), Cards.rise (hC.same sm0), SqL.of (lst2 q mq), (fun m hm => by have := w2.2 m hm; omega), by omega, fun p ts H3 np ep cut s3' => ?_⟩
    have ekv3 := s3' _ _ ekv
    have ep' : H3 p = some (.tup ((ts.map (Sum.inl : Int → Key)).map kV)) := by rw [keyed]; exact ep
    refine ⟨_, rfl, _, rfl, md, _, rfl, DGet.t ekv3 ep', _, rfl, ?_⟩
    cases hv : valV kvs (ts.map Sum.inl) with
    | some v =>
      obtain ⟨q1, mq1, rfl, cut1⟩ := k1 ts v hv
      have mq1' : q1 ∈ ps := List.mem_of_mem_take mq1
      have ne12 : q1.2 ≠ q.2 := by
        intro e
        have ndj := nd
        rw [← List.take_append_drop j ps, drop_more eq, List.map_append] at ndj
        exact (List.nodup_append.mp ndj).2.2 q1.2 (List.mem_map.mpr ⟨q1, mq1, rfl⟩) q.2 (List.mem_map.mpr ⟨q, List.mem_cons_self, rfl⟩) e
      have ew1 : q1.2 ∈ lsts rs.length sv.toNat := by rw [← ew]; exact List.mem_map.mpr ⟨q1, mq1', rfl⟩
      obtain ⟨v1, v2⟩ := lsts_mem.mp ew1
      have g := DGet.t ekv3 ep'
      rw [hv] at g
      refine iteT ⟨_, rfl, _, rfl, md, _, rfl, g, _, rfl, sz, fun t nt => ?_⟩
      have s7 := same_new nt (.tup [V.str "same", .ref q1.1, .ref q.1])
      have sA := (sm0.trans s3').trans s7
      exact qy t q1.1 q.1 q1.2 q.2 ts _ ((sm0.trans s3').free nt) (qH q1 mq1') (qH q mq) ⟨by omega, v2⟩ ⟨by omega, w2⟩ ne12 cut1 cut upd_same ((s3'.trans s7) _ _ (lst2 q1 mq1')) ((s3'.trans s7) _ _ (lst2 q mq)) sA
    | none =>
      refine iteF ⟨_, rfl, _, rfl, _, rfl, md, _, rfl, DPut.t ekv3 ep' (by rw [sizeLine_eq]; omega), ?_⟩
      have lk := length_putK kvs (ts.map (Sum.inl : Int → Key)) (.ref q.1)
      refine ⟨_, _, _, rfl, upd_same, by omega, fun us v hv' => ?_, fun q' hq' us cut' => ?_, fun q1 h1 q2 h2 us c1 c2 => ?_, fun b o e => ?_⟩
      · rw [take_more eq]
        rw [valV_put] at hv'
        by_cases e : us.map (Sum.inl : Int → Key) = ts.map Sum.inl
        · rw [if_pos e] at hv'
          have := key_inj e
          subst this
          exact ⟨q, List.mem_append_right _ (List.mem_singleton.mpr rfl), (Option.some.inj hv').symm, cut⟩
        · rw [if_neg e] at hv'
          obtain ⟨q', m', e', c'⟩ := k1 us v hv'
          exact ⟨q', List.mem_append_left _ m', e', c'⟩
      · rw [valV_put]
        by_cases e : us.map (Sum.inl : Int → Key) = ts.map Sum.inl
        · rw [if_pos e]; rfl
        · rw [if_neg e]
          rw [take_more eq] at hq'
          rcases List.mem_append.mp hq' with z | z
          · exact k2 q' z us cut'
          · rw [List.mem_singleton.mp z] at cut'
            exact absurd (congrArg _ (cut'.eq cut)) e
      · have no : ∀ q', q' ∈ ps.take j → ∀ us, CutOf c rs q'.2 us → CutOf c rs q.2 us → False := fun q' m' us d1 d2 => by
          have := k2 q' m' us d1
          rw [d2.eq cut, hv] at this
          cases this
        rw [take_more eq] at h1 h2
        rcases List.mem_append.mp h1 with z1 | z1 <;> rcases List.mem_append.mp h2 with z2 | z2
        · exact k3 q1 z1 q2 z2 us c1 c2
        · rw [List.mem_singleton.mp z2] at c2
          exact (no q1 z1 us c1 c2).elim
        · rw [List.mem_singleton.mp z1] at c1
          exact (no q2 z2 us c2 c1).elim
        · rw [List.mem_singleton.mp z1, List.mem_singleton.mp z2]
      · have bmd : b ≠ md := fun z => by rw [z] at e; unfold hide at e; rw [if_pos rfl] at e; cases e
        rw [upd_ne bmd]
        exact s3' _ _ (sm _ _ e)
  · rintro σ H2 ⟨kvs, u3, u4, rfl, ekv, lkv, k1, k2, k3, sm⟩
    refine ⟨sz, fun t nt => ?_⟩
    have sA := sH.trans sm
    refine qn t _ (sA.free nt) (fun w1 w2 ts l1 l2 c1 c2 => ?_) upd_same (sA.trans (same_new nt _))
    have tk : ps.take ((ps.map (·.1)).map V.ref).length = ps := List.take_of_length_le (by rw [List.length_map, List.length_map]; exact Nat.le_refl _)
    rw [tk] at k3
    have m1 : w1 ∈ ps.map (·.2) := by rw [ew]; exact lsts_mem.mpr ⟨by have := l1.1; omega, l1.2⟩
    have m2 : w2 ∈ ps.map (·.2) := by rw [ew]; exact lsts_mem.mpr ⟨by have := l2.1; omega, l2.2⟩
    obtain ⟨q1, mq1, rfl⟩ := List.mem_map.mp m1
    obtain ⟨q2, mq2, rfl⟩ := List.mem_map.mp m2
    exact k3 q1 mq1 q2 mq2 ts c1 c2
end
end K23
namespace K23
open PySem L2 Nd
theorem in2b (a b : V) (k : Bool) : ∃ x, atI [a, b] (if k = true then 1 else 0) = some x ∧ (x = a ∨ x = b) := by
  cases k
  · exact ⟨a, rfl, .inl rfl⟩
  · exact ⟨b, rfl, .inr rfl⟩
theorem eqDs_ints : ∀ a b : List Int, eqDs (a.map PyData.int) (b.map PyData.int) = decide (a = b)
  | [], [] => rfl
  | [], y :: b => by simp [eqDs]
  | x :: a, [] => by simp [eqDs]
  | x :: a, y :: b => by
    have ih := eqDs_ints a b
    simp only [List.map_cons, eqDs, eqD]
    rw [ih]
    by_cases h1 : x = y <;> by_cases h2 : a = b <;> simp [h1, h2]
theorem eqD_word (a b : List Int) : eqD (wordD a) (wordD b) = decide (a = b) := by
  unfold wordD
  simp only [eqD]
  exact eqDs_ints a b
theorem eqD_ilist (a b : List Int) : eqD (.list (a.map PyData.int)) (.list (b.map PyData.int)) = decide (a = b) := by
  simp only [eqD]
  exact eqDs_ints a b
theorem adj_nodup : ∀ {l : List (List Int)}, l.Pairwise (fun x y => HT.lexLt y x = false) → (∀ n x y, l[n]? = some x → l[n + 1]? = some y → x ≠ y) → l.Nodup
  | [], _, _ => List.nodup_nil
  | [x], _, _ => by simp
  | x :: y :: t, pw, h => by
    obtain ⟨p1, p2⟩ := List.pairwise_cons.mp pw
    refine List.nodup_cons.mpr ⟨fun hx => ?_, adj_nodup p2 fun n a b ha hb => h (n + 1) a b ha hb⟩
    have hne := h 0 x y rfl rfl
    rcases List.mem_cons.mp hx with z | z
    · exact hne z
    · exact hne (lex_anti ((List.pairwise_cons.mp p2).1 x z) (p1 y List.mem_cons_self))
theorem nodup_adj {l : List (List Int)} (nd : l.Nodup) : ∀ n x y, l[n]? = some x → l[n + 1]? = some y → x ≠ y := fun n x y hx hy => by
  obtain ⟨h1, rfl⟩ := List.getElem?_eq_some_iff.mp hx
  obtain ⟨h2, rfl⟩ := List.getElem?_eq_some_iff.mp hy
  exact (List.pairwise_iff_getElem.mp nd) n (n + 1) h1 h2 (by omega)
theorem cutA_but (xs : List Addr) : cutA xs none (some (-1)) = xs.take (xs.length - 1) := by
  unfold cutA
  have e : HT.sIx xs.length xs.length (some (-1)) = xs.length - 1 := by
    show (if (-1 : Int) < 0 then ((-1 : Int) + (xs.length : Int)).toNat else min (-1 : Int).toNat xs.length) = _
    rw [if_pos (by decide)]
    omega
  rw [e, HT.sIx_none, List.drop_zero, Nat.sub_zero]
theorem cutA_tail (xs : List Addr) : cutA xs (some 1) none = xs.drop 1 := by
  unfold cutA
  have e : HT.sIx xs.length 0 (some 1) = min 1 xs.length := sIx_pos (by decide)
  rw [e, HT.sIx_none]
  rcases xs with _ | ⟨x, xs⟩
  · rfl
  · rw [show min 1 (x :: xs).length = 1 by rw [List.length_cons]; omega]
    exact List.take_of_length_le (by rw [List.length_drop]; exact Nat.le_refl _)
theorem cutA_pair {xs : List Addr} {n : Nat} {x y : V} (h1 : ((cutA xs none (some (-1))).map V.ref)[n]? = some x) (h2 : ((cutA xs (some 1) none).map V.ref)[n]? = some y) : ∃ r r', x = .ref r ∧ y = .ref r' ∧ xs[n]? = some r ∧ xs[n + 1]? = some r' := by
  rw [cutA_but] at h1
  rw [cutA_tail] at h2
  obtain ⟨r, rfl, e1, _⟩ := ref_at h1
  obtain ⟨r', rfl, e2, _⟩ := ref_at h2
  refine ⟨r, r', rfl, rfl, ?_, ?_⟩
  · rw [List.getElem?_take] at e1
    split at e1
    · exact e1
    · cases e1
  · rw [List.getElem?_drop, Nat.add_comm] at e2
    exact e2
theorem cutA_min (xs : List Addr) : min ((cutA xs none (some (-1))).map V.ref).length ((cutA xs (some 1) none).map V.ref).length = xs.length - 1 := by
  rw [cutA_but, cutA_tail, List.length_map, List.length_map, List.length_take, List.length_drop]
  omega
def Mades (c : Addr → List Int) (rs : List Addr) (ps es : List (Addr × List Int)) : Prop := ∀ (n : Nat) (q e : Addr × List Int), ps[n]? = some q → es[n]? = some e → CutOf c rs q.2 e.2
theorem mades_nodup {c : Addr → List Int} {rs : List Addr} {s : Int} {ps es : List (Addr × List Int)} (h : Mades c rs ps es) (hl : es.length = ps.length) (nd : (ps.map (·.2)).Nodup) (hm : ∀ w, w ∈ ps.map (·.2) ↔ LL rs.length s w) : (es.map (·.2)).Nodup ↔ NoTwins c rs s := by
  constructor
  · intro he w1 w2 ts l1 l2 c1 c2
    obtain ⟨q1, m1, rfl⟩ := List.mem_map.mp ((hm w1).mpr l1)
    obtain ⟨q2, m2, rfl⟩ := List.mem_map.mp ((hm w2).mpr l2)
    obtain ⟨n1, g1, rfl⟩ := List.getElem_of_mem m1
    obtain ⟨n2, g2, rfl⟩ := List.getElem_of_mem m2
    have d1 := h n1 _ es[n1] (List.getElem?_eq_getElem g1) (List.getElem?_eq_getElem (by omega))
    have d2 := h n2 _ es[n2] (List.getElem?_eq_getElem g2) (List.getElem?_eq_getElem (by omega))
    have e1 : es[n1].2 = es[n2].2 := (d1.eq c1).trans (d2.eq c2).symm
    by_cases en : n1 = n2
    · subst en; rfl
    · have pw := List.pairwise_iff_getElem.mp he
      rcases Nat.lt_or_gt_of_ne en with z | z
      · exact absurd (by rw [List.getElem_map, List.getElem_map]; exact e1) (pw n1 n2 (by rw [List.length_map]; omega) (by rw [List.length_map]; omega) z)
      · exact absurd (by rw [List.getElem_map, List.getElem_map]; exact e1.symm) (pw n2 n1 (by rw [List.length_map]; omega) (by rw [List.length_map]; omega) z)
  · intro nt
    refine List.pairwise_iff_getElem.mpr fun i j hi hj ij e => ?_
    rw [List.length_map] at hi hj
    have e' : es[i].2 = es[j].2 := by simpa using e
    have d1 := h i ps[i] es[i] (List.getElem?_eq_getElem (by omega)) (List.getElem?_eq_getElem hi)
    have d2 := h j ps[j] es[j] (List.getElem?_eq_getElem (by omega)) (List.getElem?_eq_getElem hj)
    rw [← e'] at d2
    have w := nt _ _ _ ((hm _).mp (List.mem_map.mpr ⟨_, List.getElem_mem _, rfl⟩)) ((hm _).mp (List.mem_map.mpr ⟨_, List.getElem_mem _, rfl⟩)) d1 d2
    exact absurd (by rw [List.getElem_map, List.getElem_map]; exact w) ((List.pairwise_iff_getElem.mp nd) i j (by rw [List.length_map]; omega) (by rw [List.length_map]; omega) ij)
theorem rd_lists {K : PySem.W.Frag} {H : Hp} {ps : List (Addr × List Int)} (h : Ls H ps) : RdVs K H ((ps.map (·.1)).map V.ref) (ps.map fun p => PyData.list (p.2.map PyData.int)) := by
  rw [List.map_map]
  exact RdVs.of_map ps fun p hp => .lst (SqL.of (h p hp)) (RdVs.ints _)
theorem depth_lists (ps : List (Addr × List Int)) : PyData.depthAll (ps.map fun p => PyData.list (p.2.map PyData.int)) ≤ 60 := Nat.le_trans (depthAll_le (m := 1) fun x hx => by
  obtain ⟨p, _, rfl⟩ := List.mem_map.mp hx
  simp only [PyData.depth]
  rw [depth_ints]
  decide) (by decide)
theorem any_lists {ps : List (Addr × List Int)} {w : List Int} (h : w ∈ ps.map (·.2)) : ((ps.map fun p => PyData.list (p.2.map PyData.int)).any fun e => eqD e (.list (w.map PyData.int))) = true := by
  obtain ⟨p, mp, rfl⟩ := List.mem_map.mp h
  refine List.any_eq_true.mpr ⟨_, List.mem_map.mpr ⟨p, mp, rfl⟩, ?_⟩
  rw [eqD_ilist]
  exact decide_eq_true rfl
section
variable {P : Program} {w : World} {K : PySem.W.Frag} {mg : Str → Option Value} {base : Heap}
theorem sc_law : FnScope ["_law_script", "_law_cell", "_law_draws_here", "_law_pick", "_law_holes", "_law_code_here", "_law_several", "_law_some", "_law_cards", "_law_twins", "_law_kept", "_law_turn", "_law_told"] ["_law_script"] (defScope sLaw) := ⟨rfl, rfl, rfl, by decide +kernel, rfl, by decide +kernel, by decide +kernel⟩
theorem ok_law {f f_apart f_L_draws f_L_next f_L_lists f_L_cut f_L_made : Addr} {fd d_apart d_L_draws d_L_next d_L_lists d_L_cut d_L_made : FuncData} (F : Fun K "law" "law" sLaw f fd)
    (G_apart : FnOk P w K mg base CX0 5 f_apart d_apart ["code", "several"] (spApart)) (b_apart : Binds K d_apart ["code", "several"] []) (k_apart : PySem.W.keepIn K (.ref f_apart) = true) (m_apart : mg "apart" = some (.ref f_apart))
    (G_L_draws : FnOk P w K mg base CX0 1 f_L_draws d_L_draws ["_law_cell"] (spDraws)) (b_L_draws : Binds K d_L_draws ["_law_cell"] []) (k_L_draws : PySem.W.keepIn K (.ref f_L_draws) = true) (m_L_draws : mg "_law_draws" = some (.ref f_L_draws))
    (G_L_next : FnOk P w K mg base CX0 1 f_L_next d_L_next ["_law_draws_here"] (spNext)) (b_L_next : Binds K d_L_next ["_law_draws_here"] []) (k_L_next : PySem.W.keepIn K (.ref f_L_next) = true) (m_L_next : mg "_law_next" = some (.ref f_L_next))
    (G_L_lists : FnOk P w K mg base CX0 1 f_L_lists d_L_lists ["_law_many", "_law_most_of"] (spLists)) (b_L_lists : Binds K d_L_lists ["_law_many", "_law_most_of"] []) (k_L_lists : PySem.W.keepIn K (.ref f_L_lists) = true) (m_L_lists : mg "_law_lists" = some (.ref f_L_lists))
    (G_L_cut : FnOk P w K mg base CX0 1 f_L_cut d_L_cut ["_law_code_here", "_law_numbers"] (spCut K)) (b_L_cut : Binds K d_L_cut ["_law_code_here", "_law_numbers"] []) (k_L_cut : PySem.W.keepIn K (.ref f_L_cut) = true) (m_L_cut : mg "_law_cut" = some (.ref f_L_cut))
    (G_L_made : FnOk P w K mg base CX0 4 f_L_made d_L_made ["_law_draws_here", "_law_holes", "_law_many"] (spMade)) (b_L_made : Binds K d_L_made ["_law_draws_here", "_law_holes", "_law_many"] []) (k_L_made : PySem.W.keepIn K (.ref f_L_made) = true) (m_L_made : mg "_law_made" = some (.ref f_L_made))
    (mz_int : mg "int" = none) (mz_isinstance : mg "isinstance" = none) (mz_len : mg "len" = none) (mz_list : mg "list" = none) (mz_range : mg "range" = none) (mz_sorted : mg "sorted" = none) (mz_tuple : mg "tuple" = none) (mz_zip : mg "zip" = none) :
    FnOk P w K mg base CX0 6 f fd ["_law_script"] (spLaw K) := by
  refine F.ok sc_law (fun vs H Q E h => ?_) (fun cdv A outer s H vs Q E hr h => ?_)
  · obtain ⟨a, ns, rfl, _⟩ := h
    rfl
  obtain ⟨a, ns, rfl, hS, h63, q⟩ := h
  have hr1 : Room 1 _ := hr.mono (by decide)
  have hr2 : Room 2 _ := hr.mono (by decide)
  have hr3 : Room 3 _ := hr.mono (by decide)
  have hr4 : Room 4 _ := hr.mono (by decide)
  have hr5 : Room 5 _ := hr.mono (by decide)
  have hu := hu_of hr
  have hu64 := hr.units
  have CS1 : ∀ {scope : Scope} (h : scope = { kind := .function, names := [(".0", .local), ("_law_numbers", .local), ("_law_cut", .globalImplicit), ("_law_code_here", .free)], isGenerator := false, isCoroutine := false }),
      CompScope (cxOf CX0 P w K mg base ["_law_script", "_law_cell", "_law_draws_here", "_law_pick", "_law_holes", "_law_code_here", "_law_several", "_law_some", "_law_cards", "_law_twins", "_law_kept", "_law_turn", "_law_told"] "law" (defScope sLaw) f cdv A outer s H E).nox scope [("_law_code_here", s.heap.objs.size + 1)] "_law_numbers" ["_law_code_here"] [5] := by
    rintro scope rfl
    refine ⟨by rfl, by decide +kernel, by rfl, by decide +kernel, by rfl, fun y c h => ?_, by rfl, by decide +kernel, rfl, fun k y j e1 e2 => ?_⟩
    · have z := lookup_mem h
      simp only [List.mem_cons, List.not_mem_nil, or_false, Prod.mk.injEq] at z
      obtain ⟨rfl, rfl⟩ := z; rfl
    · match k, e1, e2 with
      | 0, e1, e2 => cases e1; cases e2; exact ⟨rfl, rfl, .inl rfl⟩
      | k + 1, e1, e2 => cases e1
  have CS2 : ∀ {scope : Scope} (h : scope = { kind := .function, names := [(".0", .local), ("_law_card", .local), ("_law_other", .local)], isGenerator := false, isCoroutine := false }),
      CompScope (cxOf CX0 P w K mg base ["_law_script", "_law_cell", "_law_draws_here", "_law_pick", "_law_holes", "_law_code_here", "_law_several", "_law_some", "_law_cards", "_law_twins", "_law_kept", "_law_turn", "_law_told"] "law" (defScope sLaw) f cdv A outer s H E).nox scope [] "_law_card" [] [] := by
    rintro scope rfl
    exact compScope0 (by rfl) (by decide +kernel) (by rfl) (by decide +kernel) (by rfl) (by rfl)
  refine ⟨_, pss_cons (ps_for PassesOwn.never rfl (pi_list (pe_op op_cat (pe_slice (r := rSlL K) sl_list (pv 0) po_none (po_some pe_int)) (pe_lst (pa_cons pe_int pa_nil)))) (pg_name (i := 1) sc_law.nd rfl (Or.inl rfl))
    (pss_cons (ps_set (i := 2) sc_law.nd rfl (Or.inl rfl) (pe_call G_L_draws hr1 rfl m_L_draws k_L_draws b_L_draws .nil pass0 (pa_cons (pv 1) pa_nil)))
      (pss_cons (ps_set (i := 3) sc_law.nd rfl (Or.inl rfl) (pe_call G_L_next hr1 rfl m_L_next k_L_next b_L_next .nil pass0 (pa_cons (pv 2) pa_nil)))
      (pss_cons (ps_set (i := 4) sc_law.nd rfl (Or.inl rfl) (pe_op op_add pe_int (pe_ix (r := rIxL K) ix_list (pe_lst (pa_cons (pe_op op_mod (pe_op op_fdiv (pv 3) pe_int) pe_int) (pa_cons (pe_op op_mod (pe_op op_fdiv (pv 3) pe_int) pe_int) pa_nil))) (pe_callTy call_int1 rfl mz_int (by decide +kernel) (pa_cons (pe_cmpR op_eq (pe_op op_mod (pv 3) pe_int) pe_int (nomark _)) pa_nil)) (fun _ _ => rfl))))
      (pss_cons (ps_set (i := 5) sc_law.nd rfl (Or.inr rfl) (pe_call G_L_made hr4 rfl m_L_made k_L_made b_L_made .nil pass0 (pa_cons (pv 2) (pa_cons (pv 4) (pa_cons (pe_ix (r := rIxL K) ix_list (pe_lst (pa_cons pe_int (pa_cons pe_int pa_nil))) (pe_callTy call_int1 rfl mz_int (by decide +kernel) (pa_cons (pe_cmpR op_eq (pe_op op_mod (pe_op op_fdiv (pv 3) pe_int) pe_int) pe_int (nomark _)) pa_nil)) (fun _ _ => rfl)) pa_nil)))))
      (pss_cons (ps_set (i := 6) sc_law.nd rfl (Or.inl rfl) (pe_op op_add pe_int (pe_op op_mod (pe_call G_L_next hr1 rfl m_L_next k_L_next b_L_next .nil pass0 (pa_cons (pv 2) pa_nil)) pe_int)))
      (pss_cons (ps_set (i := 7) sc_law.nd rfl (Or.inl rfl) (pe_call G_L_lists hr1 rfl m_L_lists k_L_lists b_L_lists .nil pass0 (pa_cons (pe_callB (r := rLen K) len_ok rfl mz_len (by decide +kernel) (pa_cons (pv 5) pa_nil)) (pa_cons (pv 6) pa_nil))))
      (pss_cons (ps_set (i := 8) sc_law.nd rfl (Or.inl rfl) (pe_callB (r := Ts.rSortI K) (Ts.call_sortedI hu64) rfl mz_sorted (by decide +kernel) (pa_cons (pe_comp (CS1 rfl) rfl (pi_list (pv 7)) (fun _ _ _ => pts_none) (fun _ _ _ => pe_call G_L_cut hr1 rfl m_L_cut k_L_cut b_L_cut .nil pass0 (pa_cons (pv 1) (pa_cons (pv 0) pa_nil)))) pa_nil)))
      (pss_cons (ps_setC2 (i0 := 9) sc_law.nd rfl rfl (CS2 rfl) rfl (by decide +kernel) rfl (pi_zip rfl mz_zip (pa_cons (pe_slice (r := rSlL K) sl_list (pv 8) po_none (po_some (pe_un un_neg pe_int))) (pa_cons (pe_slice (r := rSlL K) sl_list (pv 8) (po_some pe_int) po_none) pa_nil))) (fun _ _ _ => pts_one (pt_cmpR (r := rEqD K) (op_eqD hu64) (pv 0) (pv 1) (nomark _))) (fun _ _ _ => pv 0))
      (pss_cons (ps_set (i := 10) sc_law.nd rfl (Or.inl rfl) (pe_callTy (r := rLstC K) list_ok rfl mz_list (by decide +kernel) (pa_cons (pv 5) pa_nil)))
      (pss_cons (ps_for PassesOwn.never rfl (pi_range1 rfl mz_range (pa_cons pe_int pa_nil)) (pg_name (i := 11) sc_law.nd rfl (Or.inl rfl))
      (pss_cons (ps_set (i := 12) sc_law.nd rfl (Or.inl rfl) (pe_call G_apart hr5 rfl m_apart k_apart b_apart .nil pass0 (pa_cons (pv 5) (pa_cons (pv 6) pa_nil))))
        (pss_cons (ps_if (PW.pt (pw_or (pt_not (pt_val (pe_callB (r := rIs K) isi_ok rfl mz_isinstance (by decide +kernel) (pa_cons (pv 12) (pa_cons (pe_bltn (v := .ty "tuple") rfl mz_tuple (by decide +kernel) rfl) pa_nil))))) (pw_or1 (pt_cmpR (r := rNeD K) (op_neD hu64) (pv 5) (pv 10) (nomark _)))))
        (pss_one (ps_ret pe_bl)) pss_nil)
        (pss_cons (ps_if (PW.pt (pw_and (pt_cmpR (r := rEqD K) (op_eqD hu64) (pv 9) (pe_lst pa_nil) (nomark _)) (pw_and1 (pt_cmpR (r := rNeD K) (op_neD hu64) (pv 12) (pe_tup (pa_cons pe_str pa_nil)) (nomark _)))))
        (pss_one (ps_ret pe_bl)) pss_nil)
        (pss_one (ps_if (pt_cmpR (r := rNeD K) (op_neD hu64) (pv 9) (pe_lst pa_nil) (nomark _))
        (pss_cons (ps_if (PW.pt (pw_or (pt_cmpR op_ne (pe_callB (r := rLen K) len_ok rfl mz_len (by decide +kernel) (pa_cons (pv 12) pa_nil)) pe_int (nomark _)) (pw_or (pt_cmpR op_ne (pe_ix (r := rIxT K) ix_tup (pv 12) pe_int (fun _ _ => rfl)) pe_str (nomark _)) (pw_or (pt_cmpR (r := rInD K true) (op_notInD hu64) (pe_ix (r := rIxT K) ix_tup (pv 12) pe_int (fun _ _ => rfl)) (pv 7) (by with_unfolding_all rfl)) (pw_or1 (pt_cmpR (r := rInD K true) (op_notInD hu64) (pe_ix (r := rIxT K) ix_tup (pv 12) pe_int (fun _ _ => rfl)) (pv 7) (by with_unfolding_all rfl)))))))
          (pss_one (ps_ret pe_bl)) pss_nil)
          (pss_cons (ps_if (PW.pt (pw_or (pt_cmpR (r := rEqD K) (op_eqD hu64) (pe_ix (r := rIxT K) ix_tup (pv 12) pe_int (fun _ _ => rfl)) (pe_ix (r := rIxT K) ix_tup (pv 12) pe_int (fun _ _ => rfl)) (nomark _)) (pw_or1 (pt_cmpR (r := rNeD K) (op_neD hu64) (pe_call G_L_cut hr1 rfl m_L_cut k_L_cut b_L_cut .nil pass0 (pa_cons (pv 5) (pa_cons (pe_ix (r := rIxT K) ix_tup (pv 12) pe_int (fun _ _ => rfl)) pa_nil))) (pe_call G_L_cut hr1 rfl m_L_cut k_L_cut b_L_cut .nil pass0 (pa_cons (pv 5) (pa_cons (pe_ix (r := rIxT K) ix_tup (pv 12) pe_int (fun _ _ => rfl)) pa_nil))) (nomark _)))))
          (pss_one (ps_ret pe_bl)) pss_nil)
          (pss_cons (ps_expr (pe_bm PySem.F.plainAttrs_list PySem.F.slot_list_append PySem.F.type_list_append mt_append (pe_ix (r := rIxT K) ix_tup (pv 12) pe_int (fun _ _ => rfl)) (pa_cons pe_non pa_nil)))
          (pss_one (ps_expr (pe_bm PySem.F.plainAttrs_list PySem.F.slot_list_append PySem.F.type_list_append mt_append (pe_ix (r := rIxT K) ix_tup (pv 12) pe_int (fun _ _ => rfl)) (pa_cons pe_non pa_nil))))))) pss_nil))))))
      (pss_one (ps_if (pt_cmpR (r := rNeD K) (op_neD hu64) (pv 5) (pv 10) (nomark _))
      (pss_one (ps_ret pe_bl)) pss_nil)))))))))))))
    (pss_one (ps_ret pe_bl)), ?_⟩
  refine for_cells (m := 12) hS h63 rfl (fun c tl H4 N htl nx => ?_) (fun tl' H' _ => q _)
  match tl, htl with
  | [v1, v2, v3, v4, v5, v6, v7, v8, v9, v10, v11, v12], _ => ?_
  refine ⟨_, rfl, c, rfl, fun d fl H5 nd5 d5 s5 => ?_⟩
  have fin : ∀ {H' : Hp} (tl' : List (Option V)), tl'.length = 12 → SameB d H5 H' → N (some (.ref a) :: tl') H' := fun {H'} tl' hl z => nx tl' H' hl (fun b o e => z b o (ne_of_none e nd5) (s5 _ _ e))
  refine ⟨_, rfl, d, c, 0, fl, rfl, d5, by decide, by decide, fun pk c6 H6 d6 s6 => ?_⟩
  refine ⟨_, rfl, _, _, rfl, rfl, ⟨by decide, by decide⟩, _, _, rfl, rfl, (by show (0 : Int) < 10; decide), _, rfl, _, _, rfl, rfl, ⟨by decide, by decide⟩, _, _, rfl, rfl, (by show (0 : Int) < 60; decide), sz, fun p7 np7 => ?_⟩
  have b10 := emod_in (pk / 8) 10 (by decide)
  have b60 := emod_in (pk / 8) 60 (by decide)
  refine ⟨_, rfl, _, _, rfl, rfl, (by show (0 : Int) < 8; decide), rfl, .inr ⟨_, rfl, ?_⟩⟩
  obtain ⟨hx, ehx, chx⟩ := in2b (.int (pk / 8 % 10)) (.int (pk / 8 % 60)) (decide (V.int (pk % 8) = V.int 1))
  obtain ⟨hx, rfl, hx0, hx1⟩ : ∃ z : Int, hx = .int z ∧ 0 ≤ z ∧ z ≤ 59 := by
    rcases chx with rfl | rfl
    · exact ⟨_, rfl, by omega, by omega⟩
    · exact ⟨_, rfl, by omega, by omega⟩
  have s7 := same_new np7 (.lst [V.int (pk / 8 % 10), V.int (pk / 8 % 60)])
  refine ⟨p7, _, _, _, rfl, rfl, SqL.of upd_same, ehx, _, _, rfl, rfl, ?_⟩
  have d7 := d6.same s7
  have sm7 := s6.trans (SameB.of s7)
  generalize upd H6 p7 (.lst [V.int (pk / 8 % 10), V.int (pk / 8 % 60)]) = H7 at d7 sm7
  -- code
  refine ⟨_, rfl, _, rfl, sz, fun p8 np8 => ?_⟩
  refine ⟨_, rfl, _, _, rfl, rfl, ⟨by decide, by decide⟩, _, _, rfl, rfl, (by show (0 : Int) < 8; decide), rfl, .inr ⟨_, rfl, ?_⟩⟩
  obtain ⟨mn, emn, cmn⟩ := in2b (.int 8) (.int 12) (decide (V.int (pk / 640 % 8) = V.int 1))
  obtain ⟨mn, rfl, mn0, mn1⟩ : ∃ z : Int, mn = .int z ∧ 0 ≤ z ∧ z ≤ 12 := by
    rcases cmn with rfl | rfl
    · exact ⟨8, rfl, by decide, by decide⟩
    · exact ⟨12, rfl, by decide, by decide⟩
  have s8 := same_new np8 (.lst [V.int 8, V.int 12])
  refine ⟨p8, _, _, _, rfl, rfl, SqL.of upd_same, emn, ?_⟩
  refine ⟨d, 1 + hx, mn, c6, 0 + 1, fl, rfl, d7.same s8, by decide, by decide, by omega, by omega, by omega, by omega, fun cd rs c9 k9 H9 ncd ecd lrs wrs d9 k91 k92 s9 => ?_⟩
  obtain ⟨cc, hc⟩ := cards_of wrs
  have r12 : rs.length ≤ 12 := by omega
  have cdd : cd ≠ d := draw_ne (d7.same s8) ncd
  have sm9 := sm7.trans ((SameB.of s8).trans s9)
  -- several
  refine ⟨_, rfl, d, c9, k9, fl, rfl, d9, by omega, by omega, fun r10 c10 H10 d10 s10 => ⟨_, _, rfl, rfl, (by show (0 : Int) < 3; decide), _, _, rfl, rfl, ?_⟩⟩
  have b3 := emod_in r10 3 (by decide)
  have ec10 := s10 _ _ cdd ecd
  have hc10 := hc.sameB d9 s10
  -- some
  refine ⟨_, rfl, cd, _, rfl, .inl (SqL.of ec10), _, rfl, _, 1 + r10 % 3, rfl, by omega, by rw [List.length_map]; omega, by omega, by omega, fun l ps H11 nl el hL lps mL nd s11 => ?_⟩
  rw [List.length_map, Int.toNat_natCast] at mL
  have mL' : ∀ w, w ∈ ps.map (·.2) ↔ LL rs.length (1 + r10 % 3) w := mL
  -- cards
  refine ⟨_, rfl, l, rfl, ⟨_, SqL.of el⟩, ?_⟩
  refine comp_by (walked_list (K := K) (a := l) (xs := (ps.map (·.1)).map V.ref)) (by rw [List.length_map, List.length_map, sizeLine_eq]; omega) (fun D i acc G => ∃ es : List (Addr × List Int), acc = (es.map (·.1)).map V.ref ∧ Ws (hide D G) es ∧ es.length = i ∧ Mades cc rs (ps.take i) es ∧ Same H11 G)
    (fun D nD => ⟨[], rfl, fun _ z => (nomatch z), rfl, fun n q e _ z => (nomatch z), same_new nD _⟩) (fun D i acc G ⟨_, _, _, _, _, sG⟩ => SqL.of (sG _ _ el)) ?_ ?_
  · rintro D i x acc G nD hx' ha ⟨es, rfl, hE, lE, mE, sG⟩
    obtain ⟨q0, rfl, eq, mq⟩ := pair_at hx'
    have il := (List.getElem?_eq_some_iff.mp eq).1
    obtain ⟨w1, w2⟩ := (mL q0.2).mp (List.mem_map.mpr ⟨q0, mq, rfl⟩)
    have w3 := risingAt_len w2
    refine noTest ⟨_, rfl, _, rfl, cd, q0.1, rs, cc, q0.2, rfl, SqL.of ((s11.trans sG) _ _ ec10), Cards.rise (hc10.same (s11.trans sG)), SqL.of (sG _ _ (hL q0 mq)), (fun m hm => by have := w2.2 m hm; omega), by omega, fun p ts H' np ep cut s' => ?_⟩
    have eD := s' _ _ ha
    have pD : p ≠ D := ne_of ep eD (by intro z; cases z)
    refine ⟨eD, es ++ [(p, ts)], by simp, ?_, by rw [List.length_append, List.length_singleton, lE], ?_, same_upd nD (sG.trans s')⟩
    · rw [hide_upd]
      intro y hy
      rcases List.mem_append.mp hy with z | z
      · exact hide_same s' _ _ (hE y z)
      · rw [List.mem_singleton.mp z, hide_ne pD]
        exact ep
    · intro n q' e' h1 h2
      rw [take_more eq] at h1
      have lt : (ps.take i).length = i := by rw [List.length_take]; omega
      by_cases hn : n < i
      · rw [List.getElem?_append_left (by omega)] at h1
        rw [List.getElem?_append_left (by omega)] at h2
        exact mE n q' e' h1 h2
      · rw [List.getElem?_append_right (by omega), lt] at h1
        rw [List.getElem?_append_right (by omega), lE] at h2
        have hn' : n - i = 0 := by
          cases z : n - i with
          | zero => rfl
          | succ k => rw [z] at h1; cases h1
        rw [hn'] at h1 h2
        cases h1
        cases h2
        exact cut
  rintro D acc G nD eD ⟨es, rfl, hE, lE, mE, sG⟩
  have tkp : ps.take ((ps.map (·.1)).map V.ref).length = ps := List.take_of_length_le (by rw [List.length_map, List.length_map]; exact Nat.le_refl _)
  rw [tkp] at mE
  rw [List.length_map, List.length_map] at lE
  have twn := mades_nodup (s := 1 + r10 % 3) mE lE nd mL'
  have hE' : Ws G es := hE.same hide_in
  have hcO : ∀ e ∈ es, cOf G e.1 = e.2 := fun e he => cOf_eq (hE' e he)
  have hsq : ∀ r ∈ es.map (·.1), G r = some (.tup ((cOf G r).map V.int)) := fun r hr => by
    obtain ⟨e, he, rfl⟩ := List.mem_map.mp hr
    rw [hcO e he]
    exact hE' e he
  refine ⟨D, es.map (·.1), cOf G, rfl, SqL.of eD, fun r hr => SqT.of (hsq r hr), fun pcd rs' npcd perm pw => ?_⟩
  have nodup_iff : (rs'.map (cOf G)).Nodup ↔ NoTwins cc rs (1 + r10 % 3) := by
    rw [← twn]
    have e1 : (es.map (·.1)).map (cOf G) = es.map (·.2) := by
      rw [List.map_map]
      exact List.map_congr_left fun e he => hcO e he
    rw [← e1]
    exact (perm.map _).nodup_iff
  have pw' : (rs'.map (cOf G)).Pairwise (fun x y => HT.lexLt y x = false) := List.pairwise_map.mpr pw
  have lrs' : rs'.length = ps.length := by rw [perm.length_eq, List.length_map, lE]
  have hsq' : ∀ r ∈ rs', G r = some (.tup ((cOf G r).map V.int)) := fun r hr => hsq r (perm.mem_iff.mp hr)
  generalize cOf G = cO at nodup_iff pw' hsq'
  have s12 := same_new npcd (.lst (rs'.map V.ref))
  have epcd := upd_same (H := G) (a := pcd) (o := .lst (rs'.map V.ref))
  have hsq2 : ∀ r ∈ rs', _ := fun r hr => s12 _ _ (hsq' r hr)
  have s11_12 := sG.trans s12
  generalize upd G pcd (.lst (rs'.map V.ref)) = G2 at epcd hsq2 s11_12
  -- twins
  refine ⟨_, rfl, _, rfl, _, rfl, pcd, _, rfl, SqL.of epcd, fun pA npA => ?_⟩
  rw [cut_refs]
  have sA1 := same_new npA (.lst ((cutA rs' none (some (-1))).map V.ref))
  have epA := upd_same (H := G2) (a := pA) (o := .lst ((cutA rs' none (some (-1))).map V.ref))
  refine ⟨_, rfl, 1, rfl, pcd, _, rfl, SqL.of (sA1 _ _ epcd), fun pB npB => ?_⟩
  rw [cut_refs]
  have sB1 := same_new npB (.lst ((cutA rs' (some 1) none).map V.ref))
  have epB := upd_same (H := upd G2 pA (.lst ((cutA rs' none (some (-1))).map V.ref))) (a := pB) (o := .lst ((cutA rs' (some 1) none).map V.ref))
  have epA3 := sB1 _ _ epA
  have sAB := sA1.trans sB1
  generalize upd (upd G2 pA (.lst ((cutA rs' none (some (-1))).map V.ref))) pB (.lst ((cutA rs' (some 1) none).map V.ref)) = G3 at epB epA3 sAB
  have hsq3 : ∀ r ∈ rs', G3 r = some (.tup ((cO r).map V.int)) := fun r hr => sAB _ _ (hsq2 r hr)
  have rdw : ∀ {H' : Hp}, Same G3 H' → ∀ r ∈ rs', RdV K H' (.ref r) (wordD (cO r)) := fun s r hr => .tup (SqT.of (s _ _ (hsq3 r hr))) (RdVs.ints _)
  refine ⟨pA, pB, rfl, ⟨_, SqL.of epA3⟩, ⟨_, SqL.of epB⟩, ?_⟩
  refine comp_zipBy (K := K) (a := pA) (b := pB) (xs := (cutA rs' none (some (-1))).map V.ref) (ys := (cutA rs' (some 1) none).map V.ref) (by rw [List.length_map]; have := (cutA_sub rs' none (some (-1))).length_le; rw [sizeLine_eq]; omega) (fun D i acc G => ∃ tw : List Addr, acc = tw.map V.ref ∧ (∀ r ∈ tw, r ∈ rs') ∧ (tw = [] ↔ ∀ n, n < i → ∀ x y, rs'[n]? = some x → rs'[n + 1]? = some y → cO x ≠ cO y) ∧ Same G3 G)
    (fun D nD => ⟨[], rfl, (fun _ z => (nomatch z)), ⟨fun _ n z => absurd z (Nat.not_lt_zero _), fun _ => rfl⟩, same_new nD _⟩) (fun D i acc G ⟨_, _, _, _, sG⟩ => ⟨SqL.of (sG _ _ epA3), SqL.of (sG _ _ epB)⟩) ?_ ?_
  · rintro D i x y acc G' t nD hx' hy' ha ⟨tw, rfl, mt, et, sG'⟩ nt
    obtain ⟨r, r', rfl, rfl, e1, e2⟩ := cutA_pair hx' hy'
    have st := same_new nt (.tup [V.ref r, V.ref r'])
    have sGt := sG'.trans st
    have mr := List.mem_of_getElem? e1
    have mr' := List.mem_of_getElem? e2
    refine ⟨_, rfl, _, rfl, wordD (cO r), wordD (cO r'), rdw sGt r mr, rdw sGt r' mr', Nat.le_trans (depth_word _) (by decide), _, rfl, ?_⟩
    rw [eqD_word]
    by_cases he : cO r = cO r'
    · rw [decide_eq_true he]
      refine iteT ⟨_, rfl, st _ _ ha, tw ++ [r], by simp, (fun z hz => ?_), ⟨fun z => absurd z (by simp), fun z => absurd he (z i (by omega) r r' e1 e2)⟩, same_upd nD sGt⟩
      rcases List.mem_append.mp hz with z1 | z1
      · exact mt z z1
      · rw [List.mem_singleton.mp z1]; exact mr
    · rw [decide_eq_false he]
      refine iteF ⟨st _ _ ha, tw, rfl, mt, et.trans ⟨fun z n hn x y h1 h2 => ?_, fun z n hn => z n (by omega)⟩, sGt⟩
      by_cases hn' : n = i
      · subst hn'
        rw [e1] at h1
        rw [e2] at h2
        cases h1
        cases h2
        exact he
      · exact z n (by omega) x y h1 h2
  rintro D2 acc G4 nD2 eD2 ⟨tw, rfl, mt, et, sG4⟩
  rw [cutA_min] at et
  have twE : tw = [] ↔ NoTwins cc rs (1 + r10 % 3) := by
    rw [← nodup_iff, et]
    constructor
    · intro z
      refine adj_nodup pw' fun n x y h1 h2 => ?_
      rw [List.getElem?_map] at h1 h2
      cases g1 : rs'[n]? with
      | none => rw [g1] at h1; cases h1
      | some r =>
        cases g2 : rs'[n + 1]? with
        | none => rw [g2] at h2; cases h2
        | some r' =>
          rw [g1] at h1
          rw [g2] at h2
          cases h1
          cases h2
          have := (List.getElem?_eq_some_iff.mp g2).1
          exact z n (by omega) r r' g1 g2
    · intro z n _ x y h1 h2
      exact nodup_adj z n _ _ (by rw [List.getElem?_map, h1]; rfl) (by rw [List.getElem?_map, h2]; rfl)
  have s4 := s11_12.trans (sAB.trans sG4)
  -- kept
  refine ⟨_, rfl, cd, _, rfl, .inl (SqL.of ((s11.trans s4) _ _ ec10)), fun kp nkp => ?_⟩
  have s13 := same_new nkp (.lst (rs.map V.ref))
  have ekp := upd_same (H := G4) (a := kp) (o := .lst (rs.map V.ref))
  have sA := (s11.trans s4).trans s13
  have ecA := sA _ _ ec10
  have hcA := hc10.same sA
  have elA := (s4.trans s13) _ _ el
  have hLA : Ls _ ps := hL.to (s4.trans s13)
  have etwA := s13 _ _ eD2
  have rdtA : ∀ r ∈ tw, _ := fun r hr => s13 _ _ (sG4 _ _ (hsq3 r (mt r hr)))
  have smA := (sm9.trans s10).trans (SameB.of sA)
  generalize upd G4 kp (.lst (rs.map V.ref)) = HA at ekp ecA hcA elA hLA etwA rdtA smA
  have rdtw : ∀ {H' : Hp}, Same HA H' → RdV K H' (.ref D2) (codeD cO tw) := fun s => .lst (SqL.of (s _ _ etwA)) (RdVs.of_map tw fun r hr => .tup (SqT.of (s _ _ (rdtA r hr))) (RdVs.ints _))
  have dtw : (codeD cO tw).depth ≤ 60 := depth_code _ _
  have nilE : eqD (codeD cO tw) (.list []) = tw.isEmpty := by
    show eqD (.list (tw.map fun r => wordD (cO r))) (.list []) = _
    rw [eqD_nil]
    cases tw <;> rfl
  refine ⟨2, rfl, by decide, by decide, for_range (lo := 0) (n := 2) (fun j σ H3 => ∃ (u11 u12 : Option V), σ = [some (.ref a), some (.int c), some (.ref d), some (.int pk), some (.int (1 + hx)), some (.ref cd), some (.int (1 + r10 % 3)), some (.ref l), some (.ref pcd), some (.ref D2), some (.ref kp), u11, u12] ∧ Same HA H3)
    ⟨v11, v12, rfl, Same.refl _⟩ ?_ ?_⟩
  · rintro j σ H3 hj ⟨u11, u12, rfl, sm⟩
    have kept : ∀ {H' : Hp}, Same HA H' → RdV K H' (.ref cd) (codeD cc rs) ∧ RdV K H' (.ref kp) (codeD cc rs) := fun s => ⟨rd_code (s _ _ ecA) (hcA.same s), rd_code (s _ _ ekp) (hcA.same s)⟩
    refine ⟨_, rfl, _, rfl, cd, rs, cc, 1 + r10 % 3, rfl, sm _ _ ecA, r12, hcA.same sm, by omega, by omega, (fun t H4' nt none_ et4 s4 => ?_), (fun t q1 q2 w1 w2 ts H4' nt nq1 nq2 l1 l2 ne cut1 cut2 et4 eq1 eq2 s4 => ?_)⟩
    · have s34 := sm.trans s4
      have hnil : tw.isEmpty = true := by rw [twE.mpr none_]; rfl
      refine ⟨_, rfl, .ref t, "tuple", _, true, rfl, .tup et4, kit_eq, _, rfl, iteF ⟨_, rfl, _, rfl, codeD cc rs, codeD cc rs, (kept s34).1, (kept s34).2, depth_code _ _, _, rfl, ?_⟩⟩
      rw [((kept s34).1).eqD_self]
      refine iteF ⟨_, rfl, sz, fun p5 np5 => ?_⟩
      have s5' := same_new np5 (.lst [])
      refine ⟨codeD cO tw, .list [], rdtw (s34.trans s5'), .lst (SqL.of upd_same) .nil, dtw, _, rfl, ?_⟩
      rw [nilE, hnil]
      refine iteT ⟨_, rfl, sz, fun p6 np6 => ?_⟩
      have s6' := same_new np6 (.tup [V.str "apart"])
      have rd6 : ∀ {H' : Hp} {z : Addr}, H' z = some (.tup [V.str "apart"]) → RdV K H' (.ref z) (.tuple [.str "apart"]) := fun e => .tup (SqT.of e) (.cons (.str _) .nil)
      refine ⟨.tuple [.str "apart"], .tuple [.str "apart"], rd6 ((s5'.trans s6') _ _ et4), rd6 upd_same, (by simp [PyData.depth, PyData.depthAll]), _, rfl, ?_⟩
      rw [(rd6 ((s5'.trans s6') _ _ et4)).eqD_self]
      have s36 := (s34.trans s5').trans s6'
      refine iteF ⟨_, rfl, sz, fun p7 np7 => ?_⟩
      have s7' := same_new np7 (.lst [])
      refine ⟨codeD cO tw, .list [], rdtw (s36.trans s7'), .lst (SqL.of upd_same) .nil, dtw, _, rfl, ?_⟩
      rw [nilE, hnil]
      exact iteF ⟨_, _, rfl, s36.trans s7'⟩
    · have s34 := sm.trans s4
      have hne : tw.isEmpty = false := by
        cases tw with
        | nil => exact absurd (twE.mp rfl w1 w2 ts l1 l2 cut1 cut2) ne
        | cons => rfl
      refine ⟨_, rfl, .ref t, "tuple", _, true, rfl, .tup et4, kit_eq, _, rfl, iteF ⟨_, rfl, _, rfl, codeD cc rs, codeD cc rs, (kept s34).1, (kept s34).2, depth_code _ _, _, rfl, ?_⟩⟩
      rw [((kept s34).1).eqD_self]
      refine iteF ⟨_, rfl, sz, fun p5 np5 => ?_⟩
      have s5' := same_new np5 (.lst [])
      refine ⟨codeD cO tw, .list [], rdtw (s34.trans s5'), .lst (SqL.of upd_same) .nil, dtw, _, rfl, ?_⟩
      rw [nilE, hne]
      refine iteF (iteF ⟨_, rfl, sz, fun p7 np7 => ?_⟩)
      have s7' := same_new np7 (.lst [])
      have s57 := s5'.trans s7'
      refine ⟨codeD cO tw, .list [], rdtw (s34.trans s57), .lst (SqL.of upd_same) .nil, dtw, _, rfl, ?_⟩
      rw [nilE, hne]
      have s37 := s34.trans s57
      have et7 := s57 _ _ et4
      have eq17 := s57 _ _ eq1
      have eq27 := s57 _ _ eq2
      generalize upd (upd H4' p5 (.lst [])) p7 (.lst []) = H7' at s37 et7 eq17 eq27
      have rd1 : RdV K H7' (.ref q1) (.list (w1.map PyData.int)) := .lst (SqL.of eq17) (RdVs.ints _)
      have rd2 : RdV K H7' (.ref q2) (.list (w2.map PyData.int)) := .lst (SqL.of eq27) (RdVs.ints _)
      refine iteT ⟨_, rfl, t, _, rfl, .inr (SqT.of et7), rfl, _, rfl, iteF ⟨_, rfl, t, _, _, _, rfl, rfl, SqT.of et7, rfl, rfl, _, rfl, iteF ⟨_, rfl, t, _, _, _, rfl, rfl, SqT.of et7, rfl, _, rfl, l, _, _, _, rfl, .inl (SqL.of (s37 _ _ elA)), rd1, rd_lists (hLA.to s37), depth_lists _, _, rfl, ?_⟩⟩⟩
      rw [any_lists ((mL' w1).mpr l1)]
      refine iteF ⟨_, rfl, t, _, _, _, rfl, rfl, SqT.of et7, rfl, _, rfl, l, _, _, _, rfl, .inl (SqL.of (s37 _ _ elA)), rd2, rd_lists (hLA.to s37), depth_lists _, _, rfl, ?_⟩
      rw [any_lists ((mL' w2).mpr l2)]
      refine iteF ⟨_, rfl, t, _, _, _, rfl, rfl, SqT.of et7, rfl, _, rfl, t, _, _, _, rfl, rfl, SqT.of et7, rfl, _, _, rd1, rd2, (by simp only [PyData.depth]; rw [depth_ints]; decide), _, rfl, ?_⟩
      rw [eqD_ilist, decide_eq_false ne]
      have bnd : ∀ w, LL rs.length (1 + r10 % 3) w → (∀ m ∈ w, 0 ≤ m ∧ m < (rs.length : Int)) ∧ w.length ≤ 60 := fun w lw => ⟨fun m hm => by have := lw.2.2 m hm; omega, by have := risingAt_len lw.2; omega⟩
      refine iteF ⟨_, rfl, _, rfl, t, _, _, _, rfl, rfl, SqT.of et7, rfl, cd, q1, rs, cc, w1, rfl, SqL.of (s37 _ _ ecA), Cards.rise (hcA.same s37), SqL.of eq17, (bnd w1 l1).1, (bnd w1 l1).2, fun p8 t8 H8 np8 ep8 cut8 s8 => ?_⟩
      refine ⟨_, rfl, _, rfl, t, _, _, _, rfl, rfl, SqT.of (s8 _ _ et7), rfl, cd, q2, rs, cc, w2, rfl, SqL.of ((s37.trans s8) _ _ ecA), Cards.rise (hcA.same (s37.trans s8)), SqL.of (s8 _ _ eq27), (bnd w2 l2).1, (bnd w2 l2).2, fun p9 t9 H9 np9 ep9 cut9 s9 => ?_⟩
      have e89 : t8 = t9 := (cut8.eq cut1).trans (cut9.eq cut2).symm
      subst e89
      have rd8 : RdV K H9 (.ref p8) (wordD t8) := .tup (SqT.of (s9 _ _ ep8)) (RdVs.ints _)
      refine ⟨_, _, rd8, .tup (SqT.of ep9) (RdVs.ints _), Nat.le_trans (depth_word _) (by decide), _, rfl, ?_⟩
      rw [show eqD (wordD t8) (.tuple (t8.map PyData.int)) = true from rd8.eqD_self]
      have s79 := s8.trans s9
      have s39 := s37.trans s79
      have et9 := s79 _ _ et7
      have eq19 := s79 _ _ eq17
      have eq29 := s79 _ _ eq27
      have q12 : q2 ≠ q1 := fun z => by
        rw [z, eq19] at eq29
        have := Option.some.inj eq29
        injection this with this
        exact ne (ints_inj this)
      have tq1 : t ≠ q1 := ne_of et9 eq19 (by intro z; cases z)
      have nq1A := sm.free nq1
      have nq2A := sm.free nq2
      refine iteF ⟨_, rfl, t, _, _, _, rfl, rfl, SqT.of et9, rfl, .inl ⟨rfl, _, SqL.of eq19⟩, q1, _, _, rfl, rfl, eq19, (by rw [List.length_map]; exact small1000 (by have := (bnd w1 l1).2; omega)), ?_⟩
      have etX := (upd_ne (o := .lst (w1.map V.int ++ [V.non])) tq1).trans et9
      have eqX := (upd_ne (o := .lst (w1.map V.int ++ [V.non])) q12).trans eq29
      have sX := same_upd (o := .lst (w1.map V.int ++ [V.non])) nq1A s39
      exact ⟨_, rfl, t, _, _, _, rfl, rfl, SqT.of etX, rfl, .inl ⟨rfl, _, SqL.of eqX⟩, q2, _, _, rfl, rfl, eqX, (by rw [List.length_map]; exact small1000 (by have := (bnd w2 l2).2; omega)), _, _, rfl, same_upd nq2A sX⟩
  · rintro σ H3 ⟨u11, u12, rfl, sm⟩
    refine ⟨_, rfl, _, rfl, codeD cc rs, codeD cc rs, rd_code (sm _ _ ecA) (hcA.same sm), rd_code (sm _ _ ekp) (hcA.same sm), depth_code _ _, _, rfl, ?_⟩
    rw [(rd_code (K := K) (sm _ _ ecA) (hcA.same sm)).eqD_self]
    exact iteF (fin _ rfl (smA.trans (SameB.of sm)))
end
end K23
namespace K23
open PySem L2 Nd
structure Def (K : PySem.W.Frag) (x : Str) (st : Stmt) (f : Addr) (fd : FuncData) : Prop where
  nm : PySem.W.nsIn K mainGlobals x = some (some (.ref f))
  fn : Fun K x x st f fd
theorem def_mk {K : PySem.W.Frag} {x : Str} {st : Stmt} {f : Addr} {od an : Option Addr} {sl : Array (Option Value)} {oc kV dc pm cd ct : Value}
    (a : PySem.W.nsIn K mainGlobals x = some (some (.ref f))) (l : K.lookup f = some ⟨oc, od, .func (PySem.W.fnOf x x (defArgs st) (defBody st) (defScope st) .none kV dc pm an cd ct), sl⟩) (c : PySem.W.codeIn K cd x = true) (k : PySem.W.keepIn K (.ref f) = true) :
    Def K x st f (PySem.W.fnOf x x (defArgs st) (defBody st) (defScope st) .none kV dc pm an cd ct) := ⟨a, fun_mk l c k⟩
theorem all_mk {l : PySem.W.OpenLaw} {w : World} {K : PySem.W.Frag} {h : Heap} {mg : Str → Option Value} {fa f1 f2 f3 f4 f5 f6 f7 f8 f9 f10 f11 f12 f13 f14 f15 : Addr} {d1 d2 d3 d4 d5 d6 d7 d8 d9 d10 d11 d12 d13 d14 : FuncData} (X : K.In h) (G : h.Ns mainGlobals mg) (hfa : mg "law" = some (.ref fa))
    {od an : Option Addr} {sl : Array (Option Value)} {oc kV dc pm cd ct : Value}
    (D1 : Def K "together" sTogether f1 d1) (D2 : Def K "_law_draws" sDraws f2 d2) (D3 : Def K "_law_next" sNext f3 d3) (D4 : Def K "_law_word" sWord f4 d4) (D5 : Def K "_law_code" sCode f5 d5) (D6 : Def K "choose" s_choose f6 d6) (D7 : Def K "word_at" s_word_at f7 d7) (D8 : Def K "words_of" s_words_of f8 d8) (D9 : Def K "cut_in" s_cut_in f9 d9) (D10 : Def K "_law_cut" s__law_cut f10 d10) (D11 : Def K "number_lists" s_number_lists f11 d11) (D12 : Def K "_law_lists" s__law_lists f12 d12) (D13 : Def K "_law_made" s__law_made f13 d13) (D14 : Def K "apart" s_apart f14 d14)
    (aL : PySem.W.nsIn K mainGlobals "law" = some (some (.ref f15))) (lL : K.lookup f15 = some ⟨oc, od, .func (PySem.W.fnOf "law" "law" (defArgs sLaw) (defBody sLaw) (defScope sLaw) .none kV dc pm an cd ct), sl⟩) (cL : PySem.W.codeIn K cd "law" = true) (kL : PySem.W.keepIn K (.ref f15) = true)
    (z1 : PySem.W.nsIn K mainGlobals "tuple" = some none) (z2 : PySem.W.nsIn K mainGlobals "sorted" = some none) (z3 : PySem.W.nsIn K mainGlobals "set" = some none) (z4 : PySem.W.nsIn K mainGlobals "range" = some none) (z5 : PySem.W.nsIn K mainGlobals "len" = some none) (z6 : PySem.W.nsIn K mainGlobals "min" = some none) (z7 : PySem.W.nsIn K mainGlobals "list" = some none) (z8 : PySem.W.nsIn K mainGlobals "enumerate" = some none) (z9 : PySem.W.nsIn K mainGlobals "int" = some none) (z10 : PySem.W.nsIn K mainGlobals "isinstance" = some none) (z11 : PySem.W.nsIn K mainGlobals "zip" = some none) :
    ∃ fd : FuncData, (∀ (s : Shared) (v : Value), BindsTo s fd ⟨[v], []⟩ [("_law_script", v)]) ∧ ∀ base : Heap, K.In base → base.Ns mainGlobals mg → FnOk l.prog w K mg base CX0 6 fa fd ["_law_script"] (spLaw K) := by
  have e := hfa.symm.trans (PySem.W.mg_of X G aL)
  cases e
  have FL := fun_mk (st := sLaw) lL cL kL
  have b1 := D1.fn.binds (ps := ["one", "other"]) fun _ _ _ _ _ _ us hl => match us, hl with | [_, _], _ => rfl
  have b2 := D2.fn.binds (ps := ["_law_cell"]) fun _ _ _ _ _ _ us hl => match us, hl with | [_], _ => rfl
  have b3 := D3.fn.binds (ps := ["_law_draws_here"]) fun _ _ _ _ _ _ us hl => match us, hl with | [_], _ => rfl
  have b4 := D4.fn.binds (ps := ["_law_draws_here", "_law_holes"]) fun _ _ _ _ _ _ us hl => match us, hl with | [_, _], _ => rfl
  have b5 := D5.fn.binds (ps := ["_law_draws_here", "_law_holes", "_law_many"]) fun _ _ _ _ _ _ us hl => match us, hl with | [_, _, _], _ => rfl
  have b6 := D6.fn.binds (ps := ["n", "k"]) fun _ _ _ _ _ _ us hl => match us, hl with | [_, _], _ => rfl
  have b7 := D7.fn.binds (ps := ["holes", "many", "number"]) fun _ _ _ _ _ _ us hl => match us, hl with | [_, _, _], _ => rfl
  have b8 := D8.fn.binds (ps := ["holes", "many"]) fun _ _ _ _ _ _ us hl => match us, hl with | [_, _], _ => rfl
  have b9 := D9.fn.binds (ps := ["code", "numbers"]) fun _ _ _ _ _ _ us hl => match us, hl with | [_, _], _ => rfl
  have b10 := D10.fn.binds (ps := ["_law_code_here", "_law_numbers"]) fun _ _ _ _ _ _ us hl => match us, hl with | [_, _], _ => rfl
  have b11 := D11.fn.binds (ps := ["many", "several"]) fun _ _ _ _ _ _ us hl => match us, hl with | [_, _], _ => rfl
  have b12 := D12.fn.binds (ps := ["_law_many", "_law_most_of"]) fun _ _ _ _ _ _ us hl => match us, hl with | [_, _], _ => rfl
  have b13 := D13.fn.binds (ps := ["_law_draws_here", "_law_holes", "_law_many"]) fun _ _ _ _ _ _ us hl => match us, hl with | [_, _, _], _ => rfl
  have b14 := D14.fn.binds (ps := ["code", "several"]) fun _ _ _ _ _ _ us hl => match us, hl with | [_, _], _ => rfl
  have m1 := PySem.W.mg_of X G D1.nm
  have m2 := PySem.W.mg_of X G D2.nm
  have m3 := PySem.W.mg_of X G D3.nm
  have m4 := PySem.W.mg_of X G D4.nm
  have m5 := PySem.W.mg_of X G D5.nm
  have m6 := PySem.W.mg_of X G D6.nm
  have m7 := PySem.W.mg_of X G D7.nm
  have m8 := PySem.W.mg_of X G D8.nm
  have m9 := PySem.W.mg_of X G D9.nm
  have m10 := PySem.W.mg_of X G D10.nm
  have m11 := PySem.W.mg_of X G D11.nm
  have m12 := PySem.W.mg_of X G D12.nm
  have m13 := PySem.W.mg_of X G D13.nm
  have m14 := PySem.W.mg_of X G D14.nm
  have y1 := PySem.W.mg_none_of X G z1
  have y2 := PySem.W.mg_none_of X G z2
  have y3 := PySem.W.mg_none_of X G z3
  have y4 := PySem.W.mg_none_of X G z4
  have y5 := PySem.W.mg_none_of X G z5
  have y6 := PySem.W.mg_none_of X G z6
  have y7 := PySem.W.mg_none_of X G z7
  have y8 := PySem.W.mg_none_of X G z8
  have y9 := PySem.W.mg_none_of X G z9
  have y10 := PySem.W.mg_none_of X G z10
  have y11 := PySem.W.mg_none_of X G z11
  refine ⟨PySem.W.fnOf "law" "law" (defArgs sLaw) (defBody sLaw) (defScope sLaw) .none kV dc pm an cd ct, fun s v => .of_eq rfl, fun base _ _ => ?_⟩
  have g1 := ok_together (P := l.prog) (w := w) (mg := mg) (base := base) D1.fn y1 y2 y3
  have g2 := ok_draws (P := l.prog) (w := w) (mg := mg) (base := base) D2.fn 
  have g3 := ok_next (P := l.prog) (w := w) (mg := mg) (base := base) D3.fn 
  have g4 := ok_word (P := l.prog) (w := w) (mg := mg) (base := base) D4.fn g3 b3 D3.fn.kp m3 y4 y1
  have g5 := ok_code (P := l.prog) (w := w) (mg := mg) (base := base) D5.fn g3 b3 D3.fn.kp m3 g4 b4 D4.fn.kp m4 y4 y5 y1 y2 y3
  have g6 := ok_choose (P := l.prog) (w := w) (mg := mg) (base := base) D6.fn y6 y4
  have g7 := ok_word_at (P := l.prog) (w := w) (mg := mg) (base := base) D7.fn g6 b6 D6.fn.kp m6 y5
  have g8 := ok_words_of (P := l.prog) (w := w) (mg := mg) (base := base) D8.fn g6 b6 D6.fn.kp m6 g7 b7 D7.fn.kp m7 y4
  have g9 := ok_cut_in (P := l.prog) (w := w) (mg := mg) (base := base) D9.fn g1 b1 D1.fn.kp m1
  have g10 := ok_lcut (P := l.prog) (w := w) (mg := mg) (base := base) D10.fn y1 y2
  have g11 := ok_number_lists (P := l.prog) (w := w) (mg := mg) (base := base) D11.fn g8 b8 D8.fn.kp m8 y7 y6 y4
  have g12 := ok_llists (P := l.prog) (w := w) (mg := mg) (base := base) D12.fn y4
  have g13 := ok_lmade (P := l.prog) (w := w) (mg := mg) (base := base) D13.fn g3 b3 D3.fn.kp m3 g5 b5 D5.fn.kp m5 g10 b10 D10.fn.kp m10 y8 y5
  have g14 := ok_apart (P := l.prog) (w := w) (mg := mg) (base := base) D14.fn g9 b9 D9.fn.kp m9 g11 b11 D11.fn.kp m11 y5
  exact ok_law FL g14 b14 D14.fn.kp m14 g2 b2 D2.fn.kp m2 g3 b3 D3.fn.kp m3 g12 b12 D12.fn.kp m12 g10 b10 D10.fn.kp m10 g13 b13 D13.fn.kp m13 y9 y10 y5 y7 y4 y2 y1 y11
theorem walk {l : PySem.W.OpenLaw} {q : Program} {loose : List Str} {XP : (Str → Option Value) → Heap → Prop} {YP : World → Heap → Prop} {d : DefRec} {K : Params → PySem.W.Frag} (hn : l.most = some 63) (hdf : d.params.defaults = [])
    (hY : ∀ (w : World) (h : Heap), YP w h → (K w.params).In h)
    (F : ∀ (w : World) (mg : Str → Option Value) (fa : Addr) (h : Heap), (K w.params).In h → h.Ns mainGlobals mg → mg d.name = some (.ref fa) →
      ∃ fd : FuncData, (∀ (s : Shared) (u : Value), BindsTo s fd ⟨[u], []⟩ [("_law_script", u)]) ∧ ∀ base : Heap, (K w.params).In base → base.Ns mainGlobals mg → FnOk l.prog w (K w.params) mg base CX0 6 fa fd ["_law_script"] (spLaw (K w.params))) :
    PySem.W.WalkO q loose XP YP l.row.toRowW d [] (fun f vs => PySem.call f vs) :=
  L2.walk_of (n := 63) (k := 6) (x := "_law_script") (CX := fun _ => CX0) (sp := fun w => spLaw (K w.params)) hn (by decide) hdf ⟨rfl, by decide, by decide, rfl⟩ hY F (fun _ _ a ns hl _ hS => ⟨a, ns, rfl, hS, hl, fun _ => rfl⟩) fun _ _ _ _ _ z => z
end K23
open PySem PySem.W PyProof.Rows
set_option maxRecDepth 100000 in
set_option maxHeartbeats 0 in
theorem PySem.Challenge.cw_needledeck_k23_codes_apart_holds : PySem.Challenge.rw_needledeck_k23_codes_apart.Holds := by
  w_on; o_law; k_head; (case hw => w_witness2)
  k_fill
  refine K23.walk (l := PySem.Challenge.rw_needledeck_k23_codes_apart) rfl rfl (fun w h Y => PySem.W.kIn_of Y) ?F
  case F =>
    intro w mg fa h KX G hmg
    refine' K23.all_mk KX G hmg (K23.def_mk ?a1 ?l1 ?c1 ?k1) (K23.def_mk ?a2 ?l2 ?c2 ?k2) (K23.def_mk ?a3 ?l3 ?c3 ?k3) (K23.def_mk ?a4 ?l4 ?c4 ?k4) (K23.def_mk ?a5 ?l5 ?c5 ?k5) (K23.def_mk ?a6 ?l6 ?c6 ?k6) (K23.def_mk ?a7 ?l7 ?c7 ?k7) (K23.def_mk ?a8 ?l8 ?c8 ?k8) (K23.def_mk ?a9 ?l9 ?c9 ?k9) (K23.def_mk ?a10 ?l10 ?c10 ?k10) (K23.def_mk ?a11 ?l11 ?c11 ?k11) (K23.def_mk ?a12 ?l12 ?c12 ?k12) (K23.def_mk ?a13 ?l13 ?c13 ?k13) (K23.def_mk ?a14 ?l14 ?c14 ?k14) ?aL ?lL ?cL ?kL ?z1 ?z2 ?z3 ?z4 ?z5 ?z6 ?z7 ?z8 ?z9 ?z10 ?z11
    (case a1 => k_is); (case l1 => k_is); (case c1 => k_is); (case k1 => k_is)
    (case a2 => k_is); (case l2 => k_is); (case c2 => k_is); (case k2 => k_is)
    (case a3 => k_is); (case l3 => k_is); (case c3 => k_is); (case k3 => k_is)
    (case a4 => k_is); (case l4 => k_is); (case c4 => k_is); (case k4 => k_is)
    (case a5 => k_is); (case l5 => k_is); (case c5 => k_is); (case k5 => k_is)
    (case a6 => k_is); (case l6 => k_is); (case c6 => k_is); (case k6 => k_is)
    (case a7 => k_is); (case l7 => k_is); (case c7 => k_is); (case k7 => k_is)
    (case a8 => k_is); (case l8 => k_is); (case c8 => k_is); (case k8 => k_is)
    (case a9 => k_is); (case l9 => k_is); (case c9 => k_is); (case k9 => k_is)
    (case a10 => k_is); (case l10 => k_is); (case c10 => k_is); (case k10 => k_is)
    (case a11 => k_is); (case l11 => k_is); (case c11 => k_is); (case k11 => k_is)
    (case a12 => k_is); (case l12 => k_is); (case c12 => k_is); (case k12 => k_is)
    (case a13 => k_is); (case l13 => k_is); (case c13 => k_is); (case k13 => k_is)
    (case a14 => k_is); (case l14 => k_is); (case c14 => k_is); (case k14 => k_is)
    (case aL => k_is); (case lL => k_is); (case cL => k_is); (case kL => k_is)
    (case z1 => k_is); (case z2 => k_is); (case z3 => k_is); (case z4 => k_is); (case z5 => k_is); (case z6 => k_is); (case z7 => k_is); (case z8 => k_is); (case z9 => k_is); (case z10 => k_is); (case z11 => k_is)
