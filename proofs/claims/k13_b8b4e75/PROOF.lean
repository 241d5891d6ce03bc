import PyProof.Rows.All
import Wide.All
import OpenK.AllK
import Wide.FinOn
import Lean
import PyProof.EqAt
import PyProof.EqKinds
import PyProof.TupleCall
import PyProof.FactsAll.set
import PyProof.FactsAll.subtypes
import PySem.Challenge.RW_needledeck_k13_numbers_of_words
set_option Elab.async false
set_option linter.all false
set_option maxRecDepth 100000
set_option maxHeartbeats 4000000
namespace L2
open PySem PySem.Spec PyProof.Rows
abbrev Key := Sum Int Str
def keyIs : Key → Value → Bool
  | .inl k, v => Value.isInt k v
  | .inr x, v => Value.isStrOf x v
def keyH (w : World) : Key → Int
  | .inl k => hashInt k
  | .inr x => hashStr w x
theorem keyIs_shape : ∀ {k : Key} {v : Value}, keyIs k v = true → (∃ i t, k = Sum.inl i ∧ v = Value.int i t) ∨ (∃ x t, k = Sum.inr x ∧ v = Value.str x t)
  | .inl i, v, h => by
    obtain ⟨t, e⟩ := Value.isInt_shape (k := i) (v := v) h
    exact .inl ⟨i, t, rfl, e⟩
  | .inr x, v, h => by
    obtain ⟨t, e⟩ := Value.isStrOf_shape (x := x) (v := v) h
    exact .inr ⟨x, t, rfl, e⟩
theorem key_ll (a b : Int) : decide ((Sum.inl a : Key) = Sum.inl b) = (a == b) := by
  by_cases e : a = b
  · subst e; simp
  · have h : ¬ (Sum.inl a : Key) = Sum.inl b := fun q => e (Sum.inl.inj q)
    rw [decide_eq_false h]
    exact (beq_eq_false_iff_ne.mpr e).symm
theorem key_rr (a b : Str) : decide ((Sum.inr a : Key) = Sum.inr b) = decide (a = b) := by
  by_cases e : a = b
  · subst e; simp
  · have h : ¬ (Sum.inr a : Key) = Sum.inr b := fun q => e (Sum.inr.inj q)
    rw [decide_eq_false h, decide_eq_false e]
theorem key_lr (a : Int) (b : Str) : decide ((Sum.inl a : Key) = Sum.inr b) = false := decide_eq_false (fun q => nomatch q)
theorem key_rl (a : Str) (b : Int) : decide ((Sum.inr a : Key) = Sum.inl b) = false := decide_eq_false (fun q => nomatch q)
def mixKind (prog : Program) (w : World) : PySem.KeyKind prog w Key where
  is := keyIs
  hash := keyH w
  inj := fun v a b ha hb => by
    rcases keyIs_shape ha with ⟨i, t, rfl, rfl⟩ | ⟨x, t, rfl, rfl⟩
    · rcases keyIs_shape hb with ⟨j, u, rfl, e⟩ | ⟨y, u, rfl, e⟩
      · injection e with e1 _; rw [e1]
      · exact nomatch e
    · rcases keyIs_shape hb with ⟨j, u, rfl, e⟩ | ⟨y, u, rfl, e⟩
      · exact nomatch e
      · injection e with e1 _; rw [e1]
  byValue := fun k v h => by
    rcases keyIs_shape h with ⟨i, t, rfl, rfl⟩ | ⟨x, t, rfl, rfl⟩ <;> rfl
  pyHash := fun hv h => by
    rcases keyIs_shape hv with ⟨i, t, rfl, rfl⟩ | ⟨x, t, rfl, rfl⟩
    · exact wpAny_pyHash_int h
    · exact wpAny_pyHash_str h
  eqBool := fun hu hv h => by
    rcases keyIs_shape hu with ⟨i, t, rfl, rfl⟩ | ⟨x, t, rfl, rfl⟩
    · rcases keyIs_shape hv with ⟨j, u, rfl, rfl⟩ | ⟨y, u, rfl, rfl⟩
      · rw [key_ll] at h; exact wpAny_eqBool_int h
      · rw [key_lr] at h; exact SeqAt.EqAt.int_str i t y u _ _ _ _ h
    · rcases keyIs_shape hv with ⟨j, u, rfl, rfl⟩ | ⟨y, u, rfl, rfl⟩
      · rw [key_rl] at h; exact SeqAt.EqAt.str_int x t j u _ _ _ _ h
      · rw [key_rr] at h; exact wpAny_eqBool_str h
  «strs» := fun k x t v h => by
    rcases keyIs_shape h with ⟨i, u, rfl, e⟩ | ⟨y, u, rfl, e⟩
    · exact nomatch e
    · injection e with e1 _
      subst e1
      cases v <;> rfl
end L2
namespace L2
open PySem PySem.Spec PyProof.Rows
inductive V where
  | non | bl (b : Bool) | int (i : Int) | str (x : Str) | byt (b : Array UInt8) | flt (b : UInt64) | ref (a : Addr) | ty (n : String)
  deriving DecidableEq
def RelV : V → Value → Prop
  | .non, u => u = Value.none
  | .bl b, u => u = Value.bool b
  | .int i, u => ∃ t, u = Value.int i t
  | .str x, u => ∃ t, u = Value.str x t
  | .byt b, u => ∃ t, u = Value.bytes b t
  | .flt b, u => ∃ t, u = Value.float b t
  | .ref a, u => u = Value.ref a
  | .ty n, u => u = Value.type n
abbrev Vals : List V → List Value → Prop := Paired RelV
theorem Vals.length {xs : List V} {us : List Value} (r : Vals xs us) : xs.length = us.length := Paired.length r
theorem Vals.get : ∀ {xs : List V} {us : List Value} {i : Nat} {x : V}, Vals xs us → xs[i]? = some x → ∃ u, us[i]? = some u ∧ RelV x u
  | _, _, _, _, .nil, e => by simp at e
  | _, _, 0, _, .cons r _, e => by simp at e; subst e; exact ⟨_, rfl, r⟩
  | _, _, i + 1, x, .cons _ t, e => by
    obtain ⟨u, h1, h2⟩ := Vals.get (i := i) (x := x) t (by simpa using e)
    exact ⟨u, by simpa using h1, h2⟩
theorem Vals.set {x : V} {u : Value} (r : RelV x u) : ∀ {xs : List V} {us : List Value} (i : Nat), Vals xs us → Vals (xs.set i x) (us.set i u)
  | _, _, _, .nil => .nil
  | _, _, 0, .cons _ t => .cons r t
  | _, _, i + 1, .cons q t => .cons q (Vals.set r i t)
theorem Vals.append : ∀ {xs ys : List V} {us ws : List Value}, Vals xs us → Vals ys ws → Vals (xs ++ ys) (us ++ ws)
  | _, _, _, _, .nil, s => s
  | _, _, _, _, .cons r t, s => .cons r (Vals.append t s)
theorem Vals.take : ∀ {xs : List V} {us : List Value} (n : Nat), Vals xs us → Vals (xs.take n) (us.take n)
  | _, _, 0, _ => .nil
  | _, _, _ + 1, .nil => .nil
  | _, _, n + 1, .cons r t => .cons r (Vals.take n t)
theorem Vals.drop : ∀ {xs : List V} {us : List Value} (n : Nat), Vals xs us → Vals (xs.drop n) (us.drop n)
  | _, _, 0, r => r
  | _, _, _ + 1, .nil => .nil
  | _, _, n + 1, .cons _ t => Vals.drop n t
def RelO : Option V → Option Value → Prop
  | some v, some u => RelV v u
  | none, none => True
  | _, _ => False
def KV {κ : Type} : List (κ × V) → List (κ × Value) → Prop := Paired fun (p : κ × V) (q : κ × Value) => p.1 = q.1 ∧ RelV p.2 q.2
def kV : Key → V
  | .inl i => .int i
  | .inr x => .str x
inductive HO where
  /-- a list -/
  | lst (xs : List V)
  /-- a tuple (never changes) -/
  | tup (xs : List V)
  /-- a dict whose keys are ints and texts; one whose keys are tuples of ints and texts (the empty one is both) -/
  | dK (kvs : List (Key × V)) | dT (kvs : List (List Key × V))
  /-- a set of ints: its members, its size -/
  | set (S : Int → Bool) (n : Nat)
  /-- an instance of the class at C, its dict at dx, its attributes -/
  | ins (C dx : Addr) (fs : List (Str × V))
  /-- the dict of the instance at x -/
  | own (x : Addr)
  /-- the dict of an exception -/
  | xd (fs : List (Str × V))
  /-- a bound method, f of x -/
  | met (f x : Addr)
  /-- a range object lo, lo + 1, .. below hi -/
  | rng (lo hi : Int)
  /-- a thing that is known to the object (the script; a dict while a loop walks it): read, never written while it is so -/
  | frz (o : Obj) (u : HO)
  /-- a code object's table -/
  | tbl (ps : Array Value)
  /-- any other thing, by what is true of its one object (a def of one's own: SetO a S n := HO.ext fun h => ..) -/
  | ext (φ : Heap → Prop)
abbrev Hp := Addr → Option HO
def upd (H : Hp) (a : Addr) (o : HO) : Hp := fun b => if b = a then some o else H b
theorem upd_same {H : Hp} {a : Addr} {o : HO} : upd H a o a = some o := by unfold upd; rw [if_pos rfl]
theorem upd_ne {H : Hp} {a b : Addr} {o : HO} (h : b ≠ a) : upd H a o b = H b := by unfold upd; rw [if_neg h]
theorem ne_of {H : Hp} {a b : Addr} {o u : HO} (h : H a = some o) (h' : H b = some u) (d : o ≠ u) : a ≠ b := by
  intro e; subst e; rw [h] at h'; exact d (Option.some.inj h')
theorem ne_of_none {H : Hp} {a b : Addr} {o : HO} (h : H a = some o) (h' : H b = none) : a ≠ b := by
  intro e; subst e; rw [h] at h'; cases h'
section
variable (P : Program) (w : World)
def ObjOk (H : Hp) (h : Heap) (a : Addr) : HO → Prop
  | .lst xs => xs.length ≤ sizeLine ∧ ∃ (its : List Value) (n : Nat), Vals xs its ∧ h.get? a = some { cls := .type "list", data := .seq its.toArray n }
  | .tup xs => xs.length ≤ sizeLine ∧ ∃ its : List Value, Vals xs its ∧ IsTup h a its.toArray
  | .dK kvs => kvs.length ≤ sizeLine ∧ (a == sysModules) = false ∧ ∃ vs, KV kvs vs ∧ h.DictOf (mixKind P w) a vs
  | .dT kvs => kvs.length ≤ sizeLine ∧ (a == sysModules) = false ∧ ∃ xs : List (List Key × Addr × Value),
      Paired (fun (p : List Key × V) (q : List Key × Addr × Value) => p.1 = q.1 ∧ H q.2.1 = some (.tup (p.1.map kV)) ∧ RelV p.2 q.2.2) kvs xs ∧
      ∃ o es ep, h.get? a = some o ∧ o.ExactDict ∧ o.data = .dict es ep ∧ es.toList = xs.map (entryOfKey (tupleKind (mixKind P w))) ∧ (xs.map (·.1)).Nodup
  | .set S n => h.SetOf (intKind P w) a S n
  | .ins C dx fs => H dx = some (.own a) ∧ fs.length ≤ 1000 ∧ dx ≠ a ∧ h.get? a = some (PySem.W.instObj C dx) ∧
      ∃ mA, h.Ns1 dx mA ∧ (∀ f, RelO (fs.lookup f) (mA f)) ∧ PySem.Within mA (fs.map (·.1))
  | .own _ => ∃ o, h.get? a = some o
  | .xd fs => ∃ mA, h.Ns1 a mA ∧ ∀ f, RelO (fs.lookup f) (mA f)
  | .rng lo hi => ∃ t u v, h.get? a = some { cls := .type "range", data := .fields #[.int lo t, .int hi u, .int 1 v] }
  | .frz o u => h.get? a = some o ∧ ObjOk H h a u
  | .tbl ps => h.get? a = some { cls := .none, data := .fields ps }
  | .met f x => h.get? a = some (PySem.W.methodObj (.ref f) (.ref x))
  | .ext φ => φ h ∧ (∃ o, h.get? a = some o) ∧ ∀ h1 h2 : Heap, φ h1 → (∀ o, h1.get? a = some o → h2.get? a = some o) → φ h2
def HOk (H : Hp) (h : Heap) : Prop := ∀ a o, H a = some o → ObjOk P w H h a o
end
section
variable {P : Program} {w : World} {H H' : Hp} {h h' : Heap} {a : Addr} {o : HO}
theorem ObjOk.lt (x : ObjOk P w H h a o) : a < h.objs.size := by
  cases o with
  | lst xs => obtain ⟨_, _, _, _, e⟩ := x; exact Heap.lt_size e
  | tup xs => obtain ⟨_, _, _, p⟩ := x; exact p.lt
  | dK kvs => obtain ⟨_, _, _, _, o, _, _, e, _⟩ := x; exact Heap.lt_size e
  | dT kvs => obtain ⟨_, _, _, _, o, _, _, e, _⟩ := x; exact Heap.lt_size e
  | set S n => obtain ⟨o, _, _, _, e, _⟩ := x; exact Heap.lt_size e
  | ins C dx fs => obtain ⟨_, _, _, e, _⟩ := x; exact Heap.lt_size e
  | own y => obtain ⟨_, e⟩ := x; exact Heap.lt_size e
  | xd fs => obtain ⟨_, ⟨_, _, _, e, _⟩, _⟩ := x; exact Heap.lt_size e
  | rng lo hi => obtain ⟨_, _, _, e⟩ := x; exact Heap.lt_size e
  | frz ob u => obtain ⟨e, _⟩ := x; exact Heap.lt_size e
  | tbl ps => exact Heap.lt_size (show h.get? a = some _ from x)
  | met f y => exact Heap.lt_size (show h.get? a = some _ from x)
  | ext φ => obtain ⟨_, ⟨_, e⟩, _⟩ := x; exact Heap.lt_size e
theorem Paired.mapP {α β : Type} {F G : α → β → Prop} : ∀ {l₁ : List α} {l₂ : List β}, Paired F l₁ l₂ → (∀ a b, F a b → G a b) → Paired G l₁ l₂
  | _, _, .nil, _ => .nil
  | _, _, .cons r t, f => .cons (f _ _ r) (Paired.mapP t f)
theorem ObjOk.stay (x : ObjOk P w H h a o) (k : ∀ b u, (b = a ∨ H b = some (.own a)) → h.get? b = some u → h'.get? b = some u)
    (ho : ∀ b, H b = some (.own a) → H' b = some (.own a)) (ht : ∀ b xs, H b = some (.tup xs) → H' b = some (.tup xs)) : ObjOk P w H' h' a o := by
  induction o with
  | lst xs => obtain ⟨z, its, n, r, e⟩ := x; exact ⟨z, its, n, r, k _ _ (.inl rfl) e⟩
  | tup xs => obtain ⟨z, its, r, ob, e, c⟩ := x; exact ⟨z, its, r, ob, k _ _ (.inl rfl) e, c⟩
  | dK kvs => obtain ⟨z, y, vs, r, ob, es, ep, e, c⟩ := x; exact ⟨z, y, vs, r, ob, es, ep, k _ _ (.inl rfl) e, c⟩
  | dT kvs =>
    obtain ⟨z, y, xs, r, ob, es, ep, e, c⟩ := x
    exact ⟨z, y, xs, Paired.mapP r fun p q z => ⟨z.1, ht _ _ z.2.1, z.2.2⟩, ob, es, ep, k _ _ (.inl rfl) e, c⟩
  | set S n => obtain ⟨ob, es, ep, t, e, c⟩ := x; exact ⟨ob, es, ep, t, k _ _ (.inl rfl) e, c⟩
  | ins C dx fs =>
    obtain ⟨d, z, ne, e, mA, ⟨od, es, ep, e2, c⟩, r⟩ := x
    exact ⟨ho _ d, z, ne, k _ _ (.inl rfl) e, mA, ⟨od, es, ep, k _ _ (.inr d) e2, c⟩, r⟩
  | own y => obtain ⟨ob, e⟩ := x; exact ⟨ob, k _ _ (.inl rfl) e⟩
  | xd fs => obtain ⟨mA, ⟨od, es, ep, e, c⟩, r⟩ := x; exact ⟨mA, ⟨od, es, ep, k _ _ (.inl rfl) e, c⟩, r⟩
  | rng lo hi => obtain ⟨t, u, v, e⟩ := x; exact ⟨t, u, v, k _ _ (.inl rfl) e⟩
  | frz ob u ih => obtain ⟨e, q⟩ := x; exact ⟨k _ _ (.inl rfl) e, ih q⟩
  | tbl ps =>
    have e : h.get? a = some { cls := .none, data := .fields ps } := x
    show h'.get? a = some { cls := .none, data := .fields ps }
    exact k a _ (.inl rfl) e
  | met f y =>
    have e : h.get? a = some (PySem.W.methodObj (.ref f) (.ref y)) := x
    show h'.get? a = some (PySem.W.methodObj (.ref f) (.ref y))
    exact k a _ (.inl rfl) e
  | ext φ => obtain ⟨p, ⟨o, e⟩, st⟩ := x; exact ⟨st _ _ p fun o q => k _ _ (.inl rfl) q, ⟨o, k _ _ (.inl rfl) e⟩, st⟩
theorem HOk.lt (x : HOk P w H h) (e : H a = some o) : a < h.objs.size := (x a o e).lt
theorem HOk.fresh (x : HOk P w H h) (e : h.objs.size ≤ a) : H a = none := by
  cases q : H a with
  | none => rfl
  | some u => exact absurd (Nat.lt_of_lt_of_le (x.lt q) e) (Nat.lt_irrefl _)
theorem HOk.kept (x : HOk P w H h) (k : ∀ b u, h.get? b = some u → h'.get? b = some u) : HOk P w H h' := fun a o e =>
  (x a o e).stay (fun b u _ q => k b u q) (fun _ q => q) fun _ _ q => q
theorem HOk.laid (x : HOk P w H h) (k : ∀ b u, h.get? b = some u → h'.get? b = some u) (hp : h.objs.size ≤ a) (new : ObjOk P w (upd H a o) h' a o) : HOk P w (upd H a o) h' := fun b u e => by
  have hn := x.fresh hp
  by_cases hb : b = a
  · subst hb; rw [upd_same] at e; cases e; exact new
  · rw [upd_ne hb] at e
    exact (x b u e).stay (fun c v _ q => k c v q) (fun c q => by rw [upd_ne (ne_of_none q hn)]; exact q) fun c xs q => by rw [upd_ne (ne_of_none q hn)]; exact q
end
def Rd (H : Hp) (a : Addr) (u : HO) : Prop := H a = some u ∨ ∃ o, H a = some (.frz o u)
theorem Rd.of {H : Hp} {a : Addr} {u : HO} (h : H a = some u) : Rd H a u := .inl h
theorem Rd.ok {P : Program} {w : World} {H : Hp} {h : Heap} {a : Addr} {u : HO} (r : Rd H a u) (x : HOk P w H h) : ObjOk P w H h a u := by
  rcases r with r | ⟨o, r⟩
  · exact x a u r
  · obtain ⟨_, q⟩ := x a _ r
    exact q
def Mut : Option HO → Prop
  | some (.lst _) => True
  | some (.dK _) => True
  | some (.dT _) => True
  | some (.set _ _) => True
  | some (.ins _ _ _) => True
  | some (.ext _) => True
  | _ => False
section
variable {P : Program} {w : World} {H : Hp} {h h' : Heap} {x e : Addr} {o' : HO}
theorem HOk.write (ok : HOk P w H h) (mu : Mut (H x)) (he : e = x ∨ H e = some (.own x)) (k : ∀ b u, b ≠ e → h.get? b = some u → h'.get? b = some u) (heo : ∃ u, h'.get? e = some u)
    (new : ObjOk P w (upd H x o') h' x o') : HOk P w (upd H x o') h' := fun b u q => by
  have nown : ∀ c y, H c = some (.own y) → c ≠ x := fun c y r z => by subst z; rw [r] at mu; exact mu
  have ntup : ∀ c xs, H c = some (.tup xs) → c ≠ x := fun c xs r z => by subst z; rw [r] at mu; exact mu
  by_cases hb : b = x
  · subst hb; rw [upd_same] at q; cases q; exact new
  · rw [upd_ne hb] at q
    by_cases hbe : b = e
    · have q' : H b = some (.own x) := by
        rcases he with z | z
        · exact absurd (hbe.trans z) hb
        · rw [hbe]; exact z
      rw [q] at q'; cases q'
      obtain ⟨v, hv⟩ := heo
      exact ⟨v, by rw [hbe]; exact hv⟩
    · refine (ok b u q).stay (fun c v hc r => k c v ?_ r) (fun c r => by rw [upd_ne (nown c b r)]; exact r) fun c xs r => by rw [upd_ne (ntup c xs r)]; exact r
      rcases hc with rfl | hc
      · exact hbe
      · rintro rfl
        rcases he with z | z
        · exact nown c b hc z
        · rw [hc] at z; cases z; exact hb rfl
end
structure Un (fs ex : List Addr) (H H' : Hp) (h h' : Heap) : Prop where
  keep : ∀ b o, h.get? b = some o → H b = none → b ∉ fs → b ∉ ex → h'.get? b = some o
  slot : ∀ b o, h.get? b = some o → H b = none → b ∈ fs → b ∉ ex → ∃ sl, h'.get? b = some { o with slots := sl }
  free : ∀ b o, h.get? b = some o → H b = none → b ∉ ex → H' b = none
  there : ∀ b o, h.get? b = some o → b ∉ ex → ∃ o', h'.get? b = some o'
  tups : ∀ b xs, H b = some (.tup xs) → H' b = some (.tup xs)
  frzs : ∀ b o u, H b = some (.frz o u) → H' b = some (.frz o u)
  tbls : ∀ b ps, H b = some (.tbl ps) → ∃ more, H' b = some (.tbl (ps ++ more))
section
variable {fs fs' ex ex' : List Addr} {H H1 H2 : Hp} {h h1 h2 h' : Heap} {a x e : Addr} {o : HO}
theorem Un.any (u : Un fs ex H H1 h h1) {b : Addr} {ob : Obj} (q : h.get? b = some ob) (n : H b = none) (hx : b ∉ ex) : ∃ sl, h1.get? b = some { ob with slots := sl } := by
  by_cases hb : b ∈ fs
  · exact u.slot b ob q n hb hx
  · exact ⟨ob.slots, u.keep b ob q n hb hx⟩
theorem Un.trans (a : Un fs ex H H1 h h1) (b : Un fs ex H1 H2 h1 h2) : Un fs ex H H2 h h2 where
  keep := fun c ob q n hc hx => b.keep c ob (a.keep c ob q n hc hx) (a.free c ob q n hx) hc hx
  slot := fun c ob q n hc hx => by
    obtain ⟨sl, e1⟩ := a.slot c ob q n hc hx
    obtain ⟨sl', e2⟩ := b.slot c _ e1 (a.free c ob q n hx) hc hx
    exact ⟨sl', e2⟩
  free := fun c ob q n hx => by
    obtain ⟨o', e1⟩ := a.there c ob q hx
    exact b.free c o' e1 (a.free c ob q n hx) hx
  there := fun c ob q hx => by
    obtain ⟨o', e1⟩ := a.there c ob q hx
    exact b.there c o' e1 hx
  tups := fun c xs q => b.tups c xs (a.tups c xs q)
  frzs := fun c ob xs q => b.frzs c ob xs (a.frzs c ob xs q)
  tbls := fun c ps q => by
    obtain ⟨m1, e1⟩ := a.tbls c ps q
    obtain ⟨m2, e2⟩ := b.tbls c _ e1
    exact ⟨m1 ++ m2, by rw [e2, Array.append_assoc]⟩
theorem Un.kept (k : ∀ b u, h.get? b = some u → h'.get? b = some u) : Un fs ex H H h h' :=
  ⟨fun b ob q _ _ _ => k b ob q, fun b ob q _ _ _ => ⟨ob.slots, k b ob q⟩, fun _ _ _ n _ => n, fun b ob q _ => ⟨ob, k b ob q⟩, fun _ _ q => q, fun _ _ _ q => q, fun _ ps q => ⟨#[], by rw [q]; simp⟩⟩
theorem Un.refl : Un fs ex H H h h := Un.kept fun _ _ q => q
theorem Un.laid (k : ∀ b u, h.get? b = some u → h'.get? b = some u) (hp : h.objs.size ≤ a) (hn : H a = none) : Un fs ex H (upd H a o) h h' where
  keep := fun b u q _ _ _ => k b u q
  slot := fun b u q _ _ _ => ⟨u.slots, k b u q⟩
  free := fun b u q n _ => by rw [upd_ne (Nat.ne_of_lt (Nat.lt_of_lt_of_le (Heap.lt_size q) hp))]; exact n
  there := fun b u q _ => ⟨u, k b u q⟩
  tups := fun b xs q => by rw [upd_ne (ne_of_none q hn)]; exact q
  frzs := fun b u xs q => by rw [upd_ne (ne_of_none q hn)]; exact q
  tbls := fun b ps q => ⟨#[], by rw [upd_ne (ne_of_none q hn), q]; simp⟩
theorem Un.write (mu : Mut (H x)) (he : e = x ∨ H e = some (.own x)) (k : ∀ b u, b ≠ e → h.get? b = some u → h'.get? b = some u) (heo : ∃ u, h'.get? e = some u) : Un fs ex H (upd H x o) h h' := by
  have hx : ∀ b, H b = none → b ≠ x := fun b n z => by subst z; rw [n] at mu; exact mu
  have hb : ∀ b, H b = none → b ≠ e := fun b n z => by
    subst z
    rcases he with r | r
    · exact hx b n r
    · rw [n] at r; cases r
  have hm : ∀ b u, H b = some u → ¬ Mut (some u) → b ≠ x := fun b u q nm z => by subst z; rw [q] at mu; exact nm mu
  refine ⟨fun b u q n _ _ => k b u (hb b n) q, fun b u q n _ _ => ⟨u.slots, k b u (hb b n) q⟩, fun b u q n _ => by rw [upd_ne (hx b n)]; exact n, fun b u q _ => ?_,
    fun b xs q => by rw [upd_ne (hm b _ q fun z => z)]; exact q, fun b u xs q => by rw [upd_ne (hm b _ q fun z => z)]; exact q, fun b ps q => ⟨#[], by rw [upd_ne (hm b _ q fun z => z), q]; simp⟩⟩
  by_cases hbe : b = e
  · subst hbe; exact heo
  · exact ⟨u, k b u hbe q⟩
theorem Un.mono (u : Un fs ex H H1 h h1) (hs : ∀ b ∈ fs, b ∈ fs') (hx : ∀ b ∈ ex, b ∈ ex') : Un fs' ex' H H1 h h1 :=
  ⟨fun b ob q n hb he => u.keep b ob q n (fun z => hb (hs b z)) fun z => he (hx b z), fun _ _ q n _ he => u.any q n fun z => he (hx _ z), fun b ob q n he => u.free b ob q n fun z => he (hx b z), fun b ob q he => u.there b ob q fun z => he (hx b z), u.tups, u.frzs, u.tbls⟩
end
def trk (h : Heap) (H : Hp) : List Addr := (List.range h.objs.size).filter fun a => (H a).isSome
def hidT (h : Heap) (H : Hp) : Heap := PySem.W.hideAll h (trk h H)
theorem hidT_size (h : Heap) (H : Hp) : (hidT h H).objs.size = h.objs.size := PySem.W.hideAll_size _ _
theorem hidT_get {h : Heap} {H : Hp} {b : Addr} {o : Obj} (e : h.get? b = some o) (n : H b = none) : (hidT h H).get? b = some o :=
  PySem.W.hideAll_get _ e fun hm => by
    have q : (H b).isSome = true := (List.mem_filter.mp hm).2
    rw [n] at q; simp at q
theorem of_hidT {h : Heap} {H : Hp} {b : Addr} {o : Obj} (e : (hidT h H).get? b = some o) : h.get? b = some o ∧ H b = none := by
  have e' : h.get? b = some o := PySem.W.of_hideAll (trk h H) e
  refine ⟨e', ?_⟩
  cases q : H b with
  | none => rfl
  | some x =>
    have hm : b ∈ trk h H := List.mem_filter.mpr ⟨List.mem_range.mpr (Heap.lt_size e'), by simp [q]⟩
    have z : (hidT h H).get? b = none := PySem.W.hideAll_none (trk h H) hm
    rw [z] at e; cases e
def allNews (g h : Heap) (L : Addr) : List (Addr × Obj) := (List.range h.objs.size).filterMap fun a => if a = L ∨ (g.get? a).isSome = true then none else (h.get? a).map fun o => (a, o)
def rest (g h : Heap) (L d : Addr) : List (Addr × Obj) := (allNews g h L).filter fun p => decide (p.1 ≠ d)
end L2
namespace L2
open PySem PySem.Spec PyProof.Rows
structure Mod (K : PySem.W.Frag) (mg : Str → Option Value) (base : Heap) : Prop where
  kin : K.In base
  glob : base.Ns mainGlobals mg
  blt : ∃ mb, base.Ns builtinsNs mb ∧ ∀ x : Str, x ≠ "__name__" → mb x = bootBuiltins x
  nolimit : base.NoLimit
structure Cx where
  prog : Program
  w : World
  K : PySem.W.Frag
  mg : Str → Option Value
  base : Heap
  A : Around
  N : List Str
  s₀ : Shared
  H₀ : Hp
  env : Env
  outer : List Env
  stack : List Env
  ex : List Addr
  fn : Str → Bool
  calm : Bool
  pn : List (Addr × Obj)
  xe : Value → Shared → Prop
def frs (l : List Env) : List Addr := l.filterMap (·.frame)
abbrev Cx.fs (X : Cx) : List Addr := frs X.outer
def Vis (sc : Scope) (x : Str) : Prop := sc.names.lookup x = some .local ∨ sc.names.lookup x = some .cell ∨ sc.names.lookup x = some .free
def Loc (sc : Scope) (x : Str) : Prop := sc.names.lookup x = some .local ∨ sc.names.lookup x = some .cell
def Look (env : Env) (h : Heap) (m : Str → Option Value) (x : Str) (u : Value) : Prop :=
  (env.kindOf x = some .local ∧ m x = some u) ∨ ((env.kindOf x = some .cell ∨ env.kindOf x = some .free) ∧ ∃ c, env.cells.lookup x = some c ∧ h.IsCell c (some u))
structure Cx.Ok (X : Cx) : Prop where
  mod : Mod X.K X.mg X.base
  kind : X.env.scope.kind = .function
  glob : X.env.globals = mainGlobals
  blt : X.env.builtins = builtinsNs
  above : X.s₀.heap.objs.size ≤ X.env.locals
  inj : ∀ x y c, X.env.cells.lookup x = some c → X.env.cells.lookup y = some c → x = y
  has : ∀ x, (X.env.kindOf x = some .cell ∨ X.env.kindOf x = some .free) → ∃ c, X.env.cells.lookup x = some c
  cab : ∀ x c, X.fn x = true → X.env.cells.lookup x = some c → X.s₀.heap.objs.size ≤ c
  hd : X.calm = true → X.A.handled = none
  frames : X.A.frames = some X.stack
  stk : X.stack = X.outer ∨ (X.stack = X.env :: X.outer ∧ X.env.frame = some X.env.locals)
  exf : ∀ b ∈ X.ex, b ≠ X.env.locals ∧ ∀ x c, X.env.cells.lookup x = some c → c ≠ b
  bs : ∀ b o, X.base.get? b = some o → X.s₀.heap.get? b = some o ∧ X.H₀ b = none
  bsz : X.base.objs.size ≤ X.s₀.heap.objs.size
  noex : ∀ b o, X.base.get? b = some o → b ∉ X.ex
  exfs : ∀ b ∈ X.ex, b ∉ X.fs
  funs : X.s₀.heap.FunFrames X.base X.outer
  frf : ∀ b ∈ X.fs, X.H₀ b = none
structure Inv (X : Cx) (pins : List (Addr × Obj)) (σ : List (Option V)) (H : Hp) (s : Shared) : Prop where
  ok : X.Ok
  os : s.os = X.s₀.os
  bare : AllBare s.gens
  base : Un X.fs X.ex X.H₀ H X.s₀.heap s.heap
  loc : ∃ m, s.heap.Ns X.env.locals m ∧ ∀ (i : Nat) (x : Str) (v : V), X.N[i]? = some x → σ[i]? = some (some v) → Vis X.env.scope x → ∃ u, RelV v u ∧ Look X.env s.heap m x u
  cell : ∀ x c, X.env.cells.lookup x = some c → ∃ v, s.heap.IsCell c v
  free : H X.env.locals = none
  freeC : ∀ x c, X.env.cells.lookup x = some c → H c = none
  pin : ∀ p ∈ X.pn ++ pins, s.heap.get? p.1 = some p.2 ∧ H p.1 = none ∧ p.1 ≠ X.env.locals ∧ p.1 ∉ X.fs ∧ ∀ v, p.2.data ≠ .cell v
  hok : HOk X.prog X.w H s.heap
  len : σ.length = X.N.length
section
variable {X : Cx} {pins : List (Addr × Obj)} {σ : List (Option V)} {H H' : Hp} {s : Shared} {h' : Heap}
theorem Cx.Ok.nofr (ok : X.Ok) {b : Addr} {o : Obj} (e : X.base.get? b = some o) : b ∉ X.fs := fun hb => by
  have := (ok.funs.mem hb).1
  rw [e] at this; cases this
theorem Inv.bs (I : Inv X pins σ H s) : ∀ b o, X.base.get? b = some o → s.heap.get? b = some o ∧ H b = none := fun b o e =>
  ⟨I.base.keep b o (I.ok.bs b o e).1 (I.ok.bs b o e).2 (I.ok.nofr e) (I.ok.noex b o e), I.base.free b o (I.ok.bs b o e).1 (I.ok.bs b o e).2 (I.ok.noex b o e)⟩
theorem Inv.bk (I : Inv X pins σ H s) : ∀ b o, X.base.get? b = some o → s.heap.get? b = some o := fun b o e => (I.bs b o e).1
theorem Inv.mod (I : Inv X pins σ H s) : Mod X.K X.mg X.base := I.ok.mod
theorem Inv.kIn (I : Inv X pins σ H s) : X.K.In s.heap := I.ok.mod.kin.keeps I.bk
theorem Inv.nolimit (I : Inv X pins σ H s) : s.heap.NoLimit := I.ok.mod.nolimit.keeps I.bk
theorem Inv.fr (I : Inv X pins σ H s) : ∃ m, Fr X.base X.env.locals s.heap m :=
  let ⟨m, hn, _⟩ := I.loc
  ⟨m, hn, I.bk, Nat.le_trans I.ok.bsz I.ok.above⟩
theorem Inv.lt (I : Inv X pins σ H s) : X.env.locals < s.heap.objs.size := let ⟨_, hn, _⟩ := I.loc; hn.lt
theorem Inv.sz (I : Inv X pins σ H s) : X.s₀.heap.objs.size ≤ s.heap.objs.size := Nat.le_trans I.ok.above (Nat.le_of_lt I.lt)
theorem Inv.nofs (I : Inv X pins σ H s) {a : Addr} (h : s.heap.objs.size ≤ a) : a ∉ X.fs := fun hb => by
  obtain ⟨_, o, ho, _⟩ := I.ok.funs.mem hb
  exact absurd (Nat.lt_of_lt_of_le (Heap.lt_size ho) (Nat.le_trans I.sz h)) (Nat.lt_irrefl _)
theorem Inv.cne (I : Inv X pins σ H s) : ∀ x c, X.env.cells.lookup x = some c → c ≠ X.env.locals := fun x c e z => by
  obtain ⟨v, o, ho, hd⟩ := I.cell x c e
  obtain ⟨m, ⟨o', es, ep, ho', hd', _⟩, _⟩ := I.loc
  rw [z, ho'] at ho; cases ho; rw [hd'] at hd; cases hd
theorem Inv.funs (I : Inv X pins σ H s) : s.heap.FunFrames X.base X.outer := by
  have all : ∀ (l : List Env), (∀ b ∈ frs l, b ∈ X.fs) → X.s₀.heap.FunFrames X.base l → s.heap.FunFrames X.base l := by
    intro l
    induction l with
    | nil => intro _ _; trivial
    | cons env r ih =>
      intro hs hl
      obtain ⟨hk, ⟨L, o, hf, hn, ho, hd⟩, hr⟩ := hl
      have hL : L ∈ X.fs := hs L (by unfold frs; rw [List.filterMap_cons, hf]; exact List.mem_cons_self)
      obtain ⟨sl, e⟩ := I.base.slot L o ho (I.ok.frf L hL) hL fun z => I.ok.exfs L z hL
      exact ⟨hk, ⟨L, _, hf, hn, e, hd⟩, ih (fun b hb => hs b (by unfold frs; rw [List.filterMap_cons, hf]; exact List.mem_cons_of_mem _ hb)) hr⟩
  exact all X.outer (fun _ hb => hb) I.ok.funs
theorem Inv.stack (I : Inv X pins σ H s) : s.heap.FunFrames X.base X.stack := by
  rcases I.ok.stk with e | ⟨e, hf⟩
  · rw [e]; exact I.funs
  · rw [e]
    obtain ⟨m, hn, _⟩ := I.loc
    refine .cons (by rw [I.ok.kind]; decide) hf hn ?_ I.funs
    exact Heap.get?_none_of_le (Nat.le_trans I.ok.bsz I.ok.above)
theorem Inv.stkSub (I : Inv X pins σ H s) : ∀ b ∈ frs X.stack, b ∈ X.env.locals :: X.fs := fun b hb => by
  rcases I.ok.stk with e | ⟨e, hf⟩
  · rw [e] at hb; exact List.mem_cons_of_mem _ hb
  · rw [e] at hb
    unfold frs at hb
    rw [List.filterMap_cons, hf] at hb
    exact hb
theorem Inv.stkFree (I : Inv X pins σ H s) : ∀ b ∈ frs X.stack, H b = none := fun b hb => by
  rcases List.mem_cons.mp (I.stkSub b hb) with e | hb
  · rw [e]; exact I.free
  · obtain ⟨_, o, ho, _⟩ := I.ok.funs.mem hb
    exact I.base.free b o ho (I.ok.frf b hb) fun z => I.ok.exfs b z hb
theorem Inv.step {g' : Array GenState} {t' : Nat} {d' : Drawn} {ch : List Addr} (I : Inv X pins σ H s)
    (hch : ∀ b ∈ ch, (b ∈ X.ex ∨ X.s₀.heap.objs.size ≤ b) ∧ b ≠ X.env.locals ∧ (∀ x c, X.env.cells.lookup x = some c → c ≠ b) ∧ ∀ p ∈ X.pn ++ pins, p.1 ≠ b)
    (keep : ∀ b o, b ≠ X.env.locals → b ∉ X.fs → b ∉ ch → s.heap.get? b = some o → H b = none → h'.get? b = some o)
    (slot : ∀ b o, b ≠ X.env.locals → b ∈ X.fs → b ∉ ch → s.heap.get? b = some o → H b = none → ∃ sl, h'.get? b = some { o with slots := sl }) (free : ∀ b o, b ∉ ch → s.heap.get? b = some o → H b = none → H' b = none)
    (there : ∀ b o, b ∉ ch → s.heap.get? b = some o → ∃ o', h'.get? b = some o')
    (tups : ∀ b xs, H b = some (.tup xs) → H' b = some (.tup xs)) (frzs : ∀ b o u, H b = some (.frz o u) → H' b = some (.frz o u)) (tbls : ∀ b ps, H b = some (.tbl ps) → ∃ more, H' b = some (.tbl (ps ++ more)))
    (ns : ∀ m, s.heap.Ns X.env.locals m → h'.Ns X.env.locals m) (hok : HOk X.prog X.w H' h') (hg : AllBare g') :
    Inv X pins σ H' { s with heap := h', gens := g', drawn := d', toks := t' } := by
  have neL : ∀ b o, X.s₀.heap.get? b = some o → b ≠ X.env.locals := fun b o e => Nat.ne_of_lt (Nat.lt_of_lt_of_le (Heap.lt_size e) I.ok.above)
  have neC : ∀ b o, X.s₀.heap.get? b = some o → b ∉ X.ex → b ∉ ch := fun b o e hx hb => by
    rcases (hch b hb).1 with z | z
    · exact hx z
    · exact absurd (Nat.lt_of_lt_of_le (Heap.lt_size e) z) (Nat.lt_irrefl _)
  have cellK : ∀ x c, X.env.cells.lookup x = some c → ∀ v, s.heap.IsCell c v → h'.IsCell c v := fun x c e v ⟨o, ho, hd⟩ => by
    have nch : c ∉ ch := fun z => (hch c z).2.2.1 x c e rfl
    by_cases hc : c ∈ X.fs
    · obtain ⟨sl, q⟩ := slot c o (I.cne x c e) hc nch ho (I.freeC x c e)
      exact ⟨_, q, hd⟩
    · exact ⟨o, keep c o (I.cne x c e) hc nch ho (I.freeC x c e), hd⟩
  refine ⟨I.ok, I.os, hg, ⟨fun b o e n hb hx => ?_, fun b o e n hb hx => ?_, fun b o e n hx => ?_, fun b o e hx => ?_, fun b xs e => tups b xs (I.base.tups b xs e), fun b o xs e => frzs b o xs (I.base.frzs b o xs e), fun b ps e => ?_⟩, ?_, fun x c e => ?_, ?_, fun x c e => ?_, fun p hp => ?_, hok, I.len⟩
  · exact keep b o (neL b o e) hb (neC b o e hx) (I.base.keep b o e n hb hx) (I.base.free b o e n hx)
  · obtain ⟨sl, e1⟩ := I.base.slot b o e n hb hx
    obtain ⟨sl', e2⟩ := slot b _ (neL b o e) hb (neC b o e hx) e1 (I.base.free b o e n hx)
    exact ⟨sl', e2⟩
  · obtain ⟨o', e1⟩ := I.base.there b o e hx
    exact free b o' (neC b o e hx) e1 (I.base.free b o e n hx)
  · obtain ⟨o', e1⟩ := I.base.there b o e hx
    exact there b o' (neC b o e hx) e1
  · obtain ⟨m1, e1⟩ := I.base.tbls b ps e
    obtain ⟨m2, e2⟩ := tbls b _ e1
    exact ⟨m1 ++ m2, by rw [e2, Array.append_assoc]⟩
  · obtain ⟨m, hn, hl⟩ := I.loc
    refine ⟨m, ns m hn, fun i x v e1 e2 e3 => ?_⟩
    obtain ⟨u, r, l⟩ := hl i x v e1 e2 e3
    refine ⟨u, r, ?_⟩
    rcases l with l | ⟨k, c, e, z⟩
    · exact .inl l
    · exact .inr ⟨k, c, e, cellK x c e _ z⟩
  · obtain ⟨v, z⟩ := I.cell x c e
    exact ⟨v, cellK x c e v z⟩
  · obtain ⟨m, ⟨o, _, _, ho, _⟩, _⟩ := I.loc
    exact free _ o (fun z => (hch _ z).2.1 rfl) ho I.free
  · obtain ⟨v, o, ho, hd⟩ := I.cell x c e
    exact free c o (fun z => (hch c z).2.2.1 x c e rfl) ho (I.freeC x c e)
  · obtain ⟨e, n, ne, nf, d⟩ := I.pin p hp
    have nch : p.1 ∉ ch := fun z => (hch p.1 z).2.2.2 p hp rfl
    exact ⟨keep p.1 p.2 ne nf nch e n, free p.1 p.2 nch e n, ne, nf, d⟩
theorem Inv.un {t' : Nat} (I : Inv X pins σ H s) (u : Un X.fs [] H H' s.heap h') (hok : HOk X.prog X.w H' h') : Inv X pins σ H' { s with heap := h', toks := t' } := by
  obtain ⟨m, ⟨o, es, ep, ho, r⟩, _⟩ := id I.loc
  obtain ⟨sl, hL⟩ := u.any ho I.free (by simp)
  exact I.step (g' := s.gens) (d' := s.drawn) (ch := []) (fun _ z => nomatch z) (fun b o _ hb _ e n => u.keep b o e n hb (by simp)) (fun b o _ hb _ e n => u.slot b o e n hb (by simp)) (fun b o _ e n => u.free b o e n (by simp)) (fun b o _ e => u.there b o e (by simp)) u.tups u.frzs u.tbls (fun m' hm => by
    obtain ⟨o', es', ep', ho', r'⟩ := hm
    rw [ho] at ho'; cases ho'
    exact ⟨_, es', ep', hL, r'⟩) hok I.bare
theorem Inv.call {g' : Array GenState} {t' : Nat} {d' : Drawn} {ch : List Addr} (I : Inv X pins σ H s) (u : Un (frs X.stack) ch H H' s.heap h') (hok : HOk X.prog X.w H' h') (hg : AllBare g')
    (hch : ∀ b ∈ ch, (b ∈ X.ex ∨ X.s₀.heap.objs.size ≤ b) ∧ b ≠ X.env.locals ∧ (∀ x c, X.env.cells.lookup x = some c → c ≠ b) ∧ ∀ p ∈ X.pn ++ pins, p.1 ≠ b) :
    Inv X pins σ H' { s with heap := h', gens := g', drawn := d', toks := t' } := by
  obtain ⟨m, ⟨o, es, ep, ho, r⟩, _⟩ := id I.loc
  obtain ⟨sl, hL⟩ := u.any ho I.free fun z => (hch _ z).2.1 rfl
  exact I.step (ch := ch) hch (fun b o hL hb hc e n => u.keep b o e n (fun z => (List.mem_cons.mp (I.stkSub b z)).elim hL hb) hc) (fun b o _ _ hc e n => u.any e n hc) (fun b o hc e n => u.free b o e n hc) (fun b o hc e => u.there b o e hc) u.tups u.frzs u.tbls (fun m' hm => by
    obtain ⟨o', es', ep', ho', r'⟩ := hm
    rw [ho] at ho'; cases ho'
    exact ⟨_, es', ep', hL, r'⟩) hok hg
theorem Inv.turned {t' : Nat} {it : Addr} (I : Inv X pins σ H s) (k : ∀ b o, b ≠ it → s.heap.get? b = some o → h'.get? b = some o) (hn : H it = none) (hL : it ≠ X.env.locals)
    (h1 : it ∈ X.ex ∨ X.s₀.heap.objs.size ≤ it) (h2 : ∀ x c, X.env.cells.lookup x = some c → c ≠ it) (h3 : ∀ p ∈ X.pn ++ pins, p.1 ≠ it) : Inv X pins σ H { s with heap := h', toks := t' } := by
  have nit : ∀ b u, H b = some u → b ≠ it := fun b u e z => by rw [z, hn] at e; cases e
  refine I.step (g' := s.gens) (d' := s.drawn) (ch := [it]) (fun b hb => ?_) (fun b o _ _ hc e _ => k b o (fun z => hc (by simp [z])) e) (fun b o _ _ hc e _ => ⟨o.slots, k b o (fun z => hc (by simp [z])) e⟩) (fun _ _ _ _ n => n)
    (fun b o hc e => ⟨o, k b o (fun z => hc (by simp [z])) e⟩) (fun _ _ e => e) (fun _ _ _ e => e) (fun b ps e => ⟨#[], by rw [e]; simp⟩) (fun m hm => ?_) (fun b u e => ?_) I.bare
  · have e : b = it := by simpa using hb
    subst e
    exact ⟨h1, hL, h2, h3⟩
  · obtain ⟨o, es, ep, ho, r⟩ := hm
    exact ⟨o, es, ep, k _ o (Ne.symm hL) ho, r⟩
  · refine (I.hok b u e).stay (fun c v hc q => k c v ?_ q) (fun _ q => q) fun _ _ q => q
    rcases hc with z | z
    · rw [z]; exact nit b u e
    · exact nit c _ z
theorem Inv.tok (I : Inv X pins σ H s) (t : Nat) : Inv X pins σ H { s with toks := t } := I.un (h' := s.heap) (t' := t) Un.refl I.hok
theorem Inv.kept {t' : Nat} (I : Inv X pins σ H s) (k : ∀ b u, s.heap.get? b = some u → h'.get? b = some u) : Inv X pins σ H { s with heap := h', toks := t' } := I.un (Un.kept k) (I.hok.kept k)
theorem Inv.laid {a : Addr} {o : HO} {t' : Nat} (I : Inv X pins σ H s) (k : ∀ b u, s.heap.get? b = some u → h'.get? b = some u) (hp : s.heap.objs.size ≤ a) (new : ObjOk X.prog X.w (upd H a o) h' a o) :
    Inv X pins σ (upd H a o) { s with heap := h', toks := t' } := I.un (Un.laid k hp (I.hok.fresh hp)) (I.hok.laid k hp new)
theorem Inv.write {x e : Addr} {o : HO} {t' : Nat} (I : Inv X pins σ H s) (mu : Mut (H x)) (he : e = x ∨ H e = some (.own x)) (k : ∀ b u, b ≠ e → s.heap.get? b = some u → h'.get? b = some u) (heo : ∃ u, h'.get? e = some u)
    (new : ObjOk X.prog X.w (upd H x o) h' x o) : Inv X pins σ (upd H x o) { s with heap := h', toks := t' } := I.un (Un.write mu he k heo) (I.hok.write mu he k heo new)
theorem Inv.pins_of {pins' : List (Addr × Obj)} (I : Inv X pins σ H s) (h : ∀ p ∈ pins', s.heap.get? p.1 = some p.2 ∧ H p.1 = none ∧ p.1 ≠ X.env.locals ∧ p.1 ∉ X.fs ∧ ∀ v, p.2.data ≠ .cell v) : Inv X pins' σ H s :=
  ⟨I.ok, I.os, I.bare, I.base, I.loc, I.cell, I.free, I.freeC, fun p hp => (List.mem_append.mp hp).elim (fun z => I.pin p (List.mem_append_left _ z)) (h p), I.hok, I.len⟩
theorem nodup_ix {N : List Str} (hN : N.Nodup) {i j : Nat} {x : Str} (a : N[i]? = some x) (b : N[j]? = some x) : i = j := by
  obtain ⟨h1, e1⟩ := List.getElem?_eq_some_iff.mp a
  obtain ⟨h2, e2⟩ := List.getElem?_eq_some_iff.mp b
  exact (List.getElem_inj hN).mp (e1.trans e2.symm)
theorem store_ok2 {M : Model} {A : Around} {E : Value → Shared → Prop} {i : Nat} {x : Str} {v : V} {u : Value} {Q : Unit → Shared → Prop} (I : Inv X pins σ H s) (hN : X.N.Nodup) (hi : X.N[i]? = some x) (hx : Loc X.env.scope x) (r : RelV v u)
    (h : ∀ s', Inv X pins (σ.set i (some v)) H s' → (∃ a, Heap.SameBut a s.heap s'.heap ∧ (a = X.env.locals ∨ X.env.cells.lookup x = some a)) → Q () s') (hf : X.fn x = true ∨ X.env.scope.names.lookup x = some .local := by first | exact .inl rfl | exact .inr rfl | assumption) : wpAny M A (storeName X.env x u) Q E s := by
  obtain ⟨m, hn, hl⟩ := id I.loc
  have hcls : (X.env.scope.kind == .class || (X.env.scope.kind == .module && X.env.locals != X.env.globals)) = false := by rw [I.ok.kind]; rfl
  have hiσ : i < σ.length := by rw [I.len]; exact (List.getElem?_eq_some_iff.mp hi).1
  have cne := I.cne
  have tracked : ∀ {a : Addr} {h' : Heap}, (∃ o, s.heap.get? a = some o ∧ H a = none) → Heap.SameBut a s.heap h' → HOk X.prog X.w H h' := fun {a h'} ha hs b ob e => by
    obtain ⟨_, _, hfree⟩ := ha
    refine (I.hok b ob e).stay (fun c w' hc q => (hs.2 c ?_).trans q) (fun _ q => q) fun _ _ q => q
    rintro rfl
    rcases hc with rfl | hc
    · rw [hfree] at e; cases e
    · rw [hfree] at hc; cases hc
  rcases hx with hk | hk
  · refine wpAny_storeName_local hk hn (fun h' hn' hs => ?_) hcls
    obtain ⟨oL, _, _, hoL, _⟩ := id hn
    refine h _ ⟨I.ok, I.os, I.bare, ⟨fun b o e n hb hx => ?_, fun b o e n hb hx => ?_, I.base.free, fun b o e hx => ?_, I.base.tups, I.base.frzs, I.base.tbls⟩, ⟨_, hn', fun j y v' e1 e2 e3 => ?_⟩, fun y c e => ?_, I.free, I.freeC, fun p hp => ?_, tracked ⟨oL, hoL, I.free⟩ hs, by simpa using I.len⟩ ⟨_, hs, .inl rfl⟩
    · exact (hs.2 b (Nat.ne_of_lt (Nat.lt_of_lt_of_le (Heap.lt_size e) I.ok.above))).trans (I.base.keep b o e n hb hx)
    · obtain ⟨sl, e1⟩ := I.base.slot b o e n hb hx
      exact ⟨sl, (hs.2 b (Nat.ne_of_lt (Nat.lt_of_lt_of_le (Heap.lt_size e) I.ok.above))).trans e1⟩
    · obtain ⟨o', e1⟩ := I.base.there b o e hx
      exact ⟨o', (hs.2 b (Nat.ne_of_lt (Nat.lt_of_lt_of_le (Heap.lt_size e) I.ok.above))).trans e1⟩
    · by_cases hj : j = i
      · subst hj
        rw [hi] at e1; cases e1
        rw [List.getElem?_set_self hiσ] at e2
        cases e2
        exact ⟨u, r, .inl ⟨hk, by simp⟩⟩
      · rw [List.getElem?_set_ne (Ne.symm hj)] at e2
        obtain ⟨u', r', q⟩ := hl j y v' e1 e2 e3
        refine ⟨u', r', ?_⟩
        rcases q with ⟨k, e⟩ | ⟨k, c, e, z⟩
        · refine .inl ⟨k, ?_⟩
          have : y ≠ x := fun e => hj (nodup_ix hN e1 (e ▸ hi))
          simp [this, e]
        · exact .inr ⟨k, c, e, z.sameBut hs (cne y c e)⟩
    · obtain ⟨w', z⟩ := I.cell y c e
      exact ⟨w', z.sameBut hs (cne y c e)⟩
    · obtain ⟨e, n, ne, nf, d⟩ := I.pin p hp
      exact ⟨(hs.2 p.1 ne).trans e, n, ne, nf, d⟩
  · have hfn : X.fn x = true := by
      rcases hf with z | z
      · exact z
      · rw [z] at hk; cases hk
    obtain ⟨c, hc⟩ := I.ok.has x (.inl hk)
    obtain ⟨w', z⟩ := I.cell x c hc
    refine wpAny_storeName_cell I.ok.kind hk hc z (fun h' hc' hs => ?_)
    obtain ⟨oc, hoc, hocd⟩ := id z
    refine h { s with heap := h' } ⟨I.ok, I.os, I.bare, ⟨fun b o e n hb hx => ?_, fun b o e n hb hx => ?_, I.base.free, fun b o e hx => ?_, I.base.tups, I.base.frzs, I.base.tbls⟩, ⟨m, hn.sameBut hs (Ne.symm (cne x c hc)), fun j y v' e1 e2 e3 => ?_⟩, fun y c' e => ?_, I.free, I.freeC, fun p hp => ?_, tracked ⟨oc, hoc, I.freeC x c hc⟩ hs, by simpa using I.len⟩ ⟨c, hs, .inr hc⟩
    · exact (hs.2 b (Nat.ne_of_lt (Nat.lt_of_lt_of_le (Heap.lt_size e) (I.ok.cab x c hfn hc)))).trans (I.base.keep b o e n hb hx)
    · obtain ⟨sl, e1⟩ := I.base.slot b o e n hb hx
      exact ⟨sl, (hs.2 b (Nat.ne_of_lt (Nat.lt_of_lt_of_le (Heap.lt_size e) (I.ok.cab x c hfn hc)))).trans e1⟩
    · obtain ⟨o', e1⟩ := I.base.there b o e hx
      exact ⟨o', (hs.2 b (Nat.ne_of_lt (Nat.lt_of_lt_of_le (Heap.lt_size e) (I.ok.cab x c hfn hc)))).trans e1⟩
    · by_cases hj : j = i
      · subst hj
        rw [hi] at e1; cases e1
        rw [List.getElem?_set_self hiσ] at e2
        cases e2
        exact ⟨u, r, .inr ⟨.inl hk, c, hc, hc'⟩⟩
      · rw [List.getElem?_set_ne (Ne.symm hj)] at e2
        obtain ⟨u', r', q⟩ := hl j y v' e1 e2 e3
        refine ⟨u', r', ?_⟩
        rcases q with q | ⟨k, c', e, z'⟩
        · exact .inl q
        · refine .inr ⟨k, c', e, z'.sameBut hs ?_⟩
          rintro rfl
          exact hj (nodup_ix hN e1 (I.ok.inj _ _ _ e hc ▸ hi))
    · by_cases hcc : c' = c
      · subst hcc; exact ⟨_, hc'⟩
      · obtain ⟨w2, z2⟩ := I.cell y c' e
        exact ⟨w2, z2.sameBut hs hcc⟩
    · obtain ⟨e, n, ne, nf, d⟩ := I.pin p hp
      refine ⟨(hs.2 p.1 ?_).trans e, n, ne, nf, d⟩
      intro q
      rw [q, hoc] at e
      have q' : oc = p.2 := Option.some.inj e
      exact d w' (by rw [← q']; exact hocd)
theorem store_ok {M : Model} {A : Around} {E : Value → Shared → Prop} {i : Nat} {x : Str} {v : V} {u : Value} {Q : Unit → Shared → Prop} (I : Inv X pins σ H s) (hN : X.N.Nodup) (hi : X.N[i]? = some x) (hx : Loc X.env.scope x) (r : RelV v u)
    (h : ∀ s', Inv X pins (σ.set i (some v)) H s' → Q () s') (hf : X.fn x = true ∨ X.env.scope.names.lookup x = some .local := by first | exact .inl rfl | exact .inr rfl | assumption) : wpAny M A (storeName X.env x u) Q E s :=
  store_ok2 I hN hi hx r (fun s' I' _ => h s' I') hf
theorem Inv.call' {s' : Shared} {ch : List Addr} (I : Inv X pins σ H s) (ho : s'.os = s.os) (u : Un (frs X.stack) ch H H' s.heap s'.heap) (hok : HOk X.prog X.w H' s'.heap) (hg : AllBare s'.gens)
    (hch : ∀ b ∈ ch, (b ∈ X.ex ∨ X.s₀.heap.objs.size ≤ b) ∧ b ≠ X.env.locals ∧ (∀ x c, X.env.cells.lookup x = some c → c ≠ b) ∧ ∀ p ∈ X.pn ++ pins, p.1 ≠ b) : Inv X pins σ H' s' := by
  obtain ⟨h', g', d', t', o'⟩ := s'
  have e : o' = s.os := ho
  subst e
  exact I.call (g' := g') (t' := t') (d' := d') u hok hg hch
end
abbrev XK := Value → Option Addr → Hp → Prop
abbrev St := List (Option V)
abbrev VK := V → Hp → Prop
abbrev TE := St → Hp → VK → Prop
abbrev TT := St → Hp → (Bool → Hp → Prop) → Prop
abbrev TA := St → Hp → (List V → Hp → Prop) → Prop
structure Ends where
  nx : St → Hp → Prop
  rt : VK
  bk : St → Hp → Prop := fun _ _ => False
  ct : St → Hp → Prop := fun _ _ => False
abbrev TS := Ends → St → Hp → Prop
def EP (X : Cx) (pins : List (Addr × Obj)) (σ : St) (Q : VK) (u : Value) (s' : Shared) : Prop := ∃ v H', Inv X pins σ H' s' ∧ RelV v u ∧ Q v H'
def TP (X : Cx) (pins : List (Addr × Obj)) (σ : St) (Q : Bool → Hp → Prop) (b : Bool) (s' : Shared) : Prop := ∃ H', Inv X pins σ H' s' ∧ Q b H'
def AP (X : Cx) (pins : List (Addr × Obj)) (σ : St) (Q : List V → Hp → Prop) (us : List Value) (s' : Shared) : Prop := ∃ vs H', Inv X pins σ H' s' ∧ Vals vs us ∧ Q vs H'
def SP (X : Cx) (pins : List (Addr × Obj)) (D : Ends) (f : Flow) (s' : Shared) : Prop :=
  match f with
  | .next => ∃ σ' H', Inv X pins σ' H' s' ∧ D.nx σ' H'
  | .brk => ∃ σ' H', Inv X pins σ' H' s' ∧ D.bk σ' H'
  | .cont => ∃ σ' H', Inv X pins σ' H' s' ∧ D.ct σ' H'
  | .ret u => ∃ v σ' H', Inv X pins σ' H' s' ∧ RelV v u ∧ D.rt v H'
def PE (X : Cx) (e : Expr) (t : TE) : Prop :=
  ∀ (pins : List (Addr × Obj)) (s : Shared) (σ : St) (H : Hp) (Q : VK), Inv X pins σ H s → t σ H Q → wpAny (model X.prog X.w) X.A (eval e X.env) (EP X pins σ Q) X.xe s
def PT (X : Cx) (e : Expr) (t : TT) : Prop :=
  ∀ (pins : List (Addr × Obj)) (s : Shared) (σ : St) (H : Hp) (Q : Bool → Hp → Prop), Inv X pins σ H s → t σ H Q → wpAny (model X.prog X.w) X.A (isTrue e X.env (eval e X.env)) (TP X pins σ Q) X.xe s
def PW (X : Cx) (e : Expr) (t : TT) : Prop :=
  ∀ (whole : Sem Value) (pins : List (Addr × Obj)) (s : Shared) (σ : St) (H : Hp) (Q : Bool → Hp → Prop), Inv X pins σ H s → t σ H Q → wpAny (model X.prog X.w) X.A (isTrue e X.env whole) (TP X pins σ Q) X.xe s
theorem PW.pt {X : Cx} {e : Expr} {t : TT} (h : PW X e t) : PT X e t := h _
def PA (X : Cx) (es : List Expr) (t : TA) : Prop :=
  ∀ (pos : Pos) (pins : List (Addr × Obj)) (s : Shared) (σ : St) (H : Hp) (Q : List V → Hp → Prop), Inv X pins σ H s → t σ H Q → wpAny (model X.prog X.w) X.A (spliced (backTo pos (starEach es X.env))) (AP X pins σ Q) X.xe s
def PS (X : Cx) (st : Stmt) (t : TS) : Prop :=
  ∀ (pins : List (Addr × Obj)) (s : Shared) (σ : St) (H : Hp) (D : Ends), Inv X pins σ H s → t D σ H → wpAny (model X.prog X.w) X.A (exec st X.env) (SP X pins D) X.xe s
def PSs (X : Cx) (st : List Stmt) (t : TS) : Prop :=
  ∀ (pins : List (Addr × Obj)) (s : Shared) (σ : St) (H : Hp) (D : Ends), Inv X pins σ H s → t D σ H → wpAny (model X.prog X.w) X.A (execs st X.env) (SP X pins D) X.xe s
theorem thn {α : Type} {t : Sem α} {Q Q' : α → Shared → Prop} {M : Model} {A : Around} {E : Value → Shared → Prop} {s : Shared} (h : wpAny M A t Q E s) (hQ : ∀ a s, Q a s → Q' a s) : wpAny M A t Q' E s := wpAny_mono h hQ fun _ _ x => x
end L2
namespace L2
open PySem PySem.Spec PyProof.Rows
section
variable {X : Cx}
def tVar (i : Nat) : TE := fun σ H Q => ∃ v, σ[i]? = some (some v) ∧ Q v H
def tC (v : V) : TE := fun _ H Q => Q v H
theorem pe_var {i : Nat} {x : Str} {pos : Pos} (hN : X.N[i]? = some x) (hv : Vis X.env.scope x) (hd : (x == ("__debug__" : Str)) = false := by decide) (hcd : (x == ("__classdict__" : Str)) = false := by decide) : PE X (.Name x pos) (tVar i) := by
  intro pins s σ H Q I h
  obtain ⟨v, e, h⟩ := h
  obtain ⟨m, hn, hl⟩ := I.loc
  obtain ⟨u, r, l⟩ := hl i x v hN e hv
  have fin : EP X pins σ Q u s := ⟨v, H, I, r, h⟩
  rcases l with ⟨hk, hm⟩ | ⟨hk, c, hc, hcell⟩
  · exact wpAny_Name (wpAny_loadName_local I.ok.kind hk hn hm fin) hd
  · rcases hk with hk | hk
    · exact wpAny_Name (wpAny_loadName_cell I.ok.kind hk hc hcell fin) hd
    · exact wpAny_Name (wpAny_loadName_free I.ok.kind hk hc hcell fin hcd) hd
theorem pe_int {i j pos} : PE X (.Constant (.int i) j pos) (tC (.int i)) := fun _ _ _ H _ I h => wpAny_Constant_int ⟨.int i, H, I.tok _, ⟨_, rfl⟩, h⟩
theorem pe_bl {b j pos} : PE X (.Constant (.bool b) j pos) (tC (.bl b)) := fun _ _ _ H _ I h => Constant_bool ⟨.bl b, H, I, rfl, h⟩
theorem pe_non {j pos} : PE X (.Constant .none j pos) (tC .non) := fun _ _ _ H _ I h => Constant_none ⟨.non, H, I, rfl, h⟩
theorem pe_str {x j pos} : PE X (.Constant (.str x) j pos) (tC (.str x)) := fun _ _ _ H _ I h => Calls.Constant_str ⟨.str x, H, I.tok _, ⟨_, rfl⟩, h⟩
def Gl (X : Cx) (x : Str) : Prop := X.env.kindOf x = some .globalImplicit
theorem ld_glob {E : Value → Shared → Prop} {pins : List (Addr × Obj)} {s : Shared} {σ : St} {H : Hp} {x : Str} {u : Value} {pos : Pos} {Q : Value → Shared → Prop} (I : Inv X pins σ H s) (hg : Gl X x) (hm : X.mg x = some u) (h : Q u s)
    (hd : (x == ("__debug__" : Str)) = false := by decide) : wpAny (model X.prog X.w) X.A (eval (.Name x pos) X.env) Q E s :=
  Calls.Name_function_global I.ok.kind hg (Calls.loadGlobal_global (by rw [I.ok.glob]; exact I.mod.glob.keeps I.bk) hm h) hd
theorem ld_blt {E : Value → Shared → Prop} {pins : List (Addr × Obj)} {s : Shared} {σ : St} {H : Hp} {x : Str} {u : Value} {pos : Pos} {Q : Value → Shared → Prop} (I : Inv X pins σ H s) (hg : Gl X x) (hm : X.mg x = none) (hv : bootBuiltins x = some u) (h : Q u s)
    (hn : x ≠ "__name__" := by decide) (hd : (x == ("__debug__" : Str)) = false := by decide) : wpAny (model X.prog X.w) X.A (eval (.Name x pos) X.env) Q E s := by
  obtain ⟨mb, h1, h2⟩ := I.mod.blt
  exact Calls.Name_function_global I.ok.kind hg (Calls.loadGlobal_builtin (by rw [I.ok.glob]; exact I.mod.glob.keeps I.bk) hm (by rw [I.ok.blt]; exact h1.keeps I.bk) ((h2 x hn).trans hv) h) hd
theorem pe_glob {x : Str} {v : V} {u : Value} {pos : Pos} (hg : Gl X x) (hm : X.mg x = some u) (r : RelV v u) (hd : (x == ("__debug__" : Str)) = false := by decide) : PE X (.Name x pos) (tC v) :=
  fun _ _ _ H _ I h => ld_glob I hg hm ⟨v, H, I, r, h⟩ hd
theorem pe_bltn {x : Str} {v : V} {u : Value} {pos : Pos} (hg : Gl X x) (hm : X.mg x = none) (hv : bootBuiltins x = some u) (r : RelV v u) (hn : x ≠ "__name__" := by decide) (hd : (x == ("__debug__" : Str)) = false := by decide) : PE X (.Name x pos) (tC v) :=
  fun _ _ _ H _ I h => ld_blt I hg hm hv ⟨v, H, I, r, h⟩ hn hd
variable {a b : Expr} {ta tb : TE} {pos : Pos}
def tB (t : TE) : TT := fun σ H Q => t σ H fun x H1 => ∃ c, x = .bl c ∧ Q c H1
theorem pt_val {e : Expr} {t : TE} (h : PE X e t) (he : ∀ whole, isTrue e X.env whole = (do let v ← whole; standAt e.pos; holding [v] (truthy v)) := by intro _; rfl) : PT X e (tB t) := by
  intro pins s σ H Q I hw
  refine isTrue_plain (thn (h pins s σ H _ I hw) fun v s1 ⟨x, H1, I1, r1, q1⟩ => ?_) (he _)
  obtain ⟨d, rfl, q⟩ := q1
  cases r1
  exact wpAny_truthy_bool ⟨H1, I1, q⟩
variable {tA tB' : TT} {rest : List Expr}
def tOr (t u : TT) : TT := fun σ H Q => t σ H fun c H1 => if c = true then Q true H1 else u σ H1 Q
def tNot (t : TT) : TT := fun σ H Q => t σ H fun c H1 => Q (!c) H1
theorem pw_or1 (ha : PT X a tA) : PW X (.BoolOp .Or [a] pos) tA := by
  intro wh pins s σ H Q I h
  refine isTrue_or (thn (ha pins s σ H Q I h) fun c s1 e => ?_)
  cases c with
  | false => exact isTrue_or_nil e
  | true => exact e
theorem pw_or (ha : PT X a tA) (hb : PW X (.BoolOp .Or (b :: rest) pos) tB') : PW X (.BoolOp .Or (a :: b :: rest) pos) (tOr tA tB') := by
  intro wh pins s σ H Q I h
  refine isTrue_or (thn (ha pins s σ H _ I h) fun c s1 ⟨H1, I1, q1⟩ => ?_)
  cases c with
  | true => exact ⟨H1, I1, q1⟩
  | false => exact hb wh pins s1 σ H1 Q I1 q1
theorem pt_not (ha : PT X a tA) : PT X (.UnaryOp .Not a pos) (tNot tA) := by
  intro pins s σ H Q I h
  exact isTrue_not (ha pins s σ H (fun c H1 => Q (!c) H1) I h)
def tAndV (ta tb : TE) : TE := fun σ H Q => ta σ H fun x H1 => ∃ c, x = .bl c ∧ if c = true then tb σ H1 Q else Q (.bl false) H1
def tNotV (ta : TE) : TE := fun σ H Q => ta σ H fun x H1 => ∃ c, x = .bl c ∧ Q (.bl (!c)) H1
theorem pe_one {op} {t : TE} (h : PE X a t) : PE X (.BoolOp op [a] pos) t := fun pins s σ H Q I hw => BoolOp_one (h pins s σ H Q I hw)
theorem pe_and (ha : PE X a ta) (hb : PE X (.BoolOp .And (b :: rest) pos) tb) : PE X (.BoolOp .And (a :: b :: rest) pos) (tAndV ta tb) := by
  intro pins s σ H Q I h
  refine BoolOp_and (thn (ha pins s σ H _ I h) fun v s1 ⟨x, H1, I1, r1, q1⟩ => ?_)
  obtain ⟨c, rfl, q1⟩ := q1
  cases r1
  refine wpAny_truthy_bool ?_
  cases c with
  | true => exact hb pins s1 σ H1 Q I1 q1
  | false => exact ⟨.bl false, H1, I1, rfl, q1⟩
theorem pe_not (ha : PE X a ta) : PE X (.UnaryOp .Not a pos) (tNotV ta) := by
  intro pins s σ H Q I h
  refine UnaryOp_ (thn (ha pins s σ H _ I h) fun v s1 ⟨x, H1, I1, r1, q1⟩ => ?_)
  obtain ⟨c, rfl, q1⟩ := q1
  cases r1
  exact not_of (wpAny_truthy_bool ⟨.bl (!c), H1, I1, rfl, q1⟩)
end
end L2
namespace L2
open PySem PySem.Spec PyProof.Rows
def SqL (K : PySem.W.Frag) (H : Hp) (a : Addr) (xs : List V) : Prop :=
  Rd H a (.lst xs) ∨
    ∃ (o : Obj) (its : Array Value) (n : Nat), K.lookup a = some o ∧ o.cls = .type "list" ∧ o.dict = none ∧ o.data = .seq its n ∧ its.size ≤ sizeLine ∧ Vals xs its.toList
def SqT (K : PySem.W.Frag) (H : Hp) (a : Addr) (xs : List V) : Prop :=
  Rd H a (.tup xs) ∨
    ∃ (o : Obj) (its : Array Value) (n : Nat), K.lookup a = some o ∧ o.cls = .type "tuple" ∧ o.data = .seq its n ∧ its.size ≤ sizeLine ∧ Vals xs its.toList
def absV : Value → Option V
  | .none => some .non
  | .bool b => some (.bl b)
  | .int i _ => some (.int i)
  | .str x _ => some (.str x)
  | .bytes b _ => some (.byt b)
  | .float b _ => some (.flt b)
  | .ref a => some (.ref a)
  | .type n => some (.ty n)
  | _ => none
theorem RelV.abs {x : V} {u : Value} (r : RelV x u) : absV u = some x := by
  cases x with
  | non => cases r; rfl
  | bl _ => cases r; rfl
  | int _ => obtain ⟨t, rfl⟩ := r; rfl
  | str _ => obtain ⟨t, rfl⟩ := r; rfl
  | byt _ => obtain ⟨t, rfl⟩ := r; rfl
  | flt _ => obtain ⟨t, rfl⟩ := r; rfl
  | ref _ => cases r; rfl
  | ty _ => cases r; rfl
theorem RelV.inj {x y : V} {u : Value} (r : RelV x u) (q : RelV y u) : x = y := Option.some.inj (r.abs.symm.trans q.abs)
theorem Vals.inj : ∀ {xs ys : List V} {us : List Value}, Vals xs us → Vals ys us → xs = ys
  | _, _, _, .nil, .nil => rfl
  | _, _, _, .cons r t, .cons r' t' => by rw [r.inj r', Vals.inj t t']
section
variable {X : Cx} {pins : List (Addr × Obj)} {σ : St} {H : Hp} {s : Shared} {a : Addr} {xs ys : List V}
theorem SqL.of {K : PySem.W.Frag} (h : H a = some (.lst xs)) : SqL K H a xs := .inl (.inl h)
theorem SqT.of {K : PySem.W.Frag} (h : H a = some (.tup xs)) : SqT K H a xs := .inl (.inl h)
theorem Inv.list (I : Inv X pins σ H s) (h : SqL X.K H a xs) : ∃ its : List Value, Vals xs its ∧ PlainL s.heap a its.toArray ∧ xs.length ≤ sizeLine := by
  rcases h with h | ⟨o, its, n, hk, hc, hd, hs, hz, r⟩
  · obtain ⟨z, its, n, r, e⟩ := h.ok I.hok
    exact ⟨its, r, ⟨_, n, e, rfl, rfl, rfl⟩, z⟩
  · refine ⟨its.toList, r, ⟨o, n, I.kIn a o hk, hc, hd, by simpa using hs⟩, ?_⟩
    have e := r.length
    simp only [Array.length_toList] at e
    omega
theorem Inv.tuple (I : Inv X pins σ H s) (h : SqT X.K H a xs) : ∃ its : List Value, Vals xs its ∧ IsTup s.heap a its.toArray ∧ xs.length ≤ sizeLine := by
  rcases h with h | ⟨o, its, n, hk, hc, hs, hz, r⟩
  · obtain ⟨z, its, r, p⟩ := h.ok I.hok
    exact ⟨its, r, p, z⟩
  · refine ⟨its.toList, r, ⟨o, I.kIn a o hk, hc, n, by simpa using hs⟩, ?_⟩
    have e := r.length
    simp only [Array.length_toList] at e
    omega
theorem Inv.list_inj (I : Inv X pins σ H s) (h : SqL X.K H a xs) (h' : SqL X.K H a ys) : xs = ys := by
  obtain ⟨its, r, ⟨o, n, e, _, _, d⟩, _⟩ := I.list h
  obtain ⟨its', r', ⟨o', n', e', _, _, d'⟩, _⟩ := I.list h'
  rw [e] at e'; cases e'
  rw [d] at d'
  injection d' with d1 _
  have : its = its' := by simpa using congrArg Array.toList d1
  subst this
  exact r.inj r'
theorem Inv.tuple_inj (I : Inv X pins σ H s) (h : SqT X.K H a xs) (h' : SqT X.K H a ys) : xs = ys := by
  obtain ⟨its, r, ⟨o, e, _, n, d⟩, _⟩ := I.tuple h
  obtain ⟨its', r', ⟨o', e', _, n', d'⟩, _⟩ := I.tuple h'
  rw [e] at e'; cases e'
  rw [d] at d'
  injection d' with d1 _
  have : its = its' := by simpa using congrArg Array.toList d1
  subst this
  exact r.inj r'
end
abbrev Cx.wish (X : Cx) (E : Value → Shared → Prop) : Cx := { X with xe := E }
abbrev Cx.nox (X : Cx) : Cx := X.wish fun _ _ => False
theorem Cx.Ok.wish {X : Cx} (ok : X.Ok) (E : Value → Shared → Prop) : (X.wish E).Ok :=
  ⟨ok.mod, ok.kind, ok.glob, ok.blt, ok.above, ok.inj, ok.has, ok.cab, ok.hd, ok.frames, ok.stk, ok.exf, ok.bs, ok.bsz, ok.noex, ok.exfs, ok.funs, ok.frf⟩
theorem Cx.Ok.unwish {X : Cx} {E : Value → Shared → Prop} (ok : (X.wish E).Ok) : X.Ok :=
  ⟨ok.mod, ok.kind, ok.glob, ok.blt, ok.above, ok.inj, ok.has, ok.cab, ok.hd, ok.frames, ok.stk, ok.exf, ok.bs, ok.bsz, ok.noex, ok.exfs, ok.funs, ok.frf⟩
section
variable {X : Cx} {pins : List (Addr × Obj)} {σ : St} {H : Hp} {s : Shared} {E : Value → Shared → Prop}
theorem Inv.wish (I : Inv X pins σ H s) (E : Value → Shared → Prop) : Inv (X.wish E) pins σ H s := ⟨I.ok.wish E, I.os, I.bare, I.base, I.loc, I.cell, I.free, I.freeC, I.pin, I.hok, I.len⟩
theorem Inv.unwish (I : Inv (X.wish E) pins σ H s) : Inv X pins σ H s := ⟨I.ok.unwish, I.os, I.bare, I.base, I.loc, I.cell, I.free, I.freeC, I.pin, I.hok, I.len⟩
theorem SP.unwish {D : Ends} {f : Flow} {s' : Shared} (h : SP (X.wish E) pins D f s') : SP X pins D f s' := by
  cases f with
  | next => obtain ⟨σ', H', I, q⟩ := h; exact ⟨σ', H', I.unwish, q⟩
  | brk => obtain ⟨σ', H', I, q⟩ := h; exact ⟨σ', H', I.unwish, q⟩
  | cont => obtain ⟨σ', H', I, q⟩ := h; exact ⟨σ', H', I.unwish, q⟩
  | ret u => obtain ⟨v, σ', H', I, r, q⟩ := h; exact ⟨v, σ', H', I.unwish, r, q⟩
theorem PE.nox {e : Expr} {t : TE} (h : PE X.nox e t) : PE X e t := fun pins s σ H Q I hw =>
  wpAny_mono (h pins s σ H Q (I.wish _) hw) (fun _ _ ⟨v, H', I', r, q⟩ => ⟨v, H', I'.unwish, r, q⟩) fun _ _ z => False.elim z
theorem PT.nox {e : Expr} {t : TT} (h : PT X.nox e t) : PT X e t := fun pins s σ H Q I hw =>
  wpAny_mono (h pins s σ H Q (I.wish _) hw) (fun _ _ ⟨H', I', q⟩ => ⟨H', I'.unwish, q⟩) fun _ _ z => False.elim z
theorem PSs.nox {st : List Stmt} {t : TS} (h : PSs X.nox st t) : PSs X st t := fun pins s σ H D I hw =>
  wpAny_mono (h pins s σ H D (I.wish _) hw) (fun _ _ q => q.unwish) fun _ _ z => False.elim z
end
section
variable {X : Cx} {st : Stmt} {rest : List Stmt} {t u : TS} {e : Expr} {te : TE} {pos : Pos}
def tNext : TS := fun D σ H => D.nx σ H
def tSeq (t u : TS) : TS := fun D σ H => t { D with nx := u D } σ H
theorem pss_nil : PSs X [] tNext := fun _ _ σ H _ I h => wpAny_execs_nil ⟨σ, H, I, h⟩
theorem pss_cons (h1 : PS X st t) (h2 : PSs X rest u) : PSs X (st :: rest) (tSeq t u) := by
  intro pins s σ H D I h
  refine wpAny_execs_cons (thn (h1 pins s σ H { D with nx := u D } I h) fun f s1 q => ?_)
  cases f with
  | next =>
    obtain ⟨σ', H', I', q⟩ := q
    exact h2 pins s1 σ' H' D I' q
  | ret v => exact q
  | brk => exact q
  | cont => exact q
theorem pss_one (h1 : PS X st t) : PSs X [st] t := by
  intro pins s σ H D I h
  refine wpAny_execs_cons (thn (h1 pins s σ H D I h) fun f s1 q => ?_)
  cases f with
  | next => exact wpAny_execs_nil q
  | ret v => exact q
  | brk => exact q
  | cont => exact q
theorem Inv.quiet {pins : List (Addr × Obj)} {σ : St} {H : Hp} {s : Shared} (I : Inv X pins σ H s) : interactive X.env = false := by simp [interactive, I.ok.kind]
def tDrop (te : TE) : TS := fun D σ H => te σ H fun _ H1 => D.nx σ H1
theorem ps_expr (he : PE X e te) (hs : swapsWith e none pos.line X.env = pure false := by rfl) : PS X (.Expr e pos) (tDrop te) := by
  intro pins s σ H D I h
  exact wpAny_Expr_any (thn (he pins s σ H _ I h) fun v s1 ⟨x, H1, I1, r1, q1⟩ => ⟨σ, H1, I1, q1⟩) I.quiet hs
def tRet (te : TE) : TS := fun D σ H => te σ H D.rt
theorem ps_ret (he : PE X e te) : PS X (.Return (some e) pos) (tRet te) := by
  intro pins s σ H D I h
  exact wpAny_Return_some (thn (he pins s σ H _ I h) fun v s1 ⟨x, H1, I1, r1, q1⟩ => ⟨x, σ, H1, I1, r1, q1⟩)
def tIfS (c : TT) (t u : TS) : TS := fun D σ H => c σ H fun b H1 => if b = true then t D σ H1 else u D σ H1
theorem ps_if {c : Expr} {a b : List Stmt} {tc : TT} (hc : PT X c tc) (ha : PSs X a t) (hb : PSs X b u) : PS X (.If c a b pos) (tIfS tc t u) := by
  intro pins s σ H D I h
  refine wpAny_If (thn (hc pins s σ H _ I h) fun d s1 ⟨H1, I1, q1⟩ => ?_)
  cases d with
  | true => exact ha pins s1 σ H1 D I1 q1
  | false => exact hb pins s1 σ H1 D I1 q1
end
abbrev TG := V → St → Hp → (St → Hp → Prop) → Prop
abbrev TGs := List V → St → Hp → (St → Hp → Prop) → Prop
def PG (X : Cx) (target : Expr) (t : TG) : Prop :=
  ∀ (pins : List (Addr × Obj)) (s : Shared) (σ : St) (H : Hp) (v : V) (u : Value) (Q : St → Hp → Prop), Inv X pins σ H s → RelV v u → t v σ H Q →
    wpAny (model X.prog X.w) X.A (assign target X.env u) (fun _ s' => ∃ σ' H', Inv X pins σ' H' s' ∧ Q σ' H') X.xe s
def PGs (X : Cx) (ts : List Expr) (t : TGs) : Prop :=
  ∀ (pins : List (Addr × Obj)) (s : Shared) (σ : St) (H : Hp) (vs : List V) (us : List Value) (Q : St → Hp → Prop), Inv X pins σ H s → Vals vs us → t vs σ H Q →
    wpAny (model X.prog X.w) X.A (assignInOrder ((assignEach ts X.env).map (·.2)) us) (fun _ s' => ∃ σ' H', Inv X pins σ' H' s' ∧ Q σ' H') X.xe s
abbrev TSet := V → V → V → Hp → (Hp → Prop) → Prop
def PSet (X : Cx) (t : TSet) : Prop :=
  ∀ (pins : List (Addr × Obj)) (s : Shared) (σ : St) (H : Hp) (o i v : V) (ov iv u : Value) (Q : Hp → Prop), Inv X pins σ H s → RelV o ov → RelV i iv → RelV v u → t o i v H Q →
    wpAny (model X.prog X.w) X.A (setItem ov iv u) (fun _ s' => ∃ H', Inv X pins σ H' s' ∧ Q H') X.xe s
abbrev TIp := V → V → Hp → VK → Prop
def PIp (X : Cx) (op : Operator) (t : TIp) : Prop :=
  ∀ (pins : List (Addr × Obj)) (s : Shared) (σ : St) (H : Hp) (x y : V) (v u : Value) (Q : VK), Inv X pins σ H s → RelV x v → RelV y u → t x y H Q →
    wpAny (model X.prog X.w) X.A (inplaceOp op v u) (EP X pins σ Q) X.xe s
section
variable {X : Cx} {pos : Pos}
def gName (i : Nat) : TG := fun v σ H Q => Q (σ.set i (some v)) H
theorem pg_name {i : Nat} {x : Str} (hN : X.N.Nodup) (hi : X.N[i]? = some x) (hx : Loc X.env.scope x) (hf : X.fn x = true ∨ X.env.scope.names.lookup x = some .local := by first | exact .inl rfl | exact .inr rfl | assumption) : PG X (.Name x pos) (gName i) := by
  intro pins s σ H v u Q I r h
  exact wpAny_assign_Name (store_ok I hN hi hx r (fun s' I' => ⟨_, H, I', h⟩) hf)
def gNil : TGs := fun vs σ H Q => vs = [] ∧ Q σ H
def gCons (t : TG) (u : TGs) : TGs := fun vs σ H Q => ∃ v r, vs = v :: r ∧ t v σ H fun σ' H' => u r σ' H' Q
theorem pgs_nil : PGs X [] gNil := by
  intro pins s σ H vs us Q I r h
  obtain ⟨e, h⟩ := h
  subst e
  cases r
  exact assignInOrder_nil ⟨σ, H, I, h⟩
theorem pgs_cons {e : Expr} {es : List Expr} {t : TG} {u : TGs} (h1 : PG X e t) (h2 : PGs X es u)
    (hs : (assignEach (e :: es) X.env).map (·.2) = assign e X.env :: (assignEach es X.env).map (·.2) := by rfl) : PGs X (e :: es) (gCons t u) := by
  intro pins s σ H vs us Q I r h
  obtain ⟨v, vr, e1, h⟩ := h
  subst e1
  cases r with
  | cons r rr =>
    rw [hs]
    refine assignInOrder_cons (thn (h1 pins s σ H _ _ _ I r h) fun _ s1 ⟨σ1, H1, I1, q1⟩ => ?_)
    exact h2 pins s1 σ1 H1 _ _ Q I1 rr q1
def gTup (K : PySem.W.Frag) (n : Nat) (t : TGs) : TG := fun v σ H Q => ∃ a xs, v = .ref a ∧ SqT K H a xs ∧ xs.length = n ∧ t xs σ H Q
theorem pg_tup {es : List Expr} {k : Nat} {t : TGs} {n : Nat} (hc : X.calm = true) (h : PGs X es t)
    (hn : (assignEach es X.env).length = n := by rfl) (hst : (assignEach es X.env).findIdx? (·.1) = none := by rfl) : PG X (.Tuple es k pos) (gTup X.K n t) := by
  intro pins s σ H v u Q I r hw
  obtain ⟨a, xs, e1, hq, hl, hw⟩ := hw
  subst e1
  cases r
  obtain ⟨its, rv, ht, hz⟩ := I.tuple hq
  refine assign_Tuple_tuple (I.ok.hd hc) ht (by simp [hn, ← hl, rv.length]) hst fun h' hx => ?_
  have I1 : Inv X pins σ H { s with heap := h' } := I.kept (t' := s.toks) fun b o e => hx b o (Nat.ne_of_lt (Heap.lt_size e)) e
  exact h pins _ σ H xs _ Q I1 (by simpa using rv) hw
def gSub (to ti : TE) (t : TSet) : TG := fun v σ H Q => to σ H fun o H1 => ti σ H1 fun i H2 => t o i v H2 fun H3 => Q σ H3
theorem pg_sub {o i : Expr} {to ti : TE} {t : TSet} (ho : PE X o to) (hi : PE X i ti) (hs : PSet X t)
    (ha : ∀ v, assign (.Subscript o i pos) X.env v = (do
      let ov ← holding [v] (eval o X.env)
      let iv ← holding [v, ov] (eval i X.env)
      standAt pos
      holding [v, ov, iv] (setItem ov iv v)
      release [v, ov, iv] []) := by intro _; rfl) : PG X (.Subscript o i pos) (gSub to ti t) := by
  intro pins s σ H v u Q I r h
  rw [ha]
  refine wpAny_bind (wpAny_holding (thn (ho pins s σ H _ I h) fun ov s1 ⟨x, H1, I1, r1, q1⟩ => ?_))
  refine wpAny_bind (wpAny_holding (thn (hi pins s1 σ H1 _ I1 q1) fun iv s2 ⟨y, H2, I2, r2, q2⟩ => ?_))
  refine wpAny_bind (wpAny_standAt (wpAny_bind (wpAny_holding (thn (hs pins s2 σ H2 x y v ov iv u _ I2 r1 r2 r q2) fun _ s3 ⟨H3, I3, q3⟩ => ?_))))
  exact wpAny_release ⟨σ, H3, I3, q3⟩
def tAsg (te : TE) (g : TG) : TS := fun D σ H => te σ H fun x H1 => g x σ H1 D.nx
theorem ps_asg {tg e : Expr} {te : TE} {g : TG} (he : PE X e te) (hg : PG X tg g) (hs : swapsWithSole [tg] e pos.line X.env = pure false := by rfl) (hw : swappedStores [tg] e X.env = pure none := by rfl)
    (h1 : (assignEach [tg] X.env).map (·.2) = [assign tg X.env] := by rfl) : PS X (.Assign [tg] e pos) (tAsg te g) := by
  intro pins s σ H D I h
  refine wpAny_Assign_stores (thn (he pins s σ H _ I h) fun v s1 ⟨x, H1, I1, r1, q1⟩ => ?_) hs hw
  rw [h1]
  exact thn (hg pins s1 σ H1 x v _ I1 r1 q1) fun _ s2 q => q
theorem ps_set {i : Nat} {x : Str} {e : Expr} {te : TE} {pos' : Pos} (hN : X.N.Nodup) (hi : X.N[i]? = some x) (hx : Loc X.env.scope x) (he : PE X e te) (hs : swapsWith e (some (.Name x pos')) pos.line X.env = pure false := by rfl) (hf : X.fn x = true ∨ X.env.scope.names.lookup x = some .local := by first | exact .inl rfl | exact .inr rfl | assumption) :
    PS X (.Assign [.Name x pos'] e pos) (tAsg te (gName i)) := by
  intro pins s σ H D I h
  refine wpAny_Assign_Name (thn (he pins s σ H _ I h) fun v s1 ⟨y, H1, I1, r1, q1⟩ => ?_) hs
  exact store_ok I1 hN hi hx r1 (fun s2 I2 => ⟨_, H1, I2, q1⟩) hf
def tAug (i : Nat) (te : TE) (ti : TIp) : TS := fun D σ H => ∃ x, σ[i]? = some (some x) ∧ te σ H fun y H1 => ti x y H1 fun z H2 => D.nx (σ.set i (some z)) H2
theorem ps_aug {i : Nat} {x : Str} {e : Expr} {te : TE} {op : Operator} {ti : TIp} {pos' : Pos} (hN : X.N.Nodup) (hi : X.N[i]? = some x) (hx : Loc X.env.scope x) (he : PE X e te) (ho : PIp X op ti) (hf : X.fn x = true ∨ X.env.scope.names.lookup x = some .local := by first | exact .inl rfl | exact .inr rfl | assumption) :
    PS X (.AugAssign (.Name x pos') op e pos) (tAug i te ti) := by
  intro pins s σ H D I h
  obtain ⟨v, e1, h⟩ := h
  obtain ⟨m, hn, hl⟩ := I.loc
  have vis : Vis X.env.scope x := by rcases hx with k | k; exact .inl k; exact .inr (.inl k)
  obtain ⟨u, r, l⟩ := hl i x v hi e1 vis
  refine wpAny_AugAssign_Name ?_
  have go : wpAny (model X.prog X.w) X.A (eval e X.env) (fun w s₂ => wpAny (model X.prog X.w) X.A (inplaceOp op u w) (fun r s₃ => wpAny (model X.prog X.w) X.A (storeName X.env x r) (fun _ => SP X pins D .next) X.xe s₃) X.xe s₂) X.xe s := by
    refine thn (he pins s σ H _ I h) fun w s1 ⟨y, H1, I1, r1, q1⟩ => ?_
    refine thn (ho pins s1 σ H1 v y u w _ I1 r r1 q1) fun z s2 ⟨zv, H2, I2, r2, q2⟩ => ?_
    exact store_ok I2 hN hi hx r2 (fun s3 I3 => ⟨_, H2, I3, q2⟩) hf
  rcases l with ⟨hk, hm⟩ | ⟨hk, c, hc, hcell⟩
  · exact wpAny_loadName_local I.ok.kind hk hn hm go
  · rcases hk with hk | hk
    · exact wpAny_loadName_cell I.ok.kind hk hc hcell go
    · rcases hx with k | k
      · have : X.env.scope.names.lookup x = some .free := hk
        rw [k] at this; cases this
      · have : X.env.scope.names.lookup x = some .free := hk
        rw [k] at this; cases this
def ipI (f : Int → Int → Int) : TIp := fun x y H Q => ∃ i j, x = .int i ∧ y = .int j ∧ Q (.int (f i j)) H
theorem ip_add : PIp X .Add (ipI fun i j => i + j) := by
  intro pins s σ H x y v u Q I r1 r2 h
  obtain ⟨i, j, e1, e2, q⟩ := h
  subst e1; subst e2
  obtain ⟨t, rfl⟩ := r1
  obtain ⟨t', rfl⟩ := r2
  exact iadd_int ⟨.int _, H, I.tok _, ⟨_, rfl⟩, q⟩
theorem ip_sub : PIp X .Sub (ipI fun i j => i - j) := by
  intro pins s σ H x y v u Q I r1 r2 h
  obtain ⟨i, j, e1, e2, q⟩ := h
  subst e1; subst e2
  obtain ⟨t, rfl⟩ := r1
  obtain ⟨t', rfl⟩ := r2
  exact isub_int ⟨.int _, H, I.tok _, ⟨_, rfl⟩, q⟩
end
section
variable {X : Cx} {pos : Pos}
def tWhile (c : TT) (tb : TS) : TS := fun D σ H => ∃ W : Nat → St → Hp → Prop, (∃ m, W m σ H) ∧ ∀ m σ H, W m σ H →
  c σ H fun b H1 => if b = true then ∃ N : St → Hp → Prop, (∀ σ' H', N σ' H' → ∃ m', m' < m ∧ W m' σ' H') ∧ tb { D with nx := N, ct := N, bk := D.nx } σ H1 else D.nx σ H1
theorem ps_while {c : Expr} {body : List Stmt} {tc : TT} {tb : TS} (hp : PassesOwn (model X.prog X.w) X.A X.env X.xe) (hc : PT X c tc) (hb : PSs X body tb) : PS X (.While c body [] pos) (tWhile tc tb) := by
  intro pins s σ H D I h
  obtain ⟨W, ⟨m0, w0⟩, turn⟩ := h
  refine wpAny_While (codeAny_whileLoop (fun n s' => ∃ σ' H', Inv X pins σ' H' s' ∧ W n σ' H') ?_ m0 ⟨σ, H, I, w0⟩)
  rintro n s1 ⟨σ1, H1, I1, w1⟩
  refine wpAny_passesOwn hp (thn (hc pins s1 σ1 H1 _ I1 (turn n σ1 H1 w1)) fun b s2 ⟨H2, I2, q2⟩ => ?_)
  cases b with
  | true =>
    obtain ⟨N, hN, q2⟩ := q2
    rw [if_pos rfl]
    refine wpAny_passesOwn hp (thn (hb pins s2 σ1 H2 _ I2 q2) fun f s3 q3 => ?_)
    cases f with
    | next =>
      obtain ⟨σ3, H3, I3, n3⟩ := q3
      obtain ⟨m', hm, w3⟩ := hN σ3 H3 n3
      exact ⟨m', hm, σ3, H3, I3, w3⟩
    | cont =>
      obtain ⟨σ3, H3, I3, n3⟩ := q3
      obtain ⟨m', hm, w3⟩ := hN σ3 H3 n3
      exact ⟨m', hm, σ3, H3, I3, w3⟩
    | brk => exact q3
    | ret v => exact q3
  | false =>
    rw [if_neg Bool.false_ne_true]
    exact wpAny_execs_nil ⟨σ1, H2, I2, q2⟩
end
structure It where
  go : Nat → Hp → Prop
  yld : Nat → Hp → V → Hp → Prop
  stop : Nat → Hp → Prop
def FpOk (X : Cx) (pins : List (Addr × Obj)) (H : Hp) (b : Addr) : Prop :=
  H b = none ∧ b ≠ X.env.locals ∧ b ∉ X.fs ∧ (b ∈ X.ex ∨ X.s₀.heap.objs.size ≤ b) ∧ (∀ x c, X.env.cells.lookup x = some c → c ≠ b) ∧ ∀ p ∈ X.pn ++ pins, p.1 ≠ b
theorem Inv.fpOk {X : Cx} {pins : List (Addr × Obj)} {σ : St} {H H' : Hp} {s : Shared} {b : Addr} (I : Inv X pins σ H s) (hb : s.heap.objs.size ≤ b) (hn : H' b = none) : FpOk X pins H' b := by
  refine ⟨hn, Nat.ne_of_gt (Nat.lt_of_lt_of_le I.lt hb), I.nofs hb, .inr (Nat.le_trans I.sz hb), fun x c e z => ?_, fun p hp z => ?_⟩
  · obtain ⟨v, q⟩ := I.cell x c e
    exact absurd (Nat.lt_of_lt_of_le q.lt (by rw [z]; exact hb)) (Nat.lt_irrefl _)
  · exact absurd (Nat.lt_of_lt_of_le (Heap.lt_size (I.pin p hp).1) (by rw [z]; exact hb)) (Nat.lt_irrefl _)
structure Turn (P : Program) (w : World) (K : PySem.W.Frag) (tg : Expr) (J : It) (fp : List Addr) (it : Addr) (tn : Nat → Heap → Prop) : Prop where
  mem : it ∈ fp
  obj : ∀ i h, tn i h → ∀ b ∈ fp, ∃ o, h.get? b = some o ∧ ∀ v, o.data ≠ .cell v
  keep : ∀ i h h', tn i h → (∀ b ∈ fp, ∀ o, h.get? b = some o → h'.get? b = some o) → tn i h'
  item : ∀ (X : Cx), X.prog = P → X.w = w → X.K = K → X.calm = true → ∀ (i : Nat) (pins : List (Addr × Obj)) (s : Shared) (σ : St) (H : Hp) (E : Value → Shared → Prop), Inv X pins σ H s → (∀ b ∈ fp, FpOk X pins H b) → tn i s.heap → J.go i H →
    wpAny (model P w) X.A (pyNext (.ref it)) (fun r s1 => ∃ u, r = some u ∧
      wpAny (model P w) X.A (letOwnedTupleGo tg (.ref it) u) (fun _ s2 => ∃ x H', Inv X pins σ H' s2 ∧ RelV x u ∧ J.yld i H x H' ∧ tn (i + 1) s2.heap ∧ ∀ b ∈ fp, H' b = none) E s1) E s
  done : ∀ (X : Cx), X.prog = P → X.w = w → X.K = K → X.calm = true → ∀ (i : Nat) (pins : List (Addr × Obj)) (s : Shared) (σ : St) (H : Hp) (E : Value → Shared → Prop), Inv X pins σ H s → (∀ b ∈ fp, FpOk X pins H b) → tn i s.heap → J.stop i H →
    wpAny (model P w) X.A (pyNext (.ref it)) (fun r s1 => r = none ∧ Inv X pins σ H s1) E s
  self : ∀ (A : Around) (i : Nat) (s : Shared) (Q : Value → Shared → Prop) (E : Value → Shared → Prop), tn i s.heap → Q (.ref it) s → wpAny (model P w) A (pyIter (.ref it)) Q E s
abbrev TI := St → Hp → (It → Hp → Prop) → Prop
def PIE (X : Cx) (pins : List (Addr × Obj)) (σ : St) (tg : Expr) (R : It → Hp → Prop) (itv : Value) (s2 : Shared) : Prop :=
  ∃ (it : Addr) (fp : List Addr) (tn : Nat → Heap → Prop) (J : It) (H' : Hp), itv = .ref it ∧ Inv X pins σ H' s2 ∧ Turn X.prog X.w X.K tg J fp it tn ∧ tn 0 s2.heap ∧ (∀ b ∈ fp, FpOk X pins H' b) ∧ R J H'
def PI (X : Cx) (tg iter : Expr) (wi : TI) : Prop :=
  ∀ (pins : List (Addr × Obj)) (s : Shared) (σ : St) (H : Hp) (R : It → Hp → Prop), Inv X pins σ H s → wi σ H R →
    wpAny (model X.prog X.w) X.A (eval iter X.env) (fun v s1 => wpAny (model X.prog X.w) X.A (pyIter v) (PIE X pins σ tg R) X.xe s1) X.xe s
theorem go_of {M : Model} {A : Around} {E : Value → Shared → Prop} {s : Shared} {tg : Expr} {it : Addr} {u : Value} {o : Obj} {n : String} {vs : Array Value} {Q : Unit → Shared → Prop} (ho : s.heap.get? it = some o) (hc : o.cls = .type n) (hd : o.data = .fields vs)
    (hn : ["enumerate", "zip", "dict_itemiterator", "dict_reverseitemiterator", "odict_iterator", "itertools.zip_longest", "itertools.pairwise"].contains n = false) (hQ : Q () s) : wpAny M A (letOwnedTupleGo tg (.ref it) u) Q E s := by
  unfold letOwnedTupleGo
  cases tg <;> first
    | exact wpAny_pure hQ
    | (cases u <;> first
        | exact wpAny_pure hQ
        | (refine wpAny_bind (wpAny_load ho ?_)
           rw [hc, hd]
           show wpAny M A (if (["enumerate", "zip", "dict_itemiterator", "dict_reverseitemiterator", "odict_iterator", "itertools.zip_longest", "itertools.pairwise"].contains n && vs[0]? == some (rawInt _)) = true then _ else _) Q E s
           rw [if_neg (by intro h; rw [hn, Bool.false_and] at h; cases h)]
           exact wpAny_pure hQ))
def Itl (K : PySem.W.Frag) (a : Addr) : It :=
  ⟨fun i H => ∃ xs x, SqL K H a xs ∧ xs[i]? = some x, fun i H x H' => H' = H ∧ ∀ xs, SqL K H a xs → xs[i]? = some x, fun i H => ∃ xs, SqL K H a xs ∧ xs.length ≤ i⟩
def Itt (K : PySem.W.Frag) (a : Addr) : It :=
  ⟨fun i H => ∃ xs x, SqT K H a xs ∧ xs[i]? = some x, fun i H x H' => H' = H ∧ ∀ xs, SqT K H a xs → xs[i]? = some x, fun i H => ∃ xs, SqT K H a xs ∧ xs.length ≤ i⟩
def Itr (lo : Int) (n : Nat) : It := ⟨fun i _ => i < n, fun i H x H' => H' = H ∧ x = .int (lo + i), fun i _ => n ≤ i⟩
theorem turn_list {P : Program} {w : World} {K : PySem.W.Frag} {tg : Expr} (a it : Addr) : Turn P w K tg (Itl K a) [it] it (fun i h => h.IsListIter it a i) where
  mem := by simp
  obj := fun i h st b hb => by
    have e : b = it := by simpa using hb
    subst e
    obtain ⟨o, e, c, d⟩ := st
    exact ⟨o, e, fun v z => by rw [d] at z; cases z⟩
  keep := fun i h h' st k => st.at fun o e => k it (by simp) o e
  item := by
    intro X hP hw hK hc i pins s σ H E I hf st hg
    subst hP hw hK
    obtain ⟨xs, x, hq, hx⟩ := hg
    obtain ⟨its, rv, p, hz⟩ := I.list hq
    obtain ⟨u, hu, ru⟩ := rv.get hx
    obtain ⟨f0, f1, f2, f3, f4, f5⟩ := hf it (by simp)
    refine wpAny_pyNext_list_item st p.isList (x := u) (by simpa using hu) fun h' st' sb => ?_
    have I1 : Inv X pins σ H { s with heap := h' } := I.turned (t' := s.toks) (fun b o hb e => (sb.2 b hb).trans e) f0 f1 f3 f4 f5
    obtain ⟨o, e, c, d⟩ := id st'
    exact ⟨u, rfl, go_of (s := { s with heap := h' }) e c d (by decide) ⟨x, H, I1, ru, ⟨rfl, fun ys hy => by rw [I.list_inj hy hq]; exact hx⟩, st', fun b hb => (hf b hb).1⟩⟩
  done := by
    intro X hP hw hK hc i pins s σ H E I hf st hg
    subst hP hw hK
    obtain ⟨xs, hq, hx⟩ := hg
    obtain ⟨its, rv, p, hz⟩ := I.list hq
    obtain ⟨f0, f1, f2, f3, f4, f5⟩ := hf it (by simp)
    have hl := rv.length
    exact wpAny_pyNext_list_end (I.ok.hd hc) st p.isList (by simp; omega) fun h' eb => ⟨rfl, I.turned (t' := s.toks) (fun b o hb e => eb b o hb e) f0 f1 f3 f4 f5⟩
  self := fun _ _ _ _ _ st h => wpAny_pyIter_listiter st h
theorem turn_tuple {P : Program} {w : World} {K : PySem.W.Frag} {tg : Expr} (a it : Addr) : Turn P w K tg (Itt K a) [it] it (fun i h => h.IsTupleIter it a i) where
  mem := by simp
  obj := fun i h st b hb => by
    have e : b = it := by simpa using hb
    subst e
    obtain ⟨o, e, c, d⟩ := st
    exact ⟨o, e, fun v z => by rw [d] at z; cases z⟩
  keep := fun i h h' st k => st.at fun o e => k it (by simp) o e
  item := by
    intro X hP hw hK hc i pins s σ H E I hf st hg
    subst hP hw hK
    obtain ⟨xs, x, hq, hx⟩ := hg
    obtain ⟨its, rv, p, hz⟩ := I.tuple hq
    obtain ⟨u, hu, ru⟩ := rv.get hx
    obtain ⟨f0, f1, f2, f3, f4, f5⟩ := hf it (by simp)
    refine wpAny_pyNext_tuple_item st (show s.heap.IsTuple a its.toArray from p) (x := u) (by simpa using hu) fun h' st' sb => ?_
    have I1 : Inv X pins σ H { s with heap := h' } := I.turned (t' := s.toks) (fun b o hb e => (sb.2 b hb).trans e) f0 f1 f3 f4 f5
    obtain ⟨o, e, c, d⟩ := id st'
    exact ⟨u, rfl, go_of (s := { s with heap := h' }) e c d (by decide) ⟨x, H, I1, ru, ⟨rfl, fun ys hy => by rw [I.tuple_inj hy hq]; exact hx⟩, st', fun b hb => (hf b hb).1⟩⟩
  done := by
    intro X hP hw hK hc i pins s σ H E I hf st hg
    subst hP hw hK
    obtain ⟨xs, hq, hx⟩ := hg
    obtain ⟨its, rv, p, hz⟩ := I.tuple hq
    obtain ⟨f0, f1, f2, f3, f4, f5⟩ := hf it (by simp)
    have hl := rv.length
    exact wpAny_pyNext_tuple_end (I.ok.hd hc) st (show s.heap.IsTuple a its.toArray from p) (by simp; omega) fun h' eb => ⟨rfl, I.turned (t' := s.toks) (fun b o hb e => eb b o hb e) f0 f1 f3 f4 f5⟩
  self := fun _ _ _ _ _ st h => wpAny_pyIter_tupleiter st h
theorem turn_range {P : Program} {w : World} {K : PySem.W.Frag} {tg : Expr} (it : Addr) (lo : Int) (n : Nat) : Turn P w K tg (Itr lo n) [it] it (fun i h => IsRangeIter h it (lo + (i : Nat) * 1) ((n : Int) - (i : Nat)) 1) where
  mem := by simp
  obj := fun i h st b hb => by
    have e : b = it := by simpa using hb
    subst e
    exact ⟨_, st, fun v z => by
      have z' : Data.fields _ = Data.cell v := z
      cases z'⟩
  keep := fun i h h' st k => k it (by simp) _ st
  item := by
    intro X hP hw hK hc i pins s σ H E I hf st hg
    subst hP hw hK
    obtain ⟨f0, f1, f2, f3, f4, f5⟩ := hf it (by simp)
    have W := Walks.range (prog := X.prog) (w := X.w) (I.ok.hd hc) it lo 1 n
    refine W.item i s _ _ hg st fun v h' tk hv st' kk => ?_
    obtain ⟨t, rfl⟩ := hv
    have I1 : Inv X pins σ H { s with heap := h', toks := tk } := I.turned (fun b o hb e => kk b o (by simpa using hb) e) f0 f1 f3 f4 f5
    refine ⟨_, rfl, go_of (s := { s with heap := h', toks := tk }) (n := "range_iterator") st' rfl rfl (by decide) ⟨.int (lo + i), H, I1, ⟨t, ?_⟩, ⟨rfl, rfl⟩, st', fun b hb => (hf b hb).1⟩⟩
    rw [Int.mul_one]
  done := by
    intro X hP hw hK hc i pins s σ H E I hf st hg
    subst hP hw hK
    obtain ⟨f0, f1, f2, f3, f4, f5⟩ := hf it (by simp)
    exact wpAny_pyNext_range_end (I.ok.hd hc) st (by have : n ≤ i := hg; omega) fun h' eb => ⟨rfl, I.turned (t' := s.toks) (fun b o hb e => eb b o hb e) f0 f1 f3 f4 f5⟩
  self := fun _ _ _ _ _ st h => wpAny_pyIter_rangeiter st h
end L2
namespace L2
open PySem PySem.Spec PyProof.Rows
section
variable {X : Cx} {tg : Expr}
def iList (K : PySem.W.Frag) (tl : TE) : TI := fun σ H R => tl σ H fun x H1 => ∃ a, x = .ref a ∧ (∃ xs, SqL K H1 a xs) ∧ R (Itl K a) H1
def iTup (K : PySem.W.Frag) (tl : TE) : TI := fun σ H R => tl σ H fun x H1 => ∃ a, x = .ref a ∧ (∃ xs, SqT K H1 a xs) ∧ R (Itt K a) H1
theorem pi_list {l : Expr} {tl : TE} (hl : PE X l tl) : PI X tg l (iList X.K tl) := by
  intro pins s σ H R I h
  refine thn (hl pins s σ H _ I h) fun v s1 ⟨x, H1, I1, r1, q1⟩ => ?_
  obtain ⟨a, e, ⟨xs, hq⟩, q⟩ := q1
  subst e
  cases r1
  obtain ⟨its, rv, p, hz⟩ := I1.list hq
  refine wpAny_pyIter_list p.isList ?_
  refine ⟨s1.heap.objs.size, [s1.heap.objs.size], _, _, H1, rfl, I1.kept (t' := s1.toks) fun b o e => Heap.get?_push_of_some _ e, turn_list a _, ⟨_, Heap.get?_push_size _ rfl, rfl, rfl⟩, fun b hb => ?_, q⟩
  have e : b = s1.heap.objs.size := by simpa using hb
  subst e
  exact I1.fpOk (Nat.le_refl _) (I1.hok.fresh (Nat.le_refl _))
theorem pi_tup {l : Expr} {tl : TE} (hl : PE X l tl) : PI X tg l (iTup X.K tl) := by
  intro pins s σ H R I h
  refine thn (hl pins s σ H _ I h) fun v s1 ⟨x, H1, I1, r1, q1⟩ => ?_
  obtain ⟨a, e, ⟨xs, hq⟩, q⟩ := q1
  subst e
  cases r1
  obtain ⟨its, rv, p, hz⟩ := I1.tuple hq
  refine wpAny_pyIter_tuple (show s1.heap.IsTuple a its.toArray from p) ?_
  refine ⟨s1.heap.objs.size, [s1.heap.objs.size], _, _, H1, rfl, I1.kept (t' := s1.toks) fun b o e => Heap.get?_push_of_some _ e, turn_tuple a _, ⟨_, Heap.get?_push_size _ rfl, rfl, rfl⟩, fun b hb => ?_, q⟩
  have e : b = s1.heap.objs.size := by simpa using hb
  subst e
  exact I1.fpOk (Nat.le_refl _) (I1.hok.fresh (Nat.le_refl _))
theorem range_it {pins : List (Addr × Obj)} {σ : St} {H : Hp} {s : Shared} {R : It → Hp → Prop} {E : Value → Shared → Prop} {lo hi : Int} {t u v : Tok} {tk : Nat} (I : Inv X pins σ H s) (h1 : -(2 ^ 62) ≤ lo) (h2 : lo < 2 ^ 62) (h3 : -(2 ^ 62) ≤ hi) (h4 : hi < 2 ^ 62)
    (q : R (Itr lo (hi - lo).toNat) H) : wpAny (model X.prog X.w) X.A (pyIter (.ref s.heap.objs.size)) (PIE X pins σ tg R) E { s with heap := s.heap.push { cls := .type "range", data := .fields #[.int lo t, .int hi u, .int 1 v] }, toks := tk } := by
  refine wpAny_pyIter_range (IsRange.new ..) (small_one h1 h2 h3 h4) ?_
  have I1 : Inv X pins σ H { s with heap := s.heap.push { cls := .type "range", data := .fields #[.int lo t, .int hi u, .int 1 v] }, toks := tk } := I.kept fun b o e => Heap.get?_push_of_some _ e
  refine ⟨(s.heap.push { cls := .type "range", data := .fields #[.int lo t, .int hi u, .int 1 v] }).objs.size, [(s.heap.push { cls := .type "range", data := .fields #[.int lo t, .int hi u, .int 1 v] }).objs.size], _, _, H, rfl,
    I1.kept (t' := tk) fun b o e => Heap.get?_push_of_some _ e, turn_range _ lo (hi - lo).toNat, ?_, fun b hb => ?_, q⟩
  · have e1 : lo + ((0 : Nat) : Int) * 1 = lo := by simp
    have e2 : (((hi - lo).toNat : Nat) : Int) - ((0 : Nat) : Int) = Builtin.Range.rangeSize lo hi 1 := by rw [rangeSize_one]; split <;> omega
    show IsRangeIter _ _ (lo + ((0 : Nat) : Int) * 1) ((((hi - lo).toNat : Nat) : Int) - ((0 : Nat) : Int)) 1
    rw [e1, e2]
    exact Heap.get?_push_size _ rfl
  · have e : b = (s.heap.push { cls := .type "range", data := .fields #[.int lo t, .int hi u, .int 1 v] }).objs.size := by simpa using hb
    subst e
    exact I1.fpOk (Nat.le_refl _) (I1.hok.fresh (Nat.le_refl _))
def iRng1 (ta : TA) : TI := fun σ H R => ta σ H fun vs H1 => ∃ j : Int, vs = [.int j] ∧ -(2 ^ 62) ≤ j ∧ j < 2 ^ 62 ∧ R (Itr 0 j.toNat) H1
def iRng2 (ta : TA) : TI := fun σ H R => ta σ H fun vs H1 => ∃ i j : Int, vs = [.int i, .int j] ∧ (-(2 ^ 62) ≤ i ∧ i < 2 ^ 62 ∧ -(2 ^ 62) ≤ j ∧ j < 2 ^ 62) ∧ R (Itr i (j - i).toNat) H1
theorem pi_range1 {a : Expr} {ta : TA} {p pos : Pos} (hg : Gl X "range") (hm : X.mg "range" = none) (ha : PA X [a] ta) (hs : starEach [a] X.env = [(false, eval a X.env)] := by rfl) : PI X tg (.Call (.Name "range" p) [a] [] pos) (iRng1 ta) := by
  intro pins s σ H R I h
  refine Call_ (ld_blt I hg hm boot_range (PyProof.Rows.callWith_type1 (thn (ha pos pins s σ H _ I h) fun us s1 ⟨vs, H1, I1, r1, q1⟩ => ?_) hs rfl))
  obtain ⟨j, e, q1, q2, q⟩ := q1
  subst e
  cases r1 with
  | cons r rr =>
    cases rr
    obtain ⟨t, rfl⟩ := r
    exact call_range_1 (range_it I1 (by omega) (by omega) q1 q2 (by simpa using q))
theorem pi_range2 {a b : Expr} {ta : TA} {p pos : Pos} (hg : Gl X "range") (hm : X.mg "range" = none) (ha : PA X [a, b] ta) (hs : starEach [a, b] X.env = [(false, eval a X.env), (false, eval b X.env)] := by rfl) (hs2 : starEach [b] X.env = [(false, eval b X.env)] := by rfl) :
    PI X tg (.Call (.Name "range" p) [a, b] [] pos) (iRng2 ta) := by
  intro pins s σ H R I h
  refine Call_ (ld_blt I hg hm boot_range (PyProof.Rows.callWith_type1 (thn (ha pos pins s σ H _ I h) fun us s1 ⟨vs, H1, I1, r1, q1⟩ => ?_) (by rw [hs, hs2]) (by rw [hs2]; rfl)))
  obtain ⟨i, j, e, ⟨q1, q2, q3, q4⟩, q⟩ := q1
  subst e
  cases r1 with
  | cons r rr =>
    cases rr with
    | cons r' rr =>
      cases rr
      obtain ⟨t, rfl⟩ := r
      obtain ⟨t', rfl⟩ := r'
      exact call_range_2 (range_it I1 q1 q2 q3 q4 q)
def tFor (wi : TI) (g : TG) (tb : TS) : TS := fun D σ H => wi σ H fun J H1 => ∃ W : Nat → Nat → St → Hp → Prop, (∃ m, W 0 m σ H1) ∧ ∀ i m σ H, W i m σ H →
  (J.stop i H ∧ D.nx σ H) ∨ (J.go i H ∧ ∃ N : St → Hp → Prop, (∀ σ' H', N σ' H' → ∃ m', m' < m ∧ W (i + 1) m' σ' H') ∧ ∀ x H', J.yld i H x H' → g x σ H' fun σ2 H2 => tb { D with nx := N, ct := N, bk := D.nx } σ2 H2)
def pinsAt (fp : List Addr) (h : Heap) : List (Addr × Obj) := fp.filterMap fun b => (h.get? b).map fun o => (b, o)
theorem mem_pinsAt {fp : List Addr} {h : Heap} {b : Addr} {o : Obj} (hb : b ∈ fp) (e : h.get? b = some o) : (b, o) ∈ pinsAt fp h := List.mem_filterMap.mpr ⟨b, hb, by rw [e]; rfl⟩
theorem of_pinsAt {fp : List Addr} {h : Heap} {p : Addr × Obj} (hp : p ∈ pinsAt fp h) : p.1 ∈ fp ∧ h.get? p.1 = some p.2 := by
  obtain ⟨b, hb, e⟩ := List.mem_filterMap.mp hp
  cases q : h.get? b with
  | none => rw [q] at e; cases e
  | some o =>
    rw [q] at e
    have e' : (b, o) = p := Option.some.inj e
    subst e'
    exact ⟨hb, q⟩
theorem Inv.pinned {pins : List (Addr × Obj)} {σ : St} {H : Hp} {s : Shared} {fp : List Addr} (I : Inv X pins σ H s) (hf : ∀ b ∈ fp, FpOk X pins H b) (ho : ∀ b ∈ fp, ∃ o, s.heap.get? b = some o ∧ ∀ v, o.data ≠ .cell v) : Inv X (pins ++ pinsAt fp s.heap) σ H s :=
  I.pins_of fun p hp => (List.mem_append.mp hp).elim (fun z => I.pin p (List.mem_append_right _ z)) fun z => by
    obtain ⟨hb, e⟩ := of_pinsAt z
    obtain ⟨f0, f1, f2, _⟩ := hf p.1 hb
    obtain ⟨o, e', d⟩ := ho p.1 hb
    rw [e] at e'; cases e'
    exact ⟨e, f0, f1, f2, d⟩
theorem Inv.unpinned {pins pl : List (Addr × Obj)} {σ : St} {H : Hp} {s : Shared} (I : Inv X (pins ++ pl) σ H s) : Inv X pins σ H s := I.pins_of fun p hp => I.pin p (List.mem_append_right _ (List.mem_append_left _ hp))
theorem ps_for {iter : Expr} {body : List Stmt} {wi : TI} {g : TG} {tb : TS} {pos : Pos} (hp : PassesOwn (model X.prog X.w) X.A X.env X.xe) (hc : X.calm = true) (hi : PI X tg iter wi) (hg : PG X tg g) (hb : PSs X body tb)
    (hs : ∀ x, foldedSetIterable iter X.env x = pure x := by intro _; rfl) : PS X (.For tg iter body [] pos) (tFor wi g tb) := by
  intro pins s σ H D I h
  refine wpAny_For (thn (hi pins s σ H _ I h) fun v s1 h1 => thn h1 fun itv s2 h2 => ?_) hs
  obtain ⟨it, fp, tn, J, H2, e, I2, T, st2, f2, W, ⟨m0, w0⟩, turn⟩ := h2
  subst e
  -- what stays true of the iterator's objects through the loop
  have stat : ∀ {H' : Hp}, (∀ b ∈ fp, H' b = none) → ∀ b ∈ fp, FpOk X pins H' b := fun hn b hb => ⟨hn b hb, (f2 b hb).2⟩
  refine codeAny_forLoop_any (fun n s' => ∃ i σ' H', Inv X pins σ' H' s' ∧ tn i s'.heap ∧ (∀ b ∈ fp, H' b = none) ∧ W i n σ' H') ?_ m0 ⟨0, σ, H2, I2, st2, fun b hb => (f2 b hb).1, w0⟩
  rintro n s3 ⟨i, σ3, H3, I3, st3, fr3, w3⟩
  rcases turn i n σ3 H3 w3 with ⟨stop, qn⟩ | ⟨go, N, hN, step⟩
  · refine wpAny_passesOwn hp (thn (T.done X rfl rfl rfl hc i pins s3 σ3 H3 X.xe I3 (stat fr3) st3 stop) fun r s4 ⟨hr, I4⟩ => ?_)
    subst hr
    exact wpAny_execs_nil ⟨σ3, H3, I4, qn⟩
  · refine wpAny_passesOwn hp (thn (T.item X rfl rfl rfl hc i pins s3 σ3 H3 X.xe I3 (stat fr3) st3 go) fun r s4 ⟨u, hr, h4⟩ => ?_)
    subst hr
    refine wpAny_passesOwn hp (thn h4 fun _ s5 ⟨x, H5, I5, r5, y5, st5, fr5⟩ => ?_)
    have I5' := I5.pinned (stat fr5) (T.obj _ _ st5)
    refine wpAny_passesOwn hp (thn (hg _ s5 σ3 H5 x u _ I5' r5 (step x H5 y5)) fun _ s6 ⟨σ6, H6, I6, q6⟩ => ?_)
    refine wpAny_passesOwn hp (thn (hb _ s6 σ6 H6 _ I6 q6) fun f s7 q7 => ?_)
    have again : ∀ {σ7 : St} {H7 : Hp}, Inv X (pins ++ pinsAt fp s5.heap) σ7 H7 s7 → N σ7 H7 → ∃ m, m < n ∧ ∃ i σ' H', Inv X pins σ' H' s7 ∧ tn i s7.heap ∧ (∀ b ∈ fp, H' b = none) ∧ W i m σ' H' := fun {σ7 H7} I7 n7 => by
      obtain ⟨m', hm, w7⟩ := hN σ7 H7 n7
      refine ⟨m', hm, i + 1, σ7, H7, I7.unpinned, T.keep _ _ _ st5 fun b hb o e => (I7.pin (b, o) (List.mem_append_right _ (List.mem_append_right _ (mem_pinsAt hb e)))).1, fun b hb => ?_, w7⟩
      obtain ⟨o, e, d⟩ := T.obj _ _ st5 b hb
      exact (I7.pin (b, o) (List.mem_append_right _ (List.mem_append_right _ (mem_pinsAt hb e)))).2.1
    cases f with
    | next => obtain ⟨σ7, H7, I7, n7⟩ := q7; exact again I7 n7
    | cont => obtain ⟨σ7, H7, I7, n7⟩ := q7; exact again I7 n7
    | brk => obtain ⟨σ7, H7, I7, q7⟩ := q7; exact ⟨σ7, H7, I7.unpinned, q7⟩
    | ret v => obtain ⟨x7, σ7, H7, I7, r7, q7⟩ := q7; exact ⟨x7, σ7, H7, I7.unpinned, r7, q7⟩
end
theorem for_list {K : PySem.W.Frag} {a : Addr} {xs : List V} {g : TG} {tb : TS} {D : Ends} {σ : St} {H : Hp} (Pv : Nat → St → Hp → Prop) (h0 : Pv 0 σ H) (hl : ∀ i σ H, i ≤ xs.length → Pv i σ H → SqL K H a xs)
    (hs : ∀ i x σ H, xs[i]? = some x → Pv i σ H → g x σ H fun σ2 H2 => tb { D with nx := Pv (i + 1), ct := Pv (i + 1), bk := D.nx } σ2 H2) (hd : ∀ σ H, Pv xs.length σ H → D.nx σ H) :
    ∃ W : Nat → Nat → St → Hp → Prop, (∃ m, W 0 m σ H) ∧ ∀ i m σ H, W i m σ H →
      ((Itl K a).stop i H ∧ D.nx σ H) ∨ ((Itl K a).go i H ∧ ∃ N : St → Hp → Prop, (∀ σ' H', N σ' H' → ∃ m', m' < m ∧ W (i + 1) m' σ' H') ∧ ∀ x H', (Itl K a).yld i H x H' → g x σ H' fun σ2 H2 => tb { D with nx := N, ct := N, bk := D.nx } σ2 H2) := by
  refine ⟨fun i m σ H => m = xs.length - i ∧ i ≤ xs.length ∧ Pv i σ H, ⟨xs.length, by simp, Nat.zero_le _, h0⟩, ?_⟩
  rintro i m σ H ⟨rfl, hi, p⟩
  have q := hl i σ H hi p
  by_cases hlt : i < xs.length
  · refine .inr ⟨⟨xs, xs[i], q, by simp [hlt]⟩, Pv (i + 1), fun σ' H' p' => ⟨xs.length - (i + 1), by omega, rfl, hlt, p'⟩, fun x H' y => ?_⟩
    obtain ⟨e, y⟩ := y
    subst e
    exact hs i x σ _ (y xs q) p
  · have e : i = xs.length := by omega
    subst e
    exact .inl ⟨⟨xs, q, Nat.le_refl _⟩, hd σ H p⟩
theorem for_range {lo : Int} {n : Nat} {g : TG} {tb : TS} {D : Ends} {σ : St} {H : Hp} (Pv : Nat → St → Hp → Prop) (h0 : Pv 0 σ H)
    (hs : ∀ i σ H, i < n → Pv i σ H → g (.int (lo + i)) σ H fun σ2 H2 => tb { D with nx := Pv (i + 1), ct := Pv (i + 1), bk := D.nx } σ2 H2) (hd : ∀ σ H, Pv n σ H → D.nx σ H) :
    ∃ W : Nat → Nat → St → Hp → Prop, (∃ m, W 0 m σ H) ∧ ∀ i m σ H, W i m σ H →
      ((Itr lo n).stop i H ∧ D.nx σ H) ∨ ((Itr lo n).go i H ∧ ∃ N : St → Hp → Prop, (∀ σ' H', N σ' H' → ∃ m', m' < m ∧ W (i + 1) m' σ' H') ∧ ∀ x H', (Itr lo n).yld i H x H' → g x σ H' fun σ2 H2 => tb { D with nx := N, ct := N, bk := D.nx } σ2 H2) := by
  refine ⟨fun i m σ H => m = n - i ∧ i ≤ n ∧ Pv i σ H, ⟨n, by simp, Nat.zero_le _, h0⟩, ?_⟩
  rintro i m σ H ⟨rfl, hi, p⟩
  by_cases hlt : i < n
  · refine .inr ⟨hlt, Pv (i + 1), fun σ' H' p' => ⟨n - (i + 1), by omega, rfl, hlt, p'⟩, fun x H' y => ?_⟩
    obtain ⟨e, y⟩ := y
    subst e y
    exact hs i σ _ hlt p
  · have e : i = n := by omega
    subst e
    exact .inl ⟨Nat.le_refl _, hd σ H p⟩
end L2
namespace L2
open PySem PySem.Spec PyProof.Rows
abbrev R2 := V → V → Hp → VK → Prop
def OpR (X : Cx) (f : Value → Value → Sem Value) (r : R2) : Prop :=
  ∀ (pins : List (Addr × Obj)) (s : Shared) (σ : St) (H : Hp) (x y : V) (v u : Value) (Q : VK), Inv X pins σ H s → RelV x v → RelV y u → r x y H Q →
    wpAny (model X.prog X.w) X.A (f v u) (EP X pins σ Q) X.xe s
def UnR (X : Cx) (f : Value → Sem Value) (r : V → Hp → VK → Prop) : Prop :=
  ∀ (pins : List (Addr × Obj)) (s : Shared) (σ : St) (H : Hp) (x : V) (v : Value) (Q : VK), Inv X pins σ H s → RelV x v → r x H Q →
    wpAny (model X.prog X.w) X.A (f v) (EP X pins σ Q) X.xe s
def CallR (X : Cx) (f : Value) (r : List V → Hp → VK → Prop) : Prop :=
  ∀ (pins : List (Addr × Obj)) (s : Shared) (σ : St) (H : Hp) (xs : List V) (us : List Value) (Q : VK), Inv X pins σ H s → Vals xs us → r xs H Q →
    wpAny (model X.prog X.w) X.A (call f us) (EP X pins σ Q) X.xe s
def tOp (r : R2) (ta tb : TE) : TE := fun σ H Q => ta σ H fun x H1 => tb σ H1 fun y H2 => r x y H2 Q
def tUn (r : V → Hp → VK → Prop) (ta : TE) : TE := fun σ H Q => ta σ H fun x H1 => r x H1 Q
def rI (C : Int → Int → Prop) (g : Int → Int → V) : R2 := fun x y H Q => ∃ i j, x = .int i ∧ y = .int j ∧ C i j ∧ Q (g i j) H
def rI0 (g : Int → Int → V) : R2 := fun x y H Q => ∃ i j, x = .int i ∧ y = .int j ∧ Q (g i j) H
def rU (g : Int → V) : V → Hp → VK → Prop := fun x H Q => ∃ i, x = .int i ∧ Q (g i) H
section
variable {X : Cx} {a b c : Expr} {ta tb tc : TE} {pos : Pos}
theorem binT (ha : PE X a ta) (hb : PE X b tb) {pins : List (Addr × Obj)} {s : Shared} {σ : St} {H : Hp} {R : V → V → Hp → Prop} (I : Inv X pins σ H s)
    (h : ta σ H fun x H1 => tb σ H1 fun y H2 => R x y H2) {Q : Value → Shared → Prop} {f : Value → Value → Sem Value}
    (hf : ∀ v u s2 x y H2, Inv X pins σ H2 s2 → RelV x v → RelV y u → R x y H2 → wpAny (model X.prog X.w) X.A (f v u) Q X.xe s2) :
    wpAny (model X.prog X.w) X.A (eval a X.env) (fun v s₁ => wpAny (model X.prog X.w) X.A (eval b X.env) (fun u s₂ => wpAny (model X.prog X.w) X.A (f v u) Q X.xe s₂) X.xe s₁) X.xe s := by
  refine thn (ha pins s σ H _ I h) fun v s1 ⟨x, H1, I1, r1, q1⟩ => ?_
  refine thn (hb pins s1 σ H1 _ I1 q1) fun u s2 ⟨y, H2, I2, r2, q2⟩ => ?_
  exact hf v u s2 x y H2 I2 r1 r2 q2
theorem pe_op {op : Operator} {r : R2} (ho : OpR X (binaryOp op) r) (ha : PE X a ta) (hb : PE X b tb) : PE X (.BinOp a op b pos) (tOp r ta tb) := by
  intro pins s σ H Q I h
  exact wpAny_BinOp (binT ha hb I h fun v u s2 x y H2 I2 rx ry q => ho pins s2 σ H2 x y v u Q I2 rx ry q)
theorem pe_un {op : UnaryOp} {r : V → Hp → VK → Prop} (ho : UnR X (unaryOp op) r) (ha : PE X a ta) : PE X (.UnaryOp op a pos) (tUn r ta) := by
  intro pins s σ H Q I h
  exact UnaryOp_ (thn (ha pins s σ H _ I h) fun v s1 ⟨x, H1, I1, r1, q1⟩ => ho pins s1 σ H1 x v Q I1 r1 q1)
theorem opI {f : Value → Value → Sem Value} {C : Int → Int → Prop} {g : Int → Int → Int}
    (rule : ∀ (i j : Int) (t u : Tok) (s : Shared) (Q : Value → Shared → Prop) (E : Value → Shared → Prop), C i j → Q (.int (g i j) s.toks) { s with toks := s.toks + 1 } → wpAny (model X.prog X.w) X.A (f (.int i t) (.int j u)) Q E s) :
    OpR X f (rI C fun i j => .int (g i j)) := by
  intro pins s σ H x y v u Q I rx ry h
  obtain ⟨i, j, rfl, rfl, hc, q⟩ := h
  obtain ⟨t, rfl⟩ := rx
  obtain ⟨t', rfl⟩ := ry
  exact rule i j t t' s _ _ hc ⟨.int (g i j), H, I.tok _, ⟨_, rfl⟩, q⟩
theorem opI0 {f : Value → Value → Sem Value} {g : Int → Int → Int}
    (rule : ∀ (i j : Int) (t u : Tok) (s : Shared) (Q : Value → Shared → Prop) (E : Value → Shared → Prop), Q (.int (g i j) s.toks) { s with toks := s.toks + 1 } → wpAny (model X.prog X.w) X.A (f (.int i t) (.int j u)) Q E s) :
    OpR X f (rI0 fun i j => .int (g i j)) := by
  intro pins s σ H x y v u Q I rx ry h
  obtain ⟨i, j, rfl, rfl, q⟩ := h
  obtain ⟨t, rfl⟩ := rx
  obtain ⟨t', rfl⟩ := ry
  exact rule i j t t' s _ _ ⟨.int (g i j), H, I.tok _, ⟨_, rfl⟩, q⟩
theorem opB0 {f : Value → Value → Sem Value} {g : Int → Int → Bool}
    (rule : ∀ (i j : Int) (t u : Tok) (s : Shared) (Q : Value → Shared → Prop) (E : Value → Shared → Prop), Q (.bool (g i j)) s → wpAny (model X.prog X.w) X.A (f (.int i t) (.int j u)) Q E s) :
    OpR X f (rI0 fun i j => .bl (g i j)) := by
  intro pins s σ H x y v u Q I rx ry h
  obtain ⟨i, j, rfl, rfl, q⟩ := h
  obtain ⟨t, rfl⟩ := rx
  obtain ⟨t', rfl⟩ := ry
  exact rule i j t t' s _ _ ⟨.bl (g i j), H, I, rfl, q⟩
def CDiv (i j : Int) : Prop := 0 < j ∧ j < 1073741824
def CPow (i j : Int) : Prop := 0 ≤ j ∧ j ≤ 1000000 ∧ i.natAbs < 2 ^ 64
def CMul (i j : Int) : Prop := (-(2 ^ 64) < i ∧ i < 2 ^ 64) ∨ (-(2 ^ 64) < j ∧ j < 2 ^ 64)
theorem CMul.ok {i j : Int} (h : CMul i j) : IntMulOk i j := by
  rcases h with ⟨h1, h2⟩ | ⟨h1, h2⟩
  · exact .of_left (intBits_le_64 h1 h2)
  · exact .of_right (intBits_le_64 h1 h2)
theorem op_add : OpR X (binaryOp .Add) (rI0 fun i j => .int (i + j)) := opI0 fun _ _ _ _ _ _ _ q => add_int q
theorem op_sub : OpR X (binaryOp .Sub) (rI0 fun i j => .int (i - j)) := opI0 fun _ _ _ _ _ _ _ q => sub_int q
theorem op_mul : OpR X (binaryOp .Mult) (rI CMul fun i j => .int (i * j)) := opI fun _ _ _ _ _ _ _ hc q => mul_int q hc.ok
theorem op_fdiv : OpR X (binaryOp .FloorDiv) (rI CDiv fun i j => .int (i / j)) := opI fun i j _ _ _ _ _ hc q => by
  have h1 : (0 : Int) < j := hc.1
  have h2 : j < 1073741824 := hc.2
  exact floordiv_int (by omega) (by rw [Int.fdiv_eq_ediv_of_nonneg i (by omega)]; exact q) (.inl (PyProof.noPylong_small (by omega)))
theorem op_mod : OpR X (binaryOp .Mod) (rI (fun _ j => 0 < j) fun i j => .int (i % j)) := opI fun i j _ _ _ _ _ hc q => by
  have h1 : (0 : Int) < j := hc
  exact mod_int' (by omega) (by rw [Int.fmod_eq_emod_of_nonneg i (by omega)]; exact q)
theorem op_pow : OpR X (binaryOp .Pow) (rI CPow fun i j => .int (i ^ j.toNat)) := opI fun _ _ _ _ _ _ _ hc q => pow_int_small hc.1 hc.2.1 hc.2.2 q
theorem unI {f : Value → Sem Value} {g : Int → Int}
    (rule : ∀ (i : Int) (t : Tok) (s : Shared) (Q : Value → Shared → Prop) (E : Value → Shared → Prop), Q (.int (g i) s.toks) { s with toks := s.toks + 1 } → wpAny (model X.prog X.w) X.A (f (.int i t)) Q E s) :
    UnR X f (rU fun i => .int (g i)) := by
  intro pins s σ H x v Q I rx h
  obtain ⟨i, rfl, q⟩ := h
  obtain ⟨t, rfl⟩ := rx
  exact rule i t s _ _ ⟨.int (g i), H, I.tok _, ⟨_, rfl⟩, q⟩
theorem un_neg : UnR X (unaryOp .USub) (rU fun i => .int (-i)) := unI fun _ _ _ _ _ q => neg_int q
end
def scal : V → V → Bool
  | .non, .non => true | .non, .int _ => true | .int _, .non => true | .non, .bl _ => true | .bl _, .non => true | .non, .str _ => true | .str _, .non => true
  | .int _, .int _ => true | .bl _, .bl _ => true | .str _, .str _ => true | .byt _, .byt _ => true
  | .int _, .str _ => true | .str _, .int _ => true | .bl _, .str _ => true | .str _, .bl _ => true
  | _, _ => false
def rEq : R2 := fun x y H Q => scal x y = true ∧ Q (.bl (decide (x = y))) H
def rNe : R2 := fun x y H Q => scal x y = true ∧ Q (.bl (!decide (x = y))) H
theorem dec_int {i j : Int} : decide (V.int i = V.int j) = (i == j) := by
  rw [Bool.eq_iff_iff]
  simp
theorem dec_bl {i j : Bool} : decide (V.bl i = V.bl j) = (i == j) := by
  rw [Bool.eq_iff_iff]
  simp
theorem dec_str {i j : Str} : decide (V.str i = V.str j) = (i == j) := by
  rw [Bool.eq_iff_iff]
  simp
theorem dec_byt {i j : Array UInt8} : decide (V.byt i = V.byt j) = (i.toList == j.toList) := by
  rw [Bool.eq_iff_iff]
  cases i
  cases j
  simp
section
variable {X : Cx} {a b c : Expr} {ta tb tc : TE} {pos : Pos}
theorem fin_bl {pins : List (Addr × Obj)} {σ : St} {H : Hp} {s : Shared} {Q : VK} {k k' : Bool} (I : Inv X pins σ H s) (q : Q (.bl k) H) (e : k = k') : EP X pins σ Q (.bool k') s := by
  subst e
  exact ⟨.bl k, H, I, rfl, q⟩
theorem op_eq : OpR X (compareOp .Eq) rEq := by
  intro pins s σ H x y v u Q I rx ry h
  obtain ⟨hs, q⟩ := h
  cases x with
  | non =>
    cases rx
    cases y with
    | non => cases ry; exact PySem.EqNone.eq_none_none (fin_bl I q (by simp))
    | bl j => cases ry; exact PySem.EqNone.eq_none_bool (fin_bl I q (by simp))
    | int j => obtain ⟨t', rfl⟩ := ry; exact PySem.EqNone.eq_none_int (fin_bl I q (by simp))
    | str j => obtain ⟨t', rfl⟩ := ry; exact PySem.EqNone.eq_none_str (fin_bl I q (by simp))
    | _ => exact absurd (show false = true from hs) Bool.false_ne_true
  | bl i =>
    cases rx
    cases y with
    | non => cases ry; exact PySem.EqNone.eq_bool_none (fin_bl I q (by simp))
    | bl j => cases ry; exact eq_bool (fin_bl I q dec_bl)
    | str j => obtain ⟨t', rfl⟩ := ry; exact PySem.EqMixed.eq_bool_str (fin_bl I q (by simp))
    | _ => exact absurd (show false = true from hs) Bool.false_ne_true
  | int i =>
    obtain ⟨t, rfl⟩ := rx
    cases y with
    | non => cases ry; exact PySem.EqNone.eq_int_none (fin_bl I q (by simp))
    | int j => obtain ⟨t', rfl⟩ := ry; exact eq_int (fin_bl I q dec_int)
    | str j => obtain ⟨t', rfl⟩ := ry; exact PySem.EqMixed.eq_int_str (fin_bl I q (by simp))
    | _ => exact absurd (show false = true from hs) Bool.false_ne_true
  | str i =>
    obtain ⟨t, rfl⟩ := rx
    cases y with
    | non => cases ry; exact PySem.EqNone.eq_str_none (fin_bl I q (by simp))
    | bl j => cases ry; exact PySem.EqMixed.eq_str_bool (fin_bl I q (by simp))
    | int j => obtain ⟨t', rfl⟩ := ry; exact PySem.EqMixed.eq_str_int (fin_bl I q (by simp))
    | str j => obtain ⟨t', rfl⟩ := ry; exact eq_str (fin_bl I q dec_str)
    | _ => exact absurd (show false = true from hs) Bool.false_ne_true
  | byt i =>
    obtain ⟨t, rfl⟩ := rx
    cases y with
    | byt j => obtain ⟨t', rfl⟩ := ry; exact PySem.W.eq_bytes (fin_bl I q dec_byt)
    | _ => exact absurd (show false = true from hs) Bool.false_ne_true
  | _ => cases y <;> exact absurd (show false = true from hs) Bool.false_ne_true
theorem op_ne : OpR X (compareOp .NotEq) rNe := by
  intro pins s σ H x y v u Q I rx ry h
  obtain ⟨hs, q⟩ := h
  cases x with
  | non =>
    cases rx
    cases y with
    | non => cases ry; exact PySem.EqNone.ne_none_none (fin_bl I q (by simp))
    | bl j => cases ry; exact PySem.EqNone.ne_none_bool (fin_bl I q (by simp))
    | int j => obtain ⟨t', rfl⟩ := ry; exact PySem.EqNone.ne_none_int (fin_bl I q (by simp))
    | str j => obtain ⟨t', rfl⟩ := ry; exact PySem.EqNone.ne_none_str (fin_bl I q (by simp))
    | _ => exact absurd (show false = true from hs) Bool.false_ne_true
  | bl i =>
    cases rx
    cases y with
    | non => cases ry; exact PySem.EqNone.ne_bool_none (fin_bl I q (by simp))
    | bl j => cases ry; exact ne_bool (fin_bl I q (congrArg not dec_bl))
    | str j => obtain ⟨t', rfl⟩ := ry; exact PySem.EqMixed.ne_bool_str (fin_bl I q (by simp))
    | _ => exact absurd (show false = true from hs) Bool.false_ne_true
  | int i =>
    obtain ⟨t, rfl⟩ := rx
    cases y with
    | non => cases ry; exact PySem.EqNone.ne_int_none (fin_bl I q (by simp))
    | int j => obtain ⟨t', rfl⟩ := ry; exact ne_int (fin_bl I q (congrArg not dec_int))
    | str j => obtain ⟨t', rfl⟩ := ry; exact PySem.EqMixed.ne_int_str (fin_bl I q (by simp))
    | _ => exact absurd (show false = true from hs) Bool.false_ne_true
  | str i =>
    obtain ⟨t, rfl⟩ := rx
    cases y with
    | non => cases ry; exact PySem.EqNone.ne_str_none (fin_bl I q (by simp))
    | bl j => cases ry; exact PySem.EqMixed.ne_str_bool (fin_bl I q (by simp))
    | int j => obtain ⟨t', rfl⟩ := ry; exact PySem.EqMixed.ne_str_int (fin_bl I q (by simp))
    | str j => obtain ⟨t', rfl⟩ := ry; exact ne_str (fin_bl I q (congrArg not dec_str))
    | _ => exact absurd (show false = true from hs) Bool.false_ne_true
  | byt i =>
    obtain ⟨t, rfl⟩ := rx
    cases y with
    | byt j => obtain ⟨t', rfl⟩ := ry; exact PySem.W.ne_bytes (fin_bl I q (congrArg not dec_byt))
    | _ => exact absurd (show false = true from hs) Bool.false_ne_true
  | _ => cases y <;> exact absurd (show false = true from hs) Bool.false_ne_true
theorem op_lt : OpR X (compareOp .Lt) (rI0 fun i j => .bl (decide (i < j))) := opB0 fun _ _ _ _ _ _ _ q => lt_int q
theorem op_gt : OpR X (compareOp .Gt) (rI0 fun i j => .bl (decide (j < i))) := opB0 fun _ _ _ _ _ _ _ q => gt_int q
theorem op_ge : OpR X (compareOp .GtE) (rI0 fun i j => .bl (decide (j ≤ i))) := opB0 fun _ _ _ _ _ _ _ q => ge_int q
theorem op_isN : OpR X (compareOp .Is) (fun x y H Q => y = .non ∧ Q (.bl (decide (x = .non))) H) := by
  intro pins s σ H x y v u Q I rx ry h
  obtain ⟨rfl, q⟩ := h
  cases ry
  refine is_none_gen (fin_bl I q ?_)
  cases x <;> first
    | (cases rx; rfl)
    | (obtain ⟨t, rfl⟩ := rx; rfl)
theorem op_notN : OpR X (compareOp .IsNot) (fun x y H Q => y = .non ∧ Q (.bl (!decide (x = .non))) H) := by
  intro pins s σ H x y v u Q I rx ry h
  obtain ⟨rfl, q⟩ := h
  cases ry
  refine isnot_none_gen (fin_bl I q ?_)
  cases x <;> first
    | (cases rx; rfl)
    | (obtain ⟨t, rfl⟩ := rx; rfl)
theorem nomark (b : Expr) {op : CmpOp} (h : op ≠ .In := by decide) (h2 : op ≠ .NotIn := by decide) : behindInMarks op b = false := by
  have e1 : (op == CmpOp.In) = false := by cases op <;> first | rfl | exact absurd rfl h
  have e2 : (op == CmpOp.NotIn) = false := by cases op <;> first | rfl | exact absurd rfl h2
  cases b <;> simp [behindInMarks, e1, e2]
theorem pe_cmpR {op : CmpOp} {r : R2} (ho : OpR X (compareOp op) r) (ha : PE X a ta) (hb : PE X b tb) (hm : behindInMarks op b = false) : PE X (.Compare a [op] [b] pos) (tOp r ta tb) := by
  intro pins s σ H Q I h
  exact wpAny_Compare1 (binT ha hb I h fun v u s2 x y H2 I2 rx ry q => ho pins s2 σ H2 x y v u Q I2 rx ry q) hm
def tTest (t : TE) : TT := fun σ H Q => t σ H fun x H' => ∃ k, x = .bl k ∧ Q k H'
theorem pt_cmpR {op : CmpOp} {r : R2} (ho : OpR X (compareOp op) r) (ha : PE X a ta) (hb : PE X b tb) (hm : behindInMarks op b = false) : PT X (.Compare a [op] [b] pos) (tTest (tOp r ta tb)) := by
  intro pins s σ H Q I h
  refine wpAny_isTrue_Compare1 (thn (ha pins s σ H _ I h) fun v s1 ⟨x, H1, I1, r1, q1⟩ => thn (hb pins s1 σ H1 _ I1 q1) fun u s2 ⟨y, H2, I2, r2, q2⟩ =>
    thn (ho pins s2 σ H2 x y v u _ I2 r1 r2 q2) fun c s3 ⟨z, H3, I3, r3, k, e, q3⟩ => ?_) hm
  subst e
  cases r3
  exact wpAny_truthy_bool ⟨H3, I3, q3⟩
theorem line63 : (sizeLine : Nat) < 2 ^ 63 := by rw [sizeLine_eq]; decide
theorem vals1 {x : V} {us : List Value} (r : Vals [x] us) : ∃ u, us = [u] ∧ RelV x u := by
  cases r with
  | cons r1 r2 => cases r2; exact ⟨_, rfl, r1⟩
theorem vals2 {x y : V} {us : List Value} (r : Vals [x, y] us) : ∃ u w', us = [u, w'] ∧ RelV x u ∧ RelV y w' := by
  cases r with
  | cons r1 r2 =>
    cases r2 with
    | cons r3 r4 => cases r4; exact ⟨_, _, rfl, r1, r3⟩
theorem call_min2 (hc : X.calm = true) : CallR X (.builtin "min") (fun xs H Q => ∃ i j, xs = [.int i, .int j] ∧ Q (.int (if j < i then j else i)) H) := by
  intro pins s σ H xs us Q I r h
  obtain ⟨i, j, rfl, q⟩ := h
  obtain ⟨u, w', rfl, ⟨t, rfl⟩, ⟨t', rfl⟩⟩ := vals2 r
  refine min_two_ints (I.ok.hd hc) fun h' tk k => ⟨_, H, I.kept k, ?_, q⟩
  by_cases hj : j < i
  · rw [if_pos hj, if_pos hj]; exact ⟨_, rfl⟩
  · rw [if_neg hj, if_neg hj]; exact ⟨_, rfl⟩
end
end L2
namespace L2
open PySem PySem.Spec PyProof.Rows
structure ObjM (h : Heap) (x dx C : Addr) (mA : Str → Option Value) : Prop where
  obj : h.get? x = some (PySem.W.instObj C dx)
  ns : h.Ns1 dx mA
  ne : dx ≠ x
theorem lookIn_ns {h : Heap} {dx : Addr} {mA : Str → Option Value} (n : h.Ns1 dx mA) : ∃ od, h.get? dx = some od ∧ ∀ name, PySem.W.lookIn name od = some (mA name) := by
  obtain ⟨o, es, ep, ho, hd, hk, _, hm⟩ := n
  refine ⟨o, ho, fun name => ?_⟩
  have e := hm name
  unfold nsFind findBy at e
  rw [← Array.find?_toList] at e
  unfold PySem.W.lookIn
  rw [hd]
  dsimp only
  split
  · rename_i y q
    rw [q] at e
    exact congrArg some e
  · rename_i q
    rw [q] at e
    have a : es.toList.any (·.refKey) = false := by
      rw [List.any_eq_false]
      intro y hy
      obtain ⟨z, t, hkey⟩ := hk y (Array.mem_toList_iff.mp hy)
      simp [DictEntry.refKey, hkey]
    have a' : ¬ es.toList.any (·.refKey) = true := by rw [a]; exact Bool.false_ne_true
    rw [if_neg a']
    exact congrArg some e
theorem ObjM.look {h : Heap} {x dx C : Addr} {mA : Str → Option Value} (I : ObjM h x dx C mA) : ∃ od, PySem.W.InstAt h x (PySem.W.instObj C dx) C (some od) ∧ ∀ name, PySem.W.lookIn name od = some (mA name) :=
  let ⟨od, ho, hl⟩ := lookIn_ns I.ns
  ⟨od, ⟨I.obj, rfl, rfl, ho⟩, hl⟩
section
variable {P : Program} {w : World} {H H' : Hp} {h h' : Heap} {a C dx : Addr} {fs fs' : List (Str × V)}
theorem ins_get (hok : HOk P w H h) (e : H a = some (.ins C dx fs)) : ∃ mA, ObjM h a dx C mA ∧ (∀ f, RelO (fs.lookup f) (mA f)) ∧ PySem.Within mA (fs.map (·.1)) ∧ fs.length ≤ 1000 ∧ H dx = some (.own a) := by
  obtain ⟨d, z, ne, ob, mA, n, r, q⟩ := (show ObjOk P w H h a (.ins C dx fs) from hok a _ e)
  exact ⟨mA, ⟨ob, n, ne⟩, r, q, z, d⟩
end
structure Cls (K : PySem.W.Frag) (C : Addr) : Prop where
  pg : PySem.W.plainGet K C Str.empty = true
  hd : PySem.W.hasDictIn K C = true
  po : PySem.W.plainOver K C = true
  sa : PySem.W.findIn K (.ref C) "__setattr__" = some (some (.builtin "object.__setattr__"))
theorem Cls.get {K : PySem.W.Frag} {C : Addr} (c : Cls K C) (f : Str) : PySem.W.plainGet K C f = true := c.pg
section
variable {X : Cx} {pins : List (Addr × Obj)} {σ : St} {H : Hp} {s : Shared} {a C dx : Addr} {fs : List (Str × V)} {f : Str} {v : V} {A : Around} {E : Value → Shared → Prop}
theorem Inv.made (I : Inv X pins σ H s) : Inv X pins σ (upd (upd H s.heap.objs.size (.own (s.heap.objs.size + 1))) (s.heap.objs.size + 1) (.ins C s.heap.objs.size []))
    { s with heap := (s.heap.push PySem.W.emptyDict).push (PySem.W.instObj C s.heap.objs.size) } := by
  have e1 : (s.heap.push PySem.W.emptyDict).get? s.heap.objs.size = some PySem.W.emptyDict := Heap.get?_push_size s.heap rfl
  have e2 : ((s.heap.push PySem.W.emptyDict).push (PySem.W.instObj C s.heap.objs.size)).get? (s.heap.objs.size + 1) = some (PySem.W.instObj C s.heap.objs.size) := by
    have := Heap.get?_push_size (s.heap.push PySem.W.emptyDict) (o := PySem.W.instObj C s.heap.objs.size) rfl
    rwa [Heap.size_push] at this
  have e3 : (s.heap.push PySem.W.emptyDict).Ns s.heap.objs.size (fun _ => none) := ⟨PySem.W.emptyDict, #[], _, e1, rfl, (fun e he => absurd he (by simp)), fun _ => rfl⟩
  have I1 := I.laid (a := s.heap.objs.size) (o := .own (s.heap.objs.size + 1)) (h' := s.heap.push PySem.W.emptyDict) (t' := s.toks) (fun b u q => Heap.get?_push_of_some _ q) (Nat.le_refl _) ⟨_, e1⟩
  refine I1.laid (a := s.heap.objs.size + 1) (o := .ins C s.heap.objs.size []) (t' := s.toks) (fun b u q => Heap.get?_push_of_some _ q) (Nat.le_of_eq (Heap.size_push _ _)) ?_
  have ne : s.heap.objs.size ≠ s.heap.objs.size + 1 := Nat.ne_of_lt (Nat.lt_succ_self _)
  refine ⟨by rw [upd_ne ne, upd_same], Nat.zero_le _, ne, e2, fun _ => none, (Heap.Ns1.of_empty e3).at fun o q => Heap.get?_push_of_some _ q, fun _ => True.intro, fun y hy => absurd rfl hy⟩
end
section
variable {X : Cx} {pins : List (Addr × Obj)} {σ : St} {H : Hp} {s : Shared} {A : Around} {E : Value → Shared → Prop} {Q : Value → Shared → Prop} {c : Value} {b : Bool}
inductive TyOf (K : PySem.W.Frag) (H : Hp) : V → Value → Prop where
  | non : TyOf K H .non (.type "NoneType")
  | bl (x : Bool) : TyOf K H (.bl x) (.type "bool")
  | int (i : Int) : TyOf K H (.int i) (.type "int")
  | str (x : Str) : TyOf K H (.str x) (.type "str")
  | flt (x : UInt64) : TyOf K H (.flt x) (.type "float")
  | lst {a : Addr} {xs : List V} (e : H a = some (.lst xs)) : TyOf K H (.ref a) (.type "list")
  | frz {a : Addr} {o : Obj} {xs : List V} (e : H a = some (.frz o (.lst xs))) : TyOf K H (.ref a) (.type "list")
  | tup {a : Addr} {xs : List V} (e : H a = some (.tup xs)) : TyOf K H (.ref a) (.type "tuple")
  | dK {a : Addr} {kvs : List (Key × V)} (e : H a = some (.dK kvs)) : TyOf K H (.ref a) (.type "dict")
  | dT {a : Addr} {kvs : List (List Key × V)} (e : H a = some (.dT kvs)) : TyOf K H (.ref a) (.type "dict")
  | ins {a C dx : Addr} {fs : List (Str × V)} (e : H a = some (.ins C dx fs)) (cl : Cls K C) (ha : PySem.W.findIn K (.ref C) "__class__" = some (some (.builtin "object.__class__")))
      (hn : PySem.W.specialIn K (.builtin "object.__class__") "__get__" = some (some (.builtin "getset_descriptor.__get__"))) (htk : PySem.W.takesIn K (.builtin "object.__class__") = some true)
      (hm : PySem.W.mroIn K C (.type "object") = some true) : TyOf K H (.ref a) (.ref C)
theorem isinst_ok {x : V} {u t : Value} (I : Inv X pins σ H s) (rx : RelV x u) (ty : TyOf X.K H x t) (e : PySem.W.kitOne X.K t c = some b) (h : ∀ tk, Q (.bool b) { s with toks := tk }) :
    wpAny (model X.prog X.w) A (call (.builtin "isinstance") [u, c]) Q E s := by
  cases ty with
  | non => cases (show u = Value.none from rx); exact PySem.W.kia_one PySem.W.kitx_none I.kIn True.intro e (fun z => nomatch z) h
  | bl y => cases (show u = Value.bool y from rx); exact PySem.W.kia_one PySem.W.kitx_bool I.kIn True.intro e (fun z => nomatch z) h
  | int i => obtain ⟨t, q⟩ := (show ∃ t, u = Value.int i t from rx); cases q; exact PySem.W.kia_one PySem.W.kitx_int I.kIn True.intro e (fun z => nomatch z) h
  | str y => obtain ⟨t, q⟩ := (show ∃ t, u = Value.str y t from rx); cases q; exact PySem.W.kia_one PySem.W.kitx_str I.kIn True.intro e (fun z => nomatch z) h
  | flt y => obtain ⟨t, q⟩ := (show ∃ t, u = Value.float y t from rx); cases q; exact PySem.W.kia_one PySem.W.kitx_float I.kIn True.intro e (fun z => nomatch z) h
  | @lst a xs ea =>
    cases (show u = Value.ref a from rx)
    obtain ⟨_, _, n, _, h1⟩ := (show ObjOk X.prog X.w H s.heap a (.lst xs) from I.hok a _ ea)
    exact PySem.W.kia_one PySem.W.kitx_list I.kIn ⟨_, h1, rfl⟩ e (fun z => nomatch z) h
  | @frz a ob xs ea =>
    cases (show u = Value.ref a from rx)
    obtain ⟨_, _, _, n, _, h1⟩ := (show ObjOk X.prog X.w H s.heap a (.frz ob (.lst xs)) from I.hok a _ ea)
    exact PySem.W.kia_one PySem.W.kitx_list I.kIn ⟨_, h1, rfl⟩ e (fun z => nomatch z) h
  | @tup a xs ea =>
    cases (show u = Value.ref a from rx)
    obtain ⟨_, _, _, p⟩ := (show ObjOk X.prog X.w H s.heap a (.tup xs) from I.hok a _ ea)
    obtain ⟨o, h1, h2, _⟩ := p
    exact PySem.W.kia_one PySem.W.kitx_tuple I.kIn ⟨o, h1, h2⟩ e (fun z => nomatch z) h
  | @dK a kvs ea =>
    cases (show u = Value.ref a from rx)
    obtain ⟨_, _, vs, _, p⟩ := (show ObjOk X.prog X.w H s.heap a (.dK kvs) from I.hok a _ ea)
    obtain ⟨o, es, ep, h1, h2, _⟩ := p
    exact PySem.W.kia_one PySem.W.kitx_dict I.kIn ⟨o, h1, h2.1⟩ e (fun z => nomatch z) h
  | @dT a kvs ea =>
    cases (show u = Value.ref a from rx)
    obtain ⟨_, _, xs, _, o, es, ep, h1, h2, _⟩ := (show ObjOk X.prog X.w H s.heap a (.dT kvs) from I.hok a _ ea)
    exact PySem.W.kia_one PySem.W.kitx_dict I.kIn ⟨o, h1, h2.1⟩ e (fun z => nomatch z) h
  | @ins a C dx fs ea cl ha hn htk hm =>
    cases (show u = Value.ref a from rx)
    obtain ⟨mA, O, _⟩ := ins_get I.hok ea
    obtain ⟨od, J, _⟩ := O.look
    exact PySem.W.kia_one (PySem.W.kitx_own (cl.get _) cl.hd ha hn htk hm) I.kIn J e (fun z => nomatch z) h
end
end L2
namespace L2
open PySem PySem.Spec PyProof.Rows
structure Room (k : Nat) (A : Around) : Prop where
  hd : A.handled = none
  dp : A.depth + 3 * k + 5 < recursionLimit
  un : A.units + 16 * k + 200 < cLine
  gd : A.guards = some []
theorem Room.mono {j k : Nat} {A : Around} (r : Room k A) (h : j ≤ k) : Room j A := ⟨r.hd, by have := r.dp; omega, by have := r.un; omega, r.gd⟩
theorem Room.deeper {k : Nat} {A : Around} (r : Room (k + 1) A) (env : Env) : Room k (A.deeper env) :=
  ⟨r.hd, by have := r.dp; show A.depth + 1 + 3 * k + 5 < _; omega, by have := r.un; show A.units + 3 + 16 * k + 200 < _; omega, r.gd⟩
theorem Room.in1 {k : Nat} {A : Around} (r : Room (k + 1) A) : Room k A.in1 :=
  ⟨r.hd, by have := r.dp; show A.depth + 3 * k + 5 < _; omega, by have := r.un; show A.units + 1 + 16 * k + 200 < _; omega, r.gd⟩
theorem Room.depth {k : Nat} {A : Around} (r : Room k A) : A.depth < recursionLimit := by have := r.dp; omega
theorem Room.units {k : Nat} {A : Around} (r : Room k A) : A.units + 64 < cLine := by have := r.un; omega
def tNil : TA := fun _ H Q => Q [] H
def tCons (ta : TE) (tr : TA) : TA := fun σ H Q => ta σ H fun x H1 => tr σ H1 fun xs H2 => Q (x :: xs) H2
section
variable {X : Cx} {e : Expr} {es : List Expr} {te : TE} {t : TA} {pos : Pos}
theorem pa_nil : PA X [] tNil := fun _ _ _ _ H Q I h => Calls.spliced_nil ⟨[], H, I, .nil, h⟩
theorem pa_cons (ha : PE X e te) (hr : PA X es t) (hs : starEach (e :: es) X.env = (false, eval e X.env) :: starEach es X.env := by rfl) : PA X (e :: es) (tCons te t) := by
  intro pos pins s σ H Q I h
  rw [hs]
  show wpAny _ _ (spliced ((false, eval e X.env) :: backTo pos (starEach es X.env))) _ _ s
  refine Calls.spliced_cons (thn (ha pins s σ H _ I h) fun u s1 ⟨x, H1, I1, r1, q1⟩ => ?_)
  exact thn (hr pos pins s1 σ H1 _ I1 q1) fun us s2 ⟨xs, H2, I2, r2, q2⟩ => ⟨x :: xs, H2, I2, .cons r1 r2, q2⟩
def tTup (t : TA) : TE := fun σ H Q => t σ H fun xs H1 => xs.length ≤ sizeLine ∧ ∀ p, H1 p = none → Q (.ref p) (upd H1 p (.tup xs))
def tLst (t : TA) : TE := fun σ H Q => t σ H fun xs H1 => xs.length ≤ sizeLine ∧ ∀ p, H1 p = none → Q (.ref p) (upd H1 p (.lst xs))
theorem pe_tup {x1} (h : PA X es t) : PE X (.Tuple es x1 pos) (tTup t) := by
  intro pins s σ H Q I hq
  refine wpAny_Tuple_spliced (thn (h pos pins s σ H _ I hq) fun us s1 ⟨xs, H1, I1, r, z, q⟩ => ⟨by rw [← r.length]; exact z, ?_⟩)
  have hf : H1 s1.heap.objs.size = none := I1.hok.fresh (Nat.le_refl _)
  refine ⟨.ref s1.heap.objs.size, upd H1 s1.heap.objs.size (.tup xs), I1.laid (t' := s1.toks) (fun b u e => Heap.get?_push_of_some _ e) (Nat.le_refl _) ?_, rfl, q _ hf⟩
  exact ⟨z, us, r, ⟨_, Heap.get?_push_size _ rfl, rfl, _, rfl⟩⟩
theorem pe_lst (h : PA X es t) : PE X (.List es pos) (tLst t) := by
  intro pins s σ H Q I hq
  refine wpAny_List_spliced (thn (h pos pins s σ H _ I hq) fun us s1 ⟨xs, H1, I1, r, z, q⟩ => ⟨by rw [← r.length]; exact z, ?_⟩)
  have hf : H1 s1.heap.objs.size = none := I1.hok.fresh (Nat.le_refl _)
  refine ⟨.ref s1.heap.objs.size, upd H1 s1.heap.objs.size (.lst xs), I1.laid (t' := s1.toks) (fun b u e => Heap.get?_push_of_some _ e) (Nat.le_refl _) ?_, rfl, q _ hf⟩
  exact ⟨z, us, 0, r, Heap.get?_push_size _ rfl⟩
end
abbrev Sp := List V → Hp → VK → XK → Prop
abbrev CXT := List Env → Hp → Shared → XK → Value → Shared → Prop
structure Env0 (P : Program) (w : World) (K : PySem.W.Frag) (mg : Str → Option Value) (base : Heap) (A : Around) (outer : List Env) (s : Shared) (H : Hp) : Prop where
  frames : A.frames = some outer
  mod : Mod K mg base
  bs : ∀ b o, base.get? b = some o → s.heap.get? b = some o ∧ H b = none
  bsz : base.objs.size ≤ s.heap.objs.size
  funs : s.heap.FunFrames base outer
  frf : ∀ b ∈ frs outer, H b = none
  hok : HOk P w H s.heap
  bare : AllBare s.gens
def CE (outer : List Env) (P : Program) (w : World) (H : Hp) (s : Shared) (Q : VK) (u : Value) (s' : Shared) : Prop :=
  ∃ v H', s'.os = s.os ∧ AllBare s'.gens ∧ Un (frs outer) [] H H' s.heap s'.heap ∧ HOk P w H' s'.heap ∧ RelV v u ∧ Q v H'
def CR (CX : CXT) (outer : List Env) (P : Program) (w : World) (H : Hp) (s : Shared) (Q : VK) (E : XK) (r : Result) (s' : Shared) : Prop :=
  match r with
  | .ok (.ret u) => CE outer P w H s Q u s'
  | .ok _ => False
  | .error e => CX outer H s E e s'
structure FnOk (P : Program) (w : World) (K : PySem.W.Frag) (mg : Str → Option Value) (base : Heap) (CX : CXT) (k : Nat) (f : Addr) (fd : FuncData) (ps : List Str) (sp : Sp) : Prop where
  len : ∀ vs H Q E, sp vs H Q E → vs.length = ps.length
  run : ∀ (A : Around) (outer : List Env) (s : Shared) (H : Hp) (args : Args) (us : List Value) (vs : List V) (Q : VK) (E : XK), Room k A → Env0 P w K mg base A outer s H → BindsTo s fd args (ps.zip us) → Vals vs us → sp vs H Q E →
    codeAny (model P w) A (.call (.ref f) args) (CR CX outer P w H s Q E) s
theorem FnOk.mono {P : Program} {w : World} {K : PySem.W.Frag} {mg : Str → Option Value} {base : Heap} {CX : CXT} {j k : Nat} {f : Addr} {fd : FuncData} {ps : List Str} {sp : Sp} (F : FnOk P w K mg base CX j f fd ps sp) (h : j ≤ k) :
    FnOk P w K mg base CX k f fd ps sp := ⟨F.len, fun A outer s H args us vs Q E hr => F.run A outer s H args us vs Q E (hr.mono h)⟩
theorem FnOk.imp {P : Program} {w : World} {K : PySem.W.Frag} {mg : Str → Option Value} {base : Heap} {CX : CXT} {k : Nat} {f : Addr} {fd : FuncData} {ps : List Str} {sp sp' : Sp} (F : FnOk P w K mg base CX k f fd ps sp)
    (h : ∀ vs H Q E, sp' vs H Q E → sp vs H Q E) : FnOk P w K mg base CX k f fd ps sp' :=
  ⟨fun vs H Q E q => F.len vs H Q E (h _ _ _ _ q), fun A outer s H args us vs Q E hr he hb hv hs => F.run A outer s H args us vs Q E hr he hb hv (h _ _ _ _ hs)⟩
theorem Env0.in1 {P : Program} {w : World} {K : PySem.W.Frag} {mg : Str → Option Value} {base : Heap} {A : Around} {outer : List Env} {s : Shared} {H : Hp} (e : Env0 P w K mg base A outer s H) :
    Env0 P w K mg base A.in1 outer s H := ⟨e.frames, e.mod, e.bs, e.bsz, e.funs, e.frf, e.hok, e.bare⟩
section
variable {X : Cx} {pins : List (Addr × Obj)} {σ : St} {H : Hp} {s s' : Shared}
theorem Inv.env0 (I : Inv X pins σ H s) : Env0 X.prog X.w X.K X.mg X.base X.A X.stack s H :=
  ⟨I.ok.frames, I.ok.mod, I.bs, Nat.le_trans I.ok.bsz I.sz, I.stack, I.stkFree, I.hok, I.bare⟩
theorem Inv.after {Q : VK} {u : Value} (I : Inv X pins σ H s) (h : CE X.stack X.prog X.w H s Q u s') : EP X pins σ Q u s' := by
  obtain ⟨v, H', os, bare, un, hok, r, q⟩ := h
  obtain ⟨hh, g, d, t, os'⟩ := s'
  obtain rfl : os' = s.os := os
  exact ⟨v, H', I.call (h' := hh) (g' := g) (d' := d) (t' := t) (ch := []) un hok bare (fun b z => absurd z (by simp)), r, q⟩
end
def tCall (sp : Sp) (dvs : List V) (E : XK) (t : TA) : TE := fun σ H Q => t σ H fun vs H1 => sp (vs ++ dvs) H1 Q E
def Binds (K : PySem.W.Frag) (fd : FuncData) (ps : List Str) (ds : List Value) : Prop :=
  ∀ (s : Shared) (us : List Value), K.In s.heap → (us ++ ds).length = ps.length → BindsTo s fd ⟨us, []⟩ (ps.zip (us ++ ds))
theorem Binds.all {K : PySem.W.Frag} {fd : FuncData} {ps : List Str} (h : ∀ us : List Value, us.length = ps.length → bindArgs fd ⟨us, []⟩ = pure (ps.zip us)) : Binds K fd ps [] := fun s us _ hl => by
  rw [List.append_nil] at hl ⊢
  exact .of_eq (h us hl)
def Passes (CX : CXT) (X : Cx) (E : XK) : Prop := ∀ (pins : List (Addr × Obj)) (σ : St) (H : Hp) (s : Shared) (e : Value) (s' : Shared), Inv X pins σ H s → CX X.stack H s E e s' → X.xe e s'
section
variable {X : Cx} {CX : CXT} {k : Nat} {f C : Addr} {fd : FuncData} {ps : List Str} {sp : Sp} {dvs : List V} {ds : List Value} {E : XK} {x m : Str} {p pos apos : Pos} {e o : Expr} {es : List Expr} {ta : TE} {t : TA}
theorem run_fn {pins : List (Addr × Obj)} {σ : St} {H : Hp} {s : Shared} {Q : VK} {us : List Value} {vs : List V} (F : FnOk X.prog X.w X.K X.mg X.base CX k f fd ps sp) (hr : Room k X.A) (hb : Binds X.K fd ps ds) (hd : Vals dvs ds) (hx : Passes CX X E)
    (I : Inv X pins σ H s) (r : Vals vs us) (h : sp (vs ++ dvs) H Q E) : wpAny (model X.prog X.w) X.A (call (.ref f) us) (EP X pins σ Q) X.xe s := by
  have r2 : Vals (vs ++ dvs) (us ++ ds) := r.append hd
  have hl : (us ++ ds).length = ps.length := by rw [← r2.length]; exact F.len _ _ _ _ h
  refine wpAny_call (codeAny_mono (F.run X.A X.stack s H ⟨us, []⟩ (us ++ ds) (vs ++ dvs) Q E hr I.env0 (hb s us I.kIn hl) r2 h) fun r s' hq => ?_)
  cases r with
  | error e => exact hx pins σ H s e s' I hq
  | ok fl =>
    cases fl with
    | ret u => exact I.after hq
    | next => exact False.elim hq
    | brk => exact False.elim hq
    | cont => exact False.elim hq
theorem pe_call (F : FnOk X.prog X.w X.K X.mg X.base CX k f fd ps sp) (hr : Room k X.A) (hg : Gl X x) (hm : X.mg x = some (.ref f)) (hk : PySem.W.keepIn X.K (.ref f) = true) (hb : Binds X.K fd ps ds) (hd : Vals dvs ds) (hx : Passes CX X E)
    (ha : PA X (e :: es) t) (hdb : (x == ("__debug__" : Str)) = false := by decide) (he : starEach (e :: es) X.env = (false, eval e X.env) :: starEach es X.env := by rfl) (hpl : (backTo pos (starEach es X.env)).any (·.1) = false := by rfl) :
    PE X (.Call (.Name x p) (e :: es) [] pos) (tCall sp dvs E t) := by
  intro pins s σ H Q I h
  refine wpAny_Call_Name_kw (ld_glob I hg hm ?_ hdb)
  refine PySem.W.callWith_K (h₀ := X.base) I.ok.mod.kin hk (thn (ha pos pins s σ H _ I h) fun us s1 ⟨vs, H1, I1, r, q⟩ => ⟨I1.kIn, ?_⟩) he hpl
  exact run_fn F hr hb hd hx I1 r q
theorem pe_call0 (F : FnOk X.prog X.w X.K X.mg X.base CX k f fd ps sp) (hr : Room k X.A) (hg : Gl X x) (hm : X.mg x = some (.ref f)) (hk : PySem.W.keepIn X.K (.ref f) = true) (hb : Binds X.K fd ps ds) (hd : Vals dvs ds) (hx : Passes CX X E)
    (hdb : (x == ("__debug__" : Str)) = false := by decide) : PE X (.Call (.Name x p) [] [] pos) (tCall sp dvs E tNil) := by
  intro pins s σ H Q I h
  refine wpAny_Call_Name_kw (ld_glob I hg hm ?_ hdb)
  exact PySem.W.callWith_K0 I.kIn hk (run_fn (us := []) F hr hb hd hx I .nil h)
end
structure FnScope (N P : List Str) (sc : Scope) : Prop where
  kind : sc.kind = .function
  co : sc.isCoroutine = false
  gen : sc.isGenerator = false
  nd : N.Nodup
  pre : N.take P.length = P
  par : ∀ x ∈ P, sc.names.lookup x = some .local ∨ sc.names.lookup x = some .cell
  nofree : ∀ y ∈ sc.names, y.2 ≠ .free
theorem bindL_out {kindOf : Str → Option NameKind} {x : Str} : ∀ {binds : List (Str × Value)} {m : Str → Option Value}, (∀ v, (x, v) ∉ binds) → bindL kindOf binds m x = m x
  | [], _, _ => rfl
  | (n, v) :: r, m, h => by
    unfold bindL
    rw [bindL_out fun w hw => h w (List.mem_cons_of_mem _ hw)]
    split
    · have : x ≠ n := by rintro rfl; exact h v List.mem_cons_self
      simp [this]
    · rfl
theorem bindC_out {kindOf : Str → Option NameKind} {x : Str} : ∀ {binds : List (Str × Value)} {m : Str → Option Value}, (∀ v, (x, v) ∉ binds) → bindC kindOf binds m x = m x
  | [], _, _ => rfl
  | (n, v) :: r, m, h => by
    unfold bindC
    rw [bindC_out fun w hw => h w (List.mem_cons_of_mem _ hw)]
    split
    · rfl
    · have : x ≠ n := by rintro rfl; exact h v List.mem_cons_self
      simp [this]
theorem bindL_get {kindOf : Str → Option NameKind} {x : Str} {v : Value} : ∀ {P : List Str} {vs : List Value} {i : Nat} {m : Str → Option Value}, P.Nodup → P[i]? = some x → vs[i]? = some v → kindOf x = some .local →
    bindL kindOf (P.zip vs) m x = some v
  | [], _, _, _, _, h, _, _ => by simp at h
  | _ :: _, [], _, _, _, _, h, _ => by simp at h
  | p :: P, w :: vs, 0, m, nd, h1, h2, hk => by
    simp at h1 h2; subst h1; subst h2
    show bindL kindOf ((p, w) :: P.zip vs) m p = _
    unfold bindL
    rw [bindL_out fun v hv => (List.nodup_cons.mp nd).1 (List.of_mem_zip hv).1, if_pos hk]
    simp
  | p :: P, w :: vs, i + 1, m, nd, h1, h2, hk => by
    show bindL kindOf ((p, w) :: P.zip vs) m x = _
    unfold bindL
    exact bindL_get (i := i) (List.nodup_cons.mp nd).2 (by simpa using h1) (by simpa using h2) hk
theorem bindC_get {kindOf : Str → Option NameKind} {x : Str} {v : Value} : ∀ {P : List Str} {vs : List Value} {i : Nat} {m : Str → Option Value}, P.Nodup → P[i]? = some x → vs[i]? = some v → kindOf x ≠ some .local →
    bindC kindOf (P.zip vs) m x = some v
  | [], _, _, _, _, h, _, _ => by simp at h
  | _ :: _, [], _, _, _, _, h, _ => by simp at h
  | p :: P, w :: vs, 0, m, nd, h1, h2, hk => by
    simp at h1 h2; subst h1; subst h2
    show bindC kindOf ((p, w) :: P.zip vs) m p = _
    unfold bindC
    rw [bindC_out fun v hv => (List.nodup_cons.mp nd).1 (List.of_mem_zip hv).1, if_neg hk]
    simp
  | p :: P, w :: vs, i + 1, m, nd, h1, h2, hk => by
    show bindC kindOf ((p, w) :: P.zip vs) m x = _
    unfold bindC
    exact bindC_get (i := i) (List.nodup_cons.mp nd).2 (by simpa using h1) (by simpa using h2) hk
def start (N : List Str) (vs : List V) : St := vs.map some ++ List.replicate (N.length - vs.length) none
def cxOf (CX : CXT) (P : Program) (w : World) (K : PySem.W.Frag) (mg : Str → Option Value) (base : Heap) (N : List Str) (qual : Str) (scope : Scope) (f : Addr) (cd : Value) (A : Around) (outer : List Env) (s : Shared) (H : Hp) (E : XK) : Cx where
  prog := P
  w := w
  K := K
  mg := mg
  base := base
  A := A.deeper (envOfC qual scope s.heap.objs.size f cd)
  N := N
  s₀ := s
  H₀ := H
  env := envOfC qual scope s.heap.objs.size f cd
  outer := outer
  stack := envOfC qual scope s.heap.objs.size f cd :: outer
  ex := []
  calm := true
  fn := fun _ => true
  pn := []
  xe := fun e s' => wpAny (model P w) (A.deeper (envOfC qual scope s.heap.objs.size f cd)) (leaving (envOfC qual scope s.heap.objs.size f cd) e) (fun _ s'' => CX outer H s E e s'') (fun e' s'' => CX outer H s E e' s'') s'
theorem cell_has {sc : Scope} {n : Nat} {x : Str} (h : sc.names.lookup x = some .cell) : ∃ c, (cellsFrom n sc.names []).lookup x = some c := by
  have q := PySem.W.cellsFrom_some sc.names n [] (.inl h)
  exact Option.isSome_iff_exists.mp q
theorem inv_start {CX : CXT} {P : Program} {w : World} {K : PySem.W.Frag} {mg : Str → Option Value} {base : Heap} {N ps : List Str} {qual : Str} {scope : Scope} {f : Addr} {cd : Value} {A : Around} {outer : List Env} {s s1 : Shared} {H : Hp} {E : XK} {us : List Value} {vs : List V}
    (S : FnScope N ps scope) (hd : A.handled = none) (e0 : Env0 P w K mg base A outer s H) (hl : vs.length = ps.length) (r : Vals vs us)
    (x : InCallC s s.heap.objs.size (bindL (envOfC qual scope s.heap.objs.size f cd).kindOf (ps.zip us) fun _ => none) (cellsFrom (s.heap.objs.size + 1) scope.names []) (bindC (envOfC qual scope s.heap.objs.size f cd).kindOf (ps.zip us) fun _ => none) s1) :
    Inv (cxOf CX P w K mg base N qual scope f cd A outer s H E) [] (start N vs) H s1 := by
  have hpl : ps.length ≤ N.length := by have := congrArg List.length S.pre; rw [List.length_take] at this; omega
  obtain ⟨h1, tk, rfl, hk⟩ := x.done
  have noA : ∀ b : Addr, b ∉ (cxOf CX P w K mg base N qual scope f cd A outer s H E).ex := fun b z => absurd (show b ∈ ([] : List Addr) from z) (by simp)
  refine ⟨⟨e0.mod, S.kind, rfl, rfl, Nat.le_refl _, fun y z c h1 h2 => ?_, fun y hy => ?_, fun y c _ h => ?_, fun _ => hd, Around.frames_deeper e0.frames, .inr ⟨rfl, rfl⟩, fun b z => absurd z (noA b), e0.bs, e0.bsz, fun b _ _ => noA b, fun b z => absurd z (noA b), e0.funs, e0.frf⟩,
    rfl, e0.bare, Un.kept hk, ⟨_, x.toInCall.ns, fun i y v h1 h2 h3 => ?_⟩, fun y c h => ⟨_, x.cell y c h⟩, e0.hok.fresh (Nat.le_refl _), fun y c h => ?_, fun p hp => absurd (show p ∈ ([] : List (Addr × Obj)) from hp) (by simp), e0.hok.kept hk, ?_⟩
  · exact name_of_addr x.apart (PySem.mem_of_lookup h1) (PySem.mem_of_lookup h2)
  · have hy : scope.names.lookup y = some .cell ∨ scope.names.lookup y = some .free := hy
    rcases hy with hy | hy
    · exact cell_has hy
    · exact absurd rfl (S.nofree _ (PySem.mem_of_lookup hy))
  · exact Nat.le_of_lt (x.above y c (PySem.mem_of_lookup h))
  · have hi : i < vs.length := by
      unfold start at h2
      by_cases hi : i < vs.length
      · exact hi
      · rw [List.getElem?_append_right (by simpa using hi)] at h2
        rw [List.getElem?_replicate] at h2
        split at h2 <;> cases h2
    have ha : vs[i]? = some v := by
      unfold start at h2
      rw [List.getElem?_append_left (by simpa using hi), List.getElem?_map] at h2
      cases e : vs[i]? with
      | none => rw [e] at h2; cases h2
      | some a => rw [e] at h2; cases h2; rfl
    obtain ⟨u, hu, rv⟩ := r.get ha
    have hp : ps[i]? = some y := by
      rw [← S.pre, List.getElem?_take_of_lt (by omega)]; exact h1
    have ndP : ps.Nodup := by rw [← S.pre]; exact S.nd.sublist (List.take_sublist _ _)
    refine ⟨u, rv, ?_⟩
    rcases S.par y (List.mem_of_getElem? hp) with k | k
    · exact .inl ⟨k, bindL_get ndP hp hu k⟩
    · obtain ⟨c, e⟩ := cell_has (n := s.heap.objs.size + 1) k
      refine .inr ⟨.inl k, c, e, ?_⟩
      have q := x.cell y c e
      rw [bindC_get ndP hp hu (by show scope.names.lookup y ≠ _; rw [k]; decide)] at q
      exact q
  · exact e0.hok.fresh (Nat.le_of_lt (x.above y c (PySem.mem_of_lookup h)))
  · unfold start
    show _ = N.length
    rw [List.length_append, List.length_map, List.length_replicate]
    omega
theorem fn_of {CX : CXT} {P : Program} {w : World} {K : PySem.W.Frag} {mg : Str → Option Value} {base : Heap} {k : Nat} {f : Addr} {name qual : Str} {params : Arguments} {body : List Stmt} {scope : Scope} {dV kV doc pm cdv ct oc : Value} {an od : Option Addr}
    {osl : Array (Option Value)} {N ps : List Str} {sp : Sp} (lk : K.lookup f = some ⟨oc, od, .func (PySem.W.fnOf name qual params body scope dV kV doc pm an cdv ct), osl⟩) (hcd : PySem.W.codeIn K cdv qual = true) (S : FnScope N ps scope)
    (len : ∀ vs H Q E, sp vs H Q E → vs.length = ps.length)
    (hbody : ∀ (A : Around) (outer : List Env) (s : Shared) (H : Hp) (vs : List V) (Q : VK) (E : XK), Room k (A.deeper (envOfC qual scope s.heap.objs.size f cdv)) → sp vs H Q E →
      ∃ t, PSs (cxOf CX P w K mg base N qual scope f cdv A outer s H E) body t ∧ t { nx := fun _ H' => Q .non H', rt := Q } (start N vs) H) :
    FnOk P w K mg base CX (k + 1) f (PySem.W.fnOf name qual params body scope dV kV doc pm an cdv ct) ps sp := by
  refine ⟨len, fun A outer s H args us vs Q E hr e0 hb r hsp => ?_⟩
  have hl := len _ _ _ _ hsp
  have KX : K.In s.heap := e0.mod.kin.keeps fun b o e => (e0.bs b o e).1
  have lim : s.heap.NoLimit := e0.mod.nolimit.keeps fun b o e => (e0.bs b o e).1
  have hkind : ∀ y ∈ ps.zip us, scope.names.lookup y.1 = some .local ∨ (scope.names.lookup y.1 = some .cell ∧ ((cellsFrom (s.heap.objs.size + 1) scope.names []).lookup y.1).isSome = true) := fun ⟨n, v⟩ hy => by
    rcases S.par n (List.of_mem_zip hy).1 with q | q
    · exact .inl q
    · exact .inr ⟨q, PySem.W.cellsFrom_some _ _ _ (.inl q)⟩
  refine codeAny_call_function hr.depth (KX _ _ lk) rfl S.co S.gen rfl (PySem.W.codeRec_of KX hcd) (hb _ _ _ _ ?_)
  refine wpAny_newFunctionEnv_cells S.kind hkind fun env he s1 x => ?_
  subst he
  refine ⟨lim.keeps x.toInCall.keep, codeAny_func ?_⟩
  obtain ⟨t, ht, hq⟩ := hbody A outer s H vs Q E (hr.deeper _) hsp
  have I : Inv (cxOf CX P w K mg base N qual scope f cdv A outer s H E) [] (start N vs) H s1 := inv_start S hr.hd e0 hl r x
  refine wpAny_mono (ht [] s1 (start N vs) H _ I hq) (fun fl s' hs => ?_) fun e s' hs => hs
  have fin : ∀ {σ' : St} {H' : Hp} {v : V} {u : Value}, Inv (cxOf CX P w K mg base N qual scope f cdv A outer s H E) [] σ' H' s' → RelV v u → Q v H' → CE outer P w H s Q u s' :=
    fun {σ' H' v u} J rv q => ⟨v, H', J.os, J.bare, J.base, J.hok, rv, q⟩
  cases fl with
  | ret u =>
    obtain ⟨v, σ', H', J, rv, q⟩ := hs
    exact fin J rv q
  | next =>
    obtain ⟨σ', H', J, q⟩ := hs
    exact fin (v := V.non) (u := Value.none) J rfl q
  | brk =>
    obtain ⟨_, _, _, q⟩ := hs
    exact False.elim q
  | cont =>
    obtain ⟨_, _, _, q⟩ := hs
    exact False.elim q
end L2
namespace L2
open PySem PySem.Spec PyProof.Rows
section
variable {X : Cx} {x : Str} {p pos : Pos} {e : Expr} {es : List Expr} {t : TA} {id T : String} {r : List V → Hp → VK → Prop}
def tCB (r : List V → Hp → VK → Prop) (t : TA) : TE := fun σ H Q => t σ H fun vs H1 => r vs H1 Q
theorem pe_callB (hc : CallR X (.builtin id) r) (hg : Gl X x) (hm : X.mg x = none) (hv : bootBuiltins x = some (.builtin id)) (ha : PA X (e :: es) t) (hn : x ≠ "__name__" := by decide) (hdb : (x == ("__debug__" : Str)) = false := by decide)
    (he : starEach (e :: es) X.env = (false, eval e X.env) :: starEach es X.env := by rfl) (hpl : (backTo pos (starEach es X.env)).any (·.1) = false := by rfl) : PE X (.Call (.Name x p) (e :: es) [] pos) (tCB r t) := by
  intro pins s σ H Q I h
  refine wpAny_Call_Name_kw (ld_blt I hg hm hv ?_ hn hdb)
  exact PyProof.Rows.callWith_builtin1 (thn (ha pos pins s σ H _ I h) fun us s1 ⟨vs, H1, I1, r1, q1⟩ => hc pins s1 σ H1 vs us Q I1 r1 q1) he hpl
theorem pe_callTy (hc : CallR X (.type T) r) (hg : Gl X x) (hm : X.mg x = none) (hv : bootBuiltins x = some (.type T)) (ha : PA X (e :: es) t) (hn : x ≠ "__name__" := by decide) (hdb : (x == ("__debug__" : Str)) = false := by decide)
    (he : starEach (e :: es) X.env = (false, eval e X.env) :: starEach es X.env := by rfl) (hpl : (backTo pos (starEach es X.env)).any (·.1) = false := by rfl) : PE X (.Call (.Name x p) (e :: es) [] pos) (tCB r t) := by
  intro pins s σ H Q I h
  refine wpAny_Call_Name_kw (ld_blt I hg hm hv ?_ hn hdb)
  exact PyProof.Rows.callWith_type1 (thn (ha pos pins s σ H _ I h) fun us s1 ⟨vs, H1, I1, r1, q1⟩ => hc pins s1 σ H1 vs us Q I1 r1 q1) he hpl
end
end L2
namespace HT
open PySem PyProof.Rows
section
variable {prog : Program} {w : World} {A : Around} {E : Value → Shared → Prop} {s : Shared}
theorem cat_tup {t b : Addr} {vs ws : List Value} {Q : Value → Shared → Prop} (ht : IsTup s.heap t vs.toArray) (hb : IsTup s.heap b ws.toArray) (hv : vs ≠ [])
    (h1 : ws = [] → Q (.ref t) s) (h2 : ws ≠ [] → Q (.ref s.heap.objs.size) { s with heap := s.heap.push { cls := .type "tuple", data := .seq (vs ++ ws).toArray } })
    (hsz : vs.length + ws.length ≤ sizeLine) : wpAny (model prog w) A (binaryOp .Add (.ref t) (.ref b)) Q E s := by
  obtain ⟨⟨cls, dd, data, sl⟩, ho, hc, n, hd⟩ := id ht
  obtain ⟨⟨cls2, dd2, data2, sl2⟩, ho2, hc2, n2, hd2⟩ := id hb
  simp only at hc hd hc2 hd2
  subst hc hd hc2 hd2
  have e : vs.toArray ++ ws.toArray = (vs ++ ws).toArray := by simp
  by_cases hw : ws = []
  · exact concat_meets ⟨_, ho, rfl⟩ ⟨_, ho2, rfl⟩ noFill_tuple_add seq_tuple_add PySem.F.slot_tuple_add PySem.F.entry_tuple_add (PySem.F.args_tuple_add_2 _ _)
      (tuple_addW1 t b vs.toArray ws.toArray n n2 dd dd2 sl sl2 (by simpa using hv) (by simp [hw])) ⟨ho, ho2, h1 hw⟩
  · refine concat_meets ⟨_, ho, rfl⟩ ⟨_, ho2, rfl⟩ noFill_tuple_add seq_tuple_add PySem.F.slot_tuple_add PySem.F.entry_tuple_add (PySem.F.args_tuple_add_2 _ _)
      (tuple_addW2 t b vs.toArray ws.toArray n n2 dd dd2 sl sl2 (by simpa using hv) (by simpa using hw) (by rw [List.size_toArray, List.size_toArray]; exact hsz)) ⟨ho, ho2, ?_⟩
    rw [e]
    exact h2 hw
def sIx (n d : Nat) : Option Int → Nat
  | none => d
  | some v => if v < 0 then (v + (n : Int)).toNat else min v.toNat n
theorem sIx_none (n d : Nat) : sIx n d none = d := rfl
theorem sIx_nat (n d k : Nat) : sIx n d (some (k : Int)) = min k n := by
  show (if (k : Int) < 0 then ((k : Int) + (n : Int)).toNat else min (k : Int).toNat n) = min k n
  rw [if_neg (by omega), Int.toNat_natCast]
theorem sIx_le (n d : Nat) (hd : d ≤ n) (o : Option Int) : sIx n d o ≤ n := by
  cases o with
  | none => exact hd
  | some v =>
    show (if v < 0 then (v + (n : Int)).toNat else min v.toNat n) ≤ n
    by_cases hv : v < 0
    · rw [if_pos hv]; omega
    · rw [if_neg hv]; exact Nat.min_le_right _ _
theorem clip_eq (v : Int) (n d : Nat) : (if v < 0 then max (v + (n : Int)) 0 else min v (n : Int)) = ((sIx n d (some v) : Nat) : Int) := by
  show (if v < 0 then max (v + (n : Int)) 0 else min v (n : Int)) = (((if v < 0 then (v + (n : Int)).toNat else min v.toNat n) : Nat) : Int)
  by_cases hv : v < 0
  · simp only [if_pos hv]; omega
  · simp only [if_neg hv]; omega
theorem adjust_gen (lo hi : Option Int) (n : Nat) : Builtin.Slice.sliceAdjust lo hi 1 (n : Int) = (((sIx n 0 lo : Nat) : Int), ((sIx n n hi : Nat) : Int)) := by
  have h1 : ¬ ((1 : Int) < 0) := by omega
  unfold Builtin.Slice.sliceAdjust
  simp only [h1, if_false]
  refine Prod.ext ?_ ?_
  · cases lo with
    | none => rfl
    | some v => exact clip_eq v n 0
  · cases hi with
    | none => rfl
    | some v => exact clip_eq v n n
theorem places_gen (i j : Nat) : Builtin.Slice.slicePlaces (i : Int) (j : Int) 1 = j - i := by
  unfold Builtin.Slice.slicePlaces
  have h1 : (1 : Int) > 0 := by omega
  simp only [h1, if_true, Int.ediv_one]
  split <;> omega
theorem slicePart_ {v : Value} {o : Option Int} {Q : Option Int → Shared → Prop} (p : IsPart v o) (h : Q o s) : wpAny (model prog w) A (Builtin.Slice.slicePartIndex v) Q E s := by
  cases p with
  | none => exact slicePart_none h
  | int i t => exact slicePart_int h
theorem sliceApplied_gen {sl : Addr} {vl vu : Value} {lo hi : Option Int} {n : Nat} {Q : Int × Int × Nat → Shared → Prop} (hs : s.heap.IsSliceOf sl vl vu .none) (pl : IsPart vl lo) (pu : IsPart vu hi)
    (h : Q (((sIx n 0 lo : Nat) : Int), 1, sIx n n hi - sIx n 0 lo) s) : wpAny (model prog w) A (Builtin.Slice.sliceApplied (.ref sl) (pure (n : Int))) Q E s := by
  obtain ⟨os, hos, hcs, hds⟩ := id hs
  unfold Builtin.Slice.sliceApplied Builtin.Slice.sliceFields
  refine wpAny_bind (wpAny_bind (wpAny_field hos hds (x := vl) rfl (wpAny_bind (wpAny_field hos hds (x := vu) rfl (wpAny_bind (wpAny_field hos hds (x := .none) rfl (wpAny_pure ?_)))))))
  refine wpAny_bind (slicePart_none ?_)
  show wpAny _ _ (if ((1 : Int) == 0) = true then _ else _) _ _ s
  rw [if_neg (by decide)]
  refine wpAny_bind (slicePart_ pl (wpAny_bind (slicePart_ pu (wpAny_bind (wpAny_pure ?_)))))
  show wpAny _ _ (match Builtin.Slice.sliceAdjust lo hi 1 (n : Int) with | (lo, hi) => pure (lo, (1 : Int), Builtin.Slice.slicePlaces lo hi 1)) _ _ s
  rw [adjust_gen lo hi n]
  show wpAny _ _ (pure (((sIx n 0 lo : Nat) : Int), (1 : Int), Builtin.Slice.slicePlaces ((sIx n 0 lo : Nat) : Int) ((sIx n n hi : Nat) : Int) 1)) _ _ s
  rw [places_gen]
  exact wpAny_pure h
theorem pick_gen (xs : Array Value) (i k : Nat) : ((List.range k).filterMap fun (m : Nat) => xs[((i : Int) + (m : Int) * 1).toNat]?).toArray = ((xs.toList.drop i).take k).toArray := by
  have e : (fun (m : Nat) => xs[((i : Int) + (m : Int) * 1).toNat]?) = fun m => xs[i + m]? := by
    funext m
    have : ((i : Int) + (m : Int) * 1).toNat = i + m := by omega
    rw [this]
  rw [e]
  have := pick_run xs i k
  rw [List.filterMap_map] at this
  have e2 : ((fun x => xs[x]?) ∘ fun x => i + x) = fun m => xs[i + m]? := rfl
  rw [e2] at this
  rw [this]
theorem getItem_tuple_cut {t sl : Addr} {items : Array Value} {vl vu : Value} {lo hi : Option Int} {Q : Value → Shared → Prop} (ht : IsTup s.heap t items) (hs : s.heap.IsSliceOf sl vl vu .none) (pl : IsPart vl lo) (pu : IsPart vu hi)
    (hw : ¬ (sIx items.size 0 lo = 0 ∧ sIx items.size items.size hi = items.size))
    (h : Q (.ref s.heap.objs.size) { s with heap := s.heap.push { cls := .type "tuple", data := .seq ((items.toList.drop (sIx items.size 0 lo)).take (sIx items.size items.size hi - sIx items.size 0 lo)).toArray } })
    (hsz : items.size ≤ sizeLine) : wpAny (model prog w) A (getItem (.ref t) (.ref sl)) Q E s := by
  have htake : sizeOk (.seq ((items.toList.drop (sIx items.size 0 lo)).take (sIx items.size items.size hi - sIx items.size 0 lo)).toArray) := by
    show ((items.toList.drop (sIx items.size 0 lo)).take (sIx items.size items.size hi - sIx items.size 0 lo)).toArray.size ≤ sizeLine
    rw [List.size_toArray, List.length_take, List.length_drop, Array.length_toList]
    omega
  have hj : sIx items.size items.size hi ≤ items.size := sIx_le _ _ (Nat.le_refl _) hi
  obtain ⟨os, hos, hcs, hds⟩ := id hs
  have hTs : s.TypeIs (.ref sl) "slice" := ⟨os, hos, hcs⟩
  unfold getItem
  try with_reducible refine wpAny_holding ?_
  first | refine wpAny_bind (wpAny_pure ?_) | skip
  refine wpAny_bind (wpAny_sequenceKey ht.typeIs (by decide) ?_)
  refine wpAny_bind (wpAny_callSpecial?_slot (name := Str.ofString "__getitem__") ht.typeIs PyProof.Rows.slot_tuple_getitem
    (wpAny_call_entry PyProof.Rows.slot_tuple_getitem ht.typeIs entry_tuple_getitem ?_ (args_tuple_getitem _ _)))
  show wpAny _ _ (Builtin.Tuple.tupleItemsOf (.ref t) >>= _) _ _ s
  refine wpAny_bind (tupleItemsOf_ ht ?_)
  refine wpAny_bind (wpAny_typeOf hTs ?_)
  rw [if_pos (by decide)]
  refine wpAny_bind (sliceApplied_gen hs pl pu ?_)
  have hno : ¬ ((((sIx items.size 0 lo : Nat) : Int) == 0 && (1 : Int) == 1 && (sIx items.size items.size hi - sIx items.size 0 lo) == items.size) = true) := by
    intro q
    rw [Bool.and_eq_true, Bool.and_eq_true] at q
    have q1 : ((sIx items.size 0 lo : Nat) : Int) = 0 := eq_of_beq q.1.1
    have q2 : sIx items.size items.size hi - sIx items.size 0 lo = items.size := eq_of_beq q.2
    exact hw ⟨by omega, by omega⟩
  show wpAny _ _ (if (((sIx items.size 0 lo : Nat) : Int) == 0 && (1 : Int) == 1 && (sIx items.size items.size hi - sIx items.size 0 lo) == items.size) = true then _ else _) _ _ s
  rw [if_neg hno, pick_gen]
  first
    | exact wpAny_bind (m := Builtin.Tuple.tupleExact _) (wpAny_newObj_type (wpAny_pure ⟨_, rfl, wpAny_pure h⟩) htake)
    | exact wpAny_bind (m := Builtin.Tuple.tupleExact _) (wpAny_newObj_type (wpAny_bind (wpAny_pure (wpAny_pure ⟨_, rfl, wpAny_pure h⟩))) htake)
    | exact wpAny_bind (wpAny_bind (m := Builtin.Tuple.tupleExact _) (wpAny_newObj_type (wpAny_pure (wpAny_pure ⟨_, rfl, wpAny_pure h⟩)) htake))
    | exact wpAny_bind (wpAny_bind (m := Builtin.Tuple.tupleExact _) (wpAny_newObj_type (wpAny_pure ⟨_, rfl, wpAny_pure h⟩) htake))
end
end HT
namespace L2
open PySem PySem.Spec PyProof.Rows
abbrev TO := St → Hp → (Option Int → Hp → Prop) → Prop
def PO (X : Cx) (e : Option Expr) (t : TO) : Prop :=
  ∀ (pins : List (Addr × Obj)) (s : Shared) (σ : St) (H : Hp) (Q : Option Int → Hp → Prop), Inv X pins σ H s → t σ H Q →
    wpAny (model X.prog X.w) X.A (evalPart e X.env) (fun u s' => ∃ o H', Inv X pins σ H' s' ∧ IsPart u o ∧ Q o H') X.xe s
def tNoPart : TO := fun _ H Q => Q none H
def tPart (t : TE) : TO := fun σ H Q => t σ H fun x H1 => ∃ i, x = .int i ∧ Q (some i) H1
section
variable {X : Cx} {e : Expr} {te : TE} {lo hi : Option Expr} {tl th : TO} {pos p2 : Pos}
theorem po_none : PO X none tNoPart := by
  intro pins s σ H Q I h
  rw [evalPart_none]
  exact wpAny_pure ⟨none, H, I, .none, h⟩
theorem po_some (h : PE X e te) : PO X (some e) (tPart te) := by
  intro pins s σ H Q I hw
  rw [evalPart_some]
  refine thn (h pins s σ H _ I hw) fun u s1 ⟨x, H1, I1, r1, q1⟩ => ?_
  obtain ⟨i, rfl, q⟩ := q1
  obtain ⟨t, rfl⟩ := r1
  exact ⟨some i, H1, I1, .int i t, q⟩
def SlR (X : Cx) (r : V → Option Int → Option Int → Hp → VK → Prop) : Prop :=
  ∀ (pins : List (Addr × Obj)) (s : Shared) (σ : St) (H : Hp) (x : V) (v vl vu : Value) (lo hi : Option Int) (sl : Addr) (Q : VK), Inv X pins σ H s → RelV x v → s.heap.IsSliceOf sl vl vu .none → IsPart vl lo → IsPart vu hi → r x lo hi H Q →
    ∃ T id, typeLookup (.type T) "__getitem__" = pure (some (.builtin id)) ∧ s.TypeIs v T ∧ wpAny (model X.prog X.w) X.A (getItem v (.ref sl)) (EP X pins σ Q) X.xe s
def tSl (r : V → Option Int → Option Int → Hp → VK → Prop) (te : TE) (tl th : TO) : TE := fun σ H Q => te σ H fun x H1 => tl σ H1 fun l H2 => th σ H2 fun u H3 => r x l u H3 Q
theorem pe_slice {r : V → Option Int → Option Int → Hp → VK → Prop} (hr : SlR X r) (he : PE X e te) (hl : PO X lo tl) (hu : PO X hi th) : PE X (.Subscript e (.Slice lo hi none p2) pos) (tSl r te tl th) := by
  intro pins s σ H Q I h
  refine Subscript_ (thn (he pins s σ H _ I h) fun v s1 ⟨x, H1, I1, r1, q1⟩ => ?_)
  refine wpAny_Slice (thn (hl pins s1 σ H1 _ I1 q1) fun vl s2 ⟨l, H2, I2, pl, q2⟩ => thn (hu pins s2 σ H2 _ I2 q2) fun vu s3 ⟨u, H3, I3, pu, q3⟩ => ?_)
  rw [evalPart_none]
  refine wpAny_pure ?_
  have I4 : Inv X pins σ H3 { s3 with heap := s3.heap.push { cls := .type "slice", data := .fields #[vl, vu, .none] } } := I3.kept (t' := s3.toks) fun b ob q => Heap.get?_push_of_some _ q
  obtain ⟨T, id, hT, ht, hg⟩ := hr pins { s3 with heap := s3.heap.push { cls := .type "slice", data := .fields #[vl, vu, .none] } } σ H3 x v vl vu l u s3.heap.objs.size Q I4 r1 (Heap.IsSliceOf.new ..) pl pu q3
  show wpAny (model X.prog X.w) X.A (subscriptTail e (.Slice lo hi none p2) v (.ref s3.heap.objs.size)) (EP X pins σ Q) X.xe { s3 with heap := s3.heap.push { cls := .type "slice", data := .fields #[vl, vu, .none] } }
  exact tail_any (ops := [.ref s3.heap.objs.size, v]) ht hT hg (by with_unfolding_all rfl)
def cutV (xs : List V) (lo hi : Option Int) : List V := (xs.drop (HT.sIx xs.length 0 lo)).take (HT.sIx xs.length xs.length hi - HT.sIx xs.length 0 lo)
theorem cutV_length (xs : List V) (lo hi : Option Int) : (cutV xs lo hi).length ≤ xs.length := by
  unfold cutV
  rw [List.length_take, List.length_drop]
  omega
def rSlT (K : PySem.W.Frag) : V → Option Int → Option Int → Hp → VK → Prop := fun x lo hi H Q => ∃ a xs, x = .ref a ∧ SqT K H a xs ∧
  ¬ (HT.sIx xs.length 0 lo = 0 ∧ HT.sIx xs.length xs.length hi = xs.length) ∧ ∀ p, H p = none → Q (.ref p) (upd H p (.tup (cutV xs lo hi)))
theorem sl_tup : SlR X (rSlT X.K) := by
  intro pins s σ H x v vl vu lo hi sl Q I rx hs pl pu h
  obtain ⟨a, xs, rfl, hx, hw, q⟩ := h
  cases rx
  obtain ⟨its, r, ht, hz⟩ := I.tuple hx
  have hlen : its.toArray.size = xs.length := by rw [List.size_toArray]; exact r.length.symm
  refine ⟨"tuple", _, PyProof.Rows.slot_tuple_getitem.lookup, ht.typeIs, ?_⟩
  refine HT.getItem_tuple_cut ht hs pl pu (by rw [hlen]; exact hw) ?_ (by rw [hlen]; exact hz)
  rw [hlen]
  refine ⟨.ref s.heap.objs.size, _, I.laid (t' := s.toks) (o := .tup (cutV xs lo hi)) (fun b ob q => Heap.get?_push_of_some _ q) (Nat.le_refl _) ?_, rfl, q _ (I.hok.fresh (Nat.le_refl _))⟩
  exact ⟨Nat.le_trans (cutV_length xs lo hi) hz, _, (r.drop (HT.sIx xs.length 0 lo)).take (HT.sIx xs.length xs.length hi - HT.sIx xs.length 0 lo), IsTup.new _ _⟩
def rCatT (K : PySem.W.Frag) : R2 := fun x y H Q => ∃ a b xs ys, x = .ref a ∧ y = .ref b ∧ SqT K H a xs ∧ SqT K H b ys ∧ xs ≠ [] ∧ xs.length + ys.length ≤ sizeLine ∧
  (ys = [] → Q (.ref a) H) ∧ (ys ≠ [] → ∀ p, H p = none → Q (.ref p) (upd H p (.tup (xs ++ ys))))
theorem Vals.nil_iff {xs : List V} {us : List Value} (r : Vals xs us) : us = [] ↔ xs = [] := by
  cases r with
  | nil => simp
  | cons _ _ => simp
theorem op_catT : OpR X (binaryOp .Add) (rCatT X.K) := by
  intro pins s σ H x y v u Q I rx ry h
  obtain ⟨a, b, xs, ys, rfl, rfl, ha, hb, hx, hz, q1, q2⟩ := h
  cases rx
  cases ry
  obtain ⟨its, r1, p1, _⟩ := I.tuple ha
  obtain ⟨its2, r2, p2, _⟩ := I.tuple hb
  refine HT.cat_tup p1 p2 (fun z => hx (r1.nil_iff.mp z)) (fun z => ⟨.ref a, H, I, rfl, q1 (r2.nil_iff.mp z)⟩) (fun z => ?_) (by rw [← r1.length, ← r2.length]; exact hz)
  refine ⟨.ref s.heap.objs.size, _, I.laid (t' := s.toks) (o := .tup (xs ++ ys)) (fun b ob q => Heap.get?_push_of_some _ q) (Nat.le_refl _) ?_, rfl, q2 (fun w => z (r2.nil_iff.mpr w)) _ (I.hok.fresh (Nat.le_refl _))⟩
  exact ⟨by rw [List.length_append]; exact hz, _, r1.append r2, IsTup.new _ _⟩
end
end L2
namespace L2
open PySem PySem.Spec PyProof.Rows
def ixN (n : Nat) (i : Int) : Option Nat := if 0 ≤ i then (if i < n then some i.toNat else none) else if -(n : Int) ≤ i then some (i + n).toNat else none
def atI {α : Type} (xs : List α) (i : Int) : Option α := (ixN xs.length i).bind fun j => xs[j]?
theorem ixN_seq {n : Nat} {i : Int} {j : Nat} (h : ixN n i = some j) : seqIndex? i n = some j ∧ j < n ∧ -(n : Int) ≤ i ∧ i < n := by
  unfold ixN at h
  by_cases h0 : 0 ≤ i
  · rw [if_pos h0] at h
    by_cases h1 : i < n
    · rw [if_pos h1] at h
      have e : i.toNat = j := Option.some.inj h
      exact ⟨by rw [seqIndex_of h0 h1, e], by omega, by omega, h1⟩
    · rw [if_neg h1] at h; cases h
  · rw [if_neg h0] at h
    by_cases h1 : -(n : Int) ≤ i
    · rw [if_pos h1] at h
      have e : (i + n).toNat = j := Option.some.inj h
      exact ⟨by rw [seqIndex_neg (by omega) h1, e], by omega, h1, by omega⟩
    · rw [if_neg h1] at h; cases h
theorem atI_get {α : Type} {xs : List α} {i : Int} {v : α} (h : atI xs i = some v) : ∃ j, seqIndex? i xs.length = some j ∧ xs[j]? = some v ∧ j < xs.length ∧ -(xs.length : Int) ≤ i ∧ i < xs.length := by
  unfold atI at h
  cases e : ixN xs.length i with
  | none => rw [e] at h; cases h
  | some j =>
    rw [e] at h
    obtain ⟨h1, h2, h3, h4⟩ := ixN_seq e
    exact ⟨j, h1, h, h2, h3, h4⟩
theorem atI_nat {α : Type} {xs : List α} {j : Nat} {v : α} (h : xs[j]? = some v) : atI xs (j : Int) = some v := by
  have hj : j < xs.length := (List.getElem?_eq_some_iff.mp h).1
  have e : ixN xs.length (j : Int) = some j := by
    unfold ixN
    rw [if_pos (by omega), if_pos (by omega)]; simp
  unfold atI; rw [e]; exact h
def PlainIx (b : Expr) : Prop := ∀ o i, subscripted b false o i = operate [o, i] (getItem o i)
def IxR (X : Cx) (r : R2) : Prop :=
  ∀ (value slice : Expr) (pins : List (Addr × Obj)) (s : Shared) (σ : St) (H : Hp) (x y : V) (v u : Value) (Q : VK), Inv X pins σ H s → RelV x v → RelV y u → r x y H Q →
    subscripted slice false v u = operate [v, u] (getItem v u) → wpAny (model X.prog X.w) X.A (subscriptTail value slice v u) (EP X pins σ Q) X.xe s
def MtR (X : Cx) (id : String) (r : V → List V → Hp → VK → Prop) : Prop :=
  ∀ (pins : List (Addr × Obj)) (s : Shared) (σ : St) (H : Hp) (x : V) (xs : List V) (v : Value) (us : List Value) (Q : VK), Inv X pins σ H s → RelV x v → Vals xs us → r x xs H Q →
    wpAny (model X.prog X.w) X.A (call (.builtin id) (v :: us)) (EP X pins σ Q) X.xe s
section
variable {X : Cx} {a b : Expr} {ta tb : TE} {pos : Pos}
theorem pe_ix {r : R2} (hr : IxR X r) (ha : PE X a ta) (hb : PE X b tb) (hs : PlainIx b) : PE X (.Subscript a b pos) (tOp r ta tb) := by
  intro pins s σ H Q I h
  exact Subscript_ (binT ha hb I h fun v u s2 x y H2 I2 rx ry q => hr a b pins s2 σ H2 x y v u Q I2 rx ry q (hs _ _))
def rIxL (K : PySem.W.Frag) : R2 := fun x y H Q => ∃ p xs i v, x = .ref p ∧ y = .int i ∧ SqL K H p xs ∧ atI xs i = some v ∧ Q v H
theorem ix_list : IxR X (rIxL X.K) := by
  intro value slice pins s σ H x y v u Q I rx ry h hs
  obtain ⟨p, xs, i, z, rfl, rfl, hq, he, q⟩ := h
  cases rx
  obtain ⟨t, rfl⟩ := ry
  obtain ⟨its, r, pl, hz⟩ := I.list hq
  obtain ⟨j, h1, h2, h3, h4, h5⟩ := atI_get he
  obtain ⟨w, ew, rw'⟩ := r.get h2
  have hl := r.length
  have hn := line63
  have fin : EP X pins σ Q w s := ⟨z, H, I, rw', q⟩
  by_cases h0 : 0 ≤ i
  · have hj : i.toNat = j := by
      rw [seqIndex_of h0 h5] at h1
      exact Option.some.inj h1
    exact item_listR pl.isList h0 (by omega) (by rw [hj]; simpa using ew) fin hs
  · have hj : (i + (its.toArray.size : Int)).toNat = j := by
      rw [seqIndex_neg (by omega) h4] at h1
      rw [List.size_toArray, ← hl]
      exact Option.some.inj h1
    exact subscriptTail_builtinR (x := w) pl.isList.typeIs slot_list_getitem.lookup
      (wpAny_getItem_list_neg (Q := fun r s' => r = w ∧ EP X pins σ Q r s') pl.isList (by omega) (by rw [List.size_toArray] <;> omega) (by omega) (by rw [hj]; simpa using ew) ⟨rfl, fin⟩) hs
theorem mapSeq_set (its : List Value) (n j : Nat) (u : Value) : Obj.mapSeq (·.setIfInBounds j u) { cls := .type "list", data := .seq its.toArray n } = { cls := .type "list", data := .seq (its.set j u).toArray n } := by
  simp [Obj.mapSeq]
theorem Inv.lst {pins : List (Addr × Obj)} {σ : St} {H : Hp} {s : Shared} {p : Addr} {xs : List V} (I : Inv X pins σ H s) (h : H p = some (.lst xs)) :
    ∃ (its : List Value) (n : Nat), Vals xs its ∧ s.heap.get? p = some { cls := .type "list", data := .seq its.toArray n } ∧ xs.length ≤ sizeLine := by
  obtain ⟨z, its, n, r, e⟩ := I.hok p _ h
  exact ⟨its, n, r, e, z⟩
theorem Inv.lstUpd {pins : List (Addr × Obj)} {σ : St} {H : Hp} {s : Shared} {p : Addr} {xs ys : List V} {its its' : List Value} {n n' : Nat} {f : Obj → Obj} (I : Inv X pins σ H s) (h : H p = some (.lst xs))
    (ho : s.heap.get? p = some { cls := .type "list", data := .seq its.toArray n }) (hf : f { cls := .type "list", data := .seq its.toArray n } = { cls := .type "list", data := .seq its'.toArray n' }) (r : Vals ys its') (hz : ys.length ≤ sizeLine) (t : Nat) :
    Inv X pins σ (upd H p (.lst ys)) { s with heap := s.heap.update p f, toks := t } := by
  have e : (s.heap.update p f).get? p = some { cls := .type "list", data := .seq its'.toArray n' } := by
    rw [Heap.get?_update_self f ho (by rw [hf] <;> rfl), hf]
  refine I.write (x := p) (e := p) (by rw [h]; trivial) (.inl rfl) (fun b u hb q => (Heap.get?_update_other _ _ (Ne.symm hb)).trans q) ⟨_, e⟩ ?_
  exact ⟨hz, its', n', r, e⟩
def rSetL : V → V → V → Hp → (Hp → Prop) → Prop := fun o i v H Q => ∃ p xs k j, o = .ref p ∧ i = .int k ∧ H p = some (.lst xs) ∧ ixN xs.length k = some j ∧ Q (upd H p (.lst (xs.set j v)))
theorem set_list : PSet X rSetL := by
  intro pins s σ H o i v ov iv u Q I ro ri rv h
  obtain ⟨p, xs, k, j, rfl, rfl, hp, hj, q⟩ := h
  cases ro
  obtain ⟨t, rfl⟩ := ri
  obtain ⟨its, n, r, ho, hz⟩ := I.lst hp
  obtain ⟨h1, h2, h3, h4⟩ := ixN_seq hj
  have hl := r.length
  have hn := line63
  have I' : Inv X pins σ (upd H p (.lst (xs.set j v))) { s with heap := s.heap.update p (Obj.mapSeq (·.setIfInBounds j u)) } :=
    I.lstUpd hp ho (mapSeq_set its n j u) (r.set rv j) (by rw [List.length_set]; exact hz) s.toks
  by_cases h0 : 0 ≤ k
  · have hk : k.toNat = j := by
      rw [seqIndex_of h0 h4] at h1
      exact Option.some.inj h1
    exact PySem.W.ki_setAt ho h0 (by omega) (by rw [List.size_toArray, ← hl]; exact h4) (by rw [hk]; exact ⟨_, I', q⟩)
  · have hk : (k + (its.toArray.size : Int)).toNat = j := by
      rw [seqIndex_neg (by omega) h3] at h1
      rw [List.size_toArray, ← hl]
      exact Option.some.inj h1
    exact PySem.W.ki_setBack ho (by omega) (by rw [List.size_toArray, ← hl]; exact h3) (by omega) (by rw [hk]; exact ⟨_, I', q⟩)
theorem slice_bounds (lo hi : Option Int) (n : Nat) : (sliceBounds lo hi none n).1 = ((HT.sIx n 0 lo : Nat) : Int) ∧ (sliceBounds lo hi none n).2.1 = ((HT.sIx n n hi : Nat) : Int) ∧ (sliceBounds lo hi none n).2.2 = 1 := by
  refine ⟨?_, ?_, rfl⟩
  · cases lo with
    | none => simp [sliceBounds, HT.sIx]
    | some i =>
      simp only [sliceBounds, HT.sIx, Option.getD_none, show (1 : Int) > 0 by decide, if_true]
      by_cases h : i < 0
      · simp only [h, if_true] <;> omega
      · simp only [h, if_false] <;> omega
  · cases hi with
    | none => simp [sliceBounds, HT.sIx]
    | some i =>
      simp only [sliceBounds, HT.sIx, Option.getD_none, show (1 : Int) > 0 by decide, if_true]
      by_cases h : i < 0
      · simp only [h, if_true] <;> omega
      · simp only [h, if_false] <;> omega
theorem slicePick_cut (its : List Value) (lo hi : Option Int) : slicePick its.toArray lo hi none = ((its.drop (HT.sIx its.length 0 lo)).take (HT.sIx its.length its.length hi - HT.sIx its.length 0 lo)).toArray := by
  obtain ⟨h1, h2, h3⟩ := slice_bounds lo hi its.toArray.size
  unfold slicePick
  rw [h1, h2, h3]
  simp only [sliceRange_one, pick_run, List.size_toArray] <;> rfl
def rSlL (K : PySem.W.Frag) : V → Option Int → Option Int → Hp → VK → Prop := fun x lo hi H Q => ∃ a xs, x = .ref a ∧ SqL K H a xs ∧ ∀ p, H p = none → Q (.ref p) (upd H p (.lst (cutV xs lo hi)))
theorem sl_list : SlR X (rSlL X.K) := by
  intro pins s σ H x v vl vu lo hi sl Q I rx hs pl pu h
  obtain ⟨a, xs, rfl, hx, q⟩ := h
  cases rx
  obtain ⟨its, r, ht, hz⟩ := I.list hx
  have hlen := r.length
  refine ⟨"list", _, slot_list_getitem.lookup, ht.isList.typeIs, ?_⟩
  refine wpAny_getItem_list_slice ht.isList hs pl pu .none (by simp) ?_ (by rw [List.size_toArray] <;> omega)
  rw [slicePick_cut, ← hlen]
  refine ⟨.ref s.heap.objs.size, _, I.laid (t' := s.toks) (o := .lst (cutV xs lo hi)) (fun b ob q => Heap.get?_push_of_some _ q) (Nat.le_refl _) ?_, rfl, q _ (I.hok.fresh (Nat.le_refl _))⟩
  exact ⟨Nat.le_trans (cutV_length xs lo hi) hz, _, 0, (r.drop (HT.sIx xs.length 0 lo)).take (HT.sIx xs.length xs.length hi - HT.sIx xs.length 0 lo), Heap.get?_push_size _ rfl⟩
theorem call_len_seq : CallR X (.builtin "len") (fun xs H Q => ∃ p ys, xs = [.ref p] ∧ (SqL X.K H p ys ∨ SqT X.K H p ys) ∧ Q (.int ys.length) H) := by
  intro pins s σ H xs us Q I r h
  obtain ⟨p, ys, rfl, hq, q⟩ := h
  obtain ⟨u, rfl, rx⟩ := vals1 r
  cases rx
  have hn := line63
  rcases hq with hq | hq
  · obtain ⟨its, r', pl, hz⟩ := I.list hq
    have hlen := r'.length
    exact Calls.call_len_list pl.isList (by simp only [List.size_toArray] <;> omega) ⟨.int ys.length, H, I.tok _, ⟨s.toks + 1, by rw [List.size_toArray, hlen]⟩, q⟩
  · obtain ⟨its, r', pl, hz⟩ := I.tuple hq
    have hlen := r'.length
    exact len_tuple pl (by simp only [List.size_toArray] <;> omega) ⟨.int ys.length, H, I.tok _, ⟨s.toks + 1, by rw [List.size_toArray, hlen]⟩, q⟩
theorem call_list_of : CallR X (.type "list") (fun xs H Q => ∃ p ys, xs = [.ref p] ∧ (SqL X.K H p ys ∨ SqT X.K H p ys) ∧ ∀ l, H l = none → Q (.ref l) (upd H l (.lst ys))) := by
  intro pins s σ H xs us Q I r h
  obtain ⟨p, ys, rfl, hq, q⟩ := h
  obtain ⟨u, rfl, rx⟩ := vals1 r
  cases rx
  have fin : ∀ (its : List Value), Vals ys its → ys.length ≤ sizeLine → ∀ (h' : Heap) (c' : Nat), (∀ b o', s.heap.get? b = some o' → h'.get? b = some o') →
      h'.get? s.heap.objs.size = some { cls := .type "list", dict := none, data := .seq its.toArray c', slots := #[] } → EP X pins σ Q (.ref s.heap.objs.size) { s with heap := h' } := fun its r' hz h' c' kp e =>
    ⟨.ref s.heap.objs.size, _, I.laid (t' := s.toks) kp (Nat.le_refl _) (show ObjOk X.prog X.w _ h' _ (.lst ys) from ⟨hz, its, c', r', e⟩), rfl, q _ (I.hok.fresh (Nat.le_refl _))⟩
  rcases hq with hq | hq
  · obtain ⟨its, r', pl, hz⟩ := I.list hq
    have hlen := r'.length
    obtain ⟨o, ho, hc, n, hd⟩ := pl.isList
    exact call_list_seq p (.inl rfl) ho hc hd (fun h' c' kp e => fin its r' hz h' c' kp e) (by simp only [List.size_toArray] <;> omega)
  · obtain ⟨its, r', pl, hz⟩ := I.tuple hq
    have hlen := r'.length
    obtain ⟨o, ho, hc, n, hd⟩ := pl
    exact call_list_seq p (.inr rfl) ho hc hd (fun h' c' kp e => fin its r' hz h' c' kp e) (by simp only [List.size_toArray] <;> omega)
theorem call_tuple_of : CallR X (.type "tuple") (fun xs H Q => ∃ p ys, xs = [.ref p] ∧ ((SqL X.K H p ys ∧ ∀ l, H l = none → Q (.ref l) (upd H l (.tup ys))) ∨ (SqT X.K H p ys ∧ Q (.ref p) H))) := by
  intro pins s σ H xs us Q I r h
  obtain ⟨p, ys, rfl, h⟩ := h
  obtain ⟨u, rfl, rx⟩ := vals1 r
  cases rx
  rcases h with ⟨hq, q⟩ | ⟨hq, q⟩
  · obtain ⟨its, r', pl, hz⟩ := I.list hq
    have hlen := r'.length
    refine call_tuple_list pl.isList (fun h' kp => ?_) (by simp only [List.size_toArray] <;> omega)
    have I1 : Inv X pins σ H { s with heap := h' } := I.kept (t' := s.toks) kp
    have I2 : Inv X pins σ (upd H h'.objs.size (.tup ys)) { s with heap := h'.push { cls := .type "tuple", data := .seq its.toArray } } :=
      I1.laid (t' := s.toks) (fun b o e => Heap.get?_push_of_some _ e) (Nat.le_refl _) (show ObjOk X.prog X.w _ _ _ (.tup ys) from ⟨hz, its, r', IsTup.new _ _⟩)
    exact ⟨.ref h'.objs.size, _, I2, rfl, q _ (I1.hok.fresh (Nat.le_refl _))⟩
  · obtain ⟨its, r', pl, hz⟩ := I.tuple hq
    exact call_tuple_same pl ⟨.ref p, H, I, rfl, q⟩
def tyV (K : PySem.W.Frag) (T : String) (x : V) (H : Hp) : Prop := match x with
  | .str _ => T = "str"
  | .int _ => T = "int"
  | .ref p => (T = "list" ∧ ∃ xs, SqL K H p xs) ∨ (T = "tuple" ∧ ∃ o, K.lookup p = some o ∧ o.cls = .type "tuple" ∧ o.dict = none) ∨
      (T = "dict" ∧ ((∃ kvs, H p = some (.dK kvs)) ∨ ∃ kvs, H p = some (.dT kvs))) ∨ (T = "set" ∧ ∃ S n, H p = some (.set S n))
  | _ => False
theorem tyV_is {pins : List (Addr × Obj)} {σ : St} {H : Hp} {s : Shared} {T : String} {x : V} {v : Value} (I : Inv X pins σ H s) (r : RelV x v) (ty : tyV X.K T x H) :
    s.TypeIs v T ∧ ∀ a, v = .ref a → ∃ ob, s.heap.get? a = some ob ∧ ob.dict = none := by
  cases x with
  | str z =>
    obtain ⟨t, rfl⟩ := r
    cases (show T = "str" from ty)
    exact ⟨typeIs_str s z t, fun _ e => nomatch e⟩
  | int i =>
    obtain ⟨t, rfl⟩ := r
    cases (show T = "int" from ty)
    exact ⟨typeIs_int s i t, fun _ e => nomatch e⟩
  | ref p =>
    cases r
    rcases ty with ⟨rfl, xs, hq⟩ | ⟨rfl, o, hk, hc, hd⟩ | ⟨rfl, hk⟩ | ⟨rfl, S, n, hk⟩
    · obtain ⟨its, _, pl, _⟩ := I.list hq
      refine ⟨pl.isList.typeIs, fun a e => ?_⟩
      cases e
      obtain ⟨o, n, e, c, hd, _⟩ := pl
      exact ⟨o, e, hd⟩
    · refine ⟨⟨o, I.kIn p o hk, hc⟩, fun a e => ?_⟩
      cases e
      exact ⟨o, I.kIn _ o hk, hd⟩
    · have z : ∃ o, s.heap.get? p = some o ∧ o.ExactDict := by
        rcases hk with ⟨kvs, hk⟩ | ⟨kvs, hk⟩
        · obtain ⟨_, _, _, _, o, _, _, e, ex, _⟩ := I.hok p _ hk
          exact ⟨o, e, ex⟩
        · obtain ⟨_, _, _, _, o, _, _, e, ex, _⟩ := I.hok p _ hk
          exact ⟨o, e, ex⟩
      obtain ⟨o, e, ex⟩ := z
      refine ⟨⟨o, e, ex.1⟩, fun a e2 => ?_⟩
      cases e2
      exact ⟨o, e, ex.2.1⟩
    · obtain ⟨o, _, _, _, e, ex, _⟩ := I.hok p _ hk
      refine ⟨⟨o, e, ex.1⟩, fun a e2 => ?_⟩
      cases e2
      exact ⟨o, e, ex.2.1⟩
  | _ => exact False.elim ty
def tBM (K : PySem.W.Frag) (T : String) (r : V → List V → Hp → VK → Prop) (to : TE) (t : TA) : TE := fun σ H Q => to σ H fun x H1 => tyV K T x H1 ∧ t σ H1 fun xs H2 => r x xs H2 Q
variable {o e : Expr} {es : List Expr} {to : TE} {t : TA} {name : Str} {apos cpos : Pos} {T id : String} {r : V → List V → Hp → VK → Prop}
theorem pe_bm (pa : PlainAttrs T) (slot : Slot T name id) (hty : typeOf (.builtin id) = pure (.type "method_descriptor")) (hm : MtR X id r) (ho : PE X o to) (ha : PA X (e :: es) t)
    (hbase : attributeBase o name X.env (eval o X.env) = eval o X.env := by rfl)
    (hfew : ((backTo cpos (starEach (e :: es) X.env)).all (fun x => !x.1) && (backToKw cpos (keywordEach [] X.env)).all (fun x => x.1.isSome)
      && decide ((e :: es).length + ([] : List Keyword).length + (if ([] : List Keyword).isEmpty then 0 else 1) < 30)) = true := by rfl)
    (hline : (apos.endLine == cpos.line) = true := by rfl) (hs : starEach (e :: es) X.env = (false, eval e X.env) :: starEach es X.env := by rfl) (hplain : (backTo cpos (starEach es X.env)).any (·.1) = false := by rfl) :
    PE X (.Call (.Attribute o name apos) (e :: es) [] cpos) (tBM X.K T r to t) := by
  intro pins s σ H Q I h
  refine wpAny_Call_method_late hbase hfew hline rfl (thn (ho pins s σ H _ I h) fun v s1 ⟨x, H1, I1, r1, ty, q1⟩ => ?_)
  obtain ⟨h1, h2⟩ := tyV_is I1 r1 ty
  refine ⟨T, id, pa, slot, hty, h1, h2, ?_⟩
  have hA := ha cpos pins s1 σ H1 _ I1 q1
  rw [hs] at hA ⊢
  refine Calls.callWith_builtin (by show (false || (backTo cpos (starEach es X.env)).any (·.1)) = false; rw [hplain] <;> rfl) (Calls.evalArgs_plain ?_)
  exact thn hA fun us s2 ⟨vs, H2, I2, r2, q2⟩ => hm pins s2 σ H2 x vs v us Q I2 r1 r2 q2
end
end L2
namespace L2
open PySem PySem.Spec PyProof.Rows
def MtM (X : Cx) (id : String) (r : V → List V → Hp → VK → Prop) : Prop :=
  ∀ (pins : List (Addr × Obj)) (s : Shared) (σ : St) (H : Hp) (x : V) (xs : List V) (v : Value) (us : List Value) (Q : VK), Inv X pins σ H s → RelV x v → Vals xs us → r x xs H Q →
    wpAny (model X.prog X.w) X.A (call (.builtin id) (v :: us)) (EP X pins σ Q) X.xe s
theorem Vals.one : ∀ {x : V} {us : List Value}, Vals [x] us → ∃ u, us = [u] ∧ RelV x u
  | _, _, .cons r .nil => ⟨_, rfl, r⟩
theorem Vals.zero : ∀ {us : List Value}, Vals [] us → us = []
  | _, .nil => rfl
section
variable {X : Cx} {pins : List (Addr × Obj)} {σ : St} {H : Hp} {s : Shared} {l b : Addr} {xs ys zs : List V}
theorem Inv.lset {its its' : List Value} {n : Nat} {f : Array Value → Array Value} {t' : Nat} (I : Inv X pins σ H s) (hH : H l = some (.lst xs))
    (e : s.heap.get? l = some { cls := .type "list", data := .seq its.toArray n }) (hf : f its.toArray = its'.toArray) (hv : Vals ys its') (hz : ys.length ≤ sizeLine) :
    Inv X pins σ (upd H l (.lst ys)) { s with heap := s.heap.update l (Obj.mapSeq f), toks := t' } := by
  have q := PySem.IsL.update e f
  rw [hf] at q
  refine I.write (x := l) (e := l) (by rw [hH]; exact trivial) (.inl rfl) (fun b' u hb hu => (Heap.get?_update_other s.heap (Obj.mapSeq f) (Ne.symm hb)).trans hu) ⟨_, q⟩ ?_
  exact ⟨hz, its', _, hv, q⟩
theorem Inv.lnew {its : List Value} {t' : Nat} (I : Inv X pins σ H s) (hv : Vals ys its) (hz : ys.length ≤ sizeLine) :
    Inv X pins σ (upd H s.heap.objs.size (.lst ys)) { s with heap := s.heap.push { cls := .type "list", data := .seq its.toArray }, toks := t' } :=
  I.laid (fun _ _ q => Heap.get?_push_of_some _ q) (Nat.le_refl _) ⟨hz, its, 0, hv, Heap.get?_push_size _ rfl⟩
theorem Inv.fresh (I : Inv X pins σ H s) : H s.heap.objs.size = none := I.hok.fresh (Nat.le_refl _)
theorem Inv.lstM (I : Inv X pins σ H s) (hH : H l = some (.lst xs)) : xs.length ≤ sizeLine ∧ ∃ (its : List Value) (n : Nat), Vals xs its ∧ xs.length = its.length ∧ s.heap.get? l = some { cls := .type "list", data := .seq its.toArray n } := by
  obtain ⟨z, its, n, r, e⟩ := I.hok l _ hH
  exact ⟨z, its, n, r, r.length, e⟩
end
section
variable {X : Cx}
def rAppend : V → List V → Hp → VK → Prop := fun x vs H Q => ∃ l xs y, x = .ref l ∧ vs = [y] ∧ H l = some (.lst xs) ∧ xs.length < sizeLine ∧ Q .non (upd H l (.lst (xs ++ [y])))
theorem mt_append : MtM X "list.append" rAppend := by
  intro pins s σ H x vs v us Q I rx rv h
  obtain ⟨l, xs, y, rfl, rfl, hH, hz, q⟩ := h
  cases rx
  obtain ⟨u, rfl, ru⟩ := rv.one
  obtain ⟨z, its, n, r, hl, e⟩ := I.lstM hH
  refine call_meets F.slot_list_append ⟨_, e, rfl⟩ F.entry_list_append (F.args_list_append_2 _ _) (PySem.list_append l its.toArray n u (by rw [List.size_toArray]; omega)) ⟨e, ?_⟩
  refine ⟨.non, _, I.lset (its' := its ++ [u]) hH e (by simp) (r.append (.cons ru .nil)) ?_, rfl, q⟩
  rw [List.length_append, List.length_singleton]
  omega
def rCat : R2 := fun x y H Q => ∃ l b xs zs, x = .ref l ∧ y = .ref b ∧ H l = some (.lst xs) ∧ H b = some (.lst zs) ∧ xs.length + zs.length ≤ sizeLine ∧ ∀ p, H p = none → Q (.ref p) (upd H p (.lst (xs ++ zs)))
theorem op_cat : OpR X (binaryOp .Add) rCat := by
  intro pins s σ H x y v u Q I rx ry h
  obtain ⟨l, b, xs, zs, rfl, rfl, hH, hB, hz, q⟩ := h
  cases rx
  cases ry
  obtain ⟨z, its, n, r, hl, e⟩ := I.lstM hH
  obtain ⟨z2, its2, n2, r2, hl2, e2⟩ := I.lstM hB
  refine PySem.P.add_list e e2 ?_ (by rw [List.size_toArray, List.size_toArray]; omega)
  have ea : its.toArray ++ its2.toArray = (its ++ its2).toArray := by simp
  rw [ea]
  exact ⟨.ref _, _, I.lnew (t' := s.toks) (r.append r2) (by rw [List.length_append]; omega), rfl, q _ I.fresh⟩
end
end L2
namespace Att
open PySem PySem.W PySem.Calls PyProof.Rows
theorem ints_of_wellAll {P : Params} {h : Heap} : ∀ (ns : List Int) (vs : List Value), WellAll P h vs (ns.map WData.int) → IntsAre vs ns := by
  intro ns
  induction ns with
  | nil =>
    intro vs w
    rw [List.map_nil] at w
    cases w
    exact .nil
  | cons n ns ih =>
    intro vs w
    rw [List.map_cons] at w
    cases w with
    | cons a b =>
      cases a
      exact .cons _ _ (ih _ b)
theorem script_of {l : OpenLaw} {n : Nat} (hn : l.most = some n) {P : Params} {h : Heap} {args : List WData} {vals : List Value}
    (hpre : l.row.toRowW.claim.pre args = true) (hwl : WellAll P h vals args) :
    ∃ a vs ns, vals = [Value.ref a] ∧ args = [WData.list (ns.map WData.int)] ∧ h.get? a = some { cls := .type "list", data := .seq vs.toArray } ∧ IntsAre vs ns ∧ ns.length ≤ n := by
  have hsh : WShape.hasAll [] args [.list .int] = true := (pre_splitW hpre).1
  have hc : l.pre.holds [] { args := args } = true := (pre_splitW hpre).2
  obtain ⟨d, r, rfl, h1, h2⟩ := hasAllW_cons hsh
  obtain rfl := hasAllW_nil h2
  obtain ⟨xs, rfl, h3⟩ := hasW_list h1
  obtain ⟨ns, rfl⟩ := items_int h3
  have hlen : ns.length ≤ n := by
    unfold OpenLaw.pre at hc
    have h4 : (WTm.not (.lt (.lit (.int (n : Int))) (.len (.arg 0)))).holds [] { args := [.list (ns.map .int)] } = true := by
      have h4 := (holds_andW hc).1
      rw [hn] at h4
      exact h4
    have h5 := condW_of h4 (w_not (w_lt w_lit (w_len_list (w_arg rfl))))
    rw [List.length_map] at h5
    refine Nat.le_of_not_lt fun q => ?_
    have q' : (n : Int) < ((ns.length : Nat) : Int) := by omega
    first
      | (rw [decide_eq_true q'] at h5; exact absurd h5 (by decide))
      | (simp at h5; omega)
  cases hwl with
  | cons w1 w2 =>
    cases w2
    cases w1 with
    | list ho hall => exact ⟨_, _, ns, rfl, rfl, ho, ints_of_wellAll ns _ hall, hlen⟩
theorem post_true (l : OpenLaw) (args : List WData) : l.row.toRowW.claim.post args (.bool true) args = true :=
  postW_of (r := l.row.toRowW) (X := (true == true))
    (show WShape.has [] (.bool true) .bool = true by first | rfl | decide | simp [WShape.has, WShape.arms, WShape.armsAll])
    (show (WTm.eq .res (.lit (.bool true))).value [] { args := args, res := some (.bool true), after := args } = some (.bool (true == true)) from w_eq_bool (w_res rfl) w_lit) rfl
theorem attach_call {l : OpenLaw} {n : Nat} {q : Program} {loose : List Str} {XP : (Str → Option Value) → Heap → Prop} {YP : World → Heap → Prop} {d : DefRec}
    (hn : l.most = some n) (hdf : d.params.defaults = [])
    (call : ∀ (w : World) (s₀ s₁ : Shared) (mg mb : Str → Option Value) (fa : Addr) (o : Obj) (pm cd doc : Value) (a : Addr) (vs : List Value) (ns : List Int),
      Ground q loose [] XP w s₀ mg mb s₁.heap → YP w s₁.heap →
      s₁.heap.get? fa = some o → o.data = .func (docDef d.name d.params d.body d.scope pm cd doc) → s₁.heap.CodeRec cd d.name → mg d.name = some (.ref fa) →
      s₁.heap.get? a = some { cls := .type "list", data := .seq vs.toArray } → IntsAre vs ns → ns.length ≤ n → s₁.gens = #[] →
      codeAny (model l.prog w) callerA (.call (.ref fa) ⟨[.ref a], []⟩) (fun r s' => r = .ok (.ret (.bool true)) ∧ OldK s₁.heap s'.heap ∧ s'.os = s₁.os ∧ AllBare s'.gens) s₁) :
    WalkO q loose XP YP l.row.toRowW d [] (fun f vs => PySem.call f vs) := by
  intro w s₀ s₁ mg mb G Y fa o pm cd doc dV kV ho hd hcd hD hmg hg args vals as hpre hlay hrd hwl hlo
  obtain rfl : dV = .none := Dflts.none hD hdf
  obtain rfl : kV = .none := Dflts.noKw hD
  obtain ⟨a, vs, ns, rfl, rfl, hobj, hints, hlen⟩ := script_of hn hpre hwl
  refine enter_call (codeAny_mono (call w s₀ s₁ mg mb fa o pm cd doc a vs ns G Y ho (fd_plain hd) hcd hmg hobj hints hlen hg) fun r s' hq => ?_)
  obtain ⟨rfl, h2, h3, h4⟩ := hq
  exact ⟨.inl ⟨.bool true, .bool true, [], rfl, fun _ => rfl, .bool true, post_true l _, fun _ => ⟨List.Pairwise.nil, fun _ hm => (nomatch hm)⟩⟩, h2, h3, h4⟩
end Att
namespace L2
open PySem PySem.Spec PyProof.Rows
theorem vals_ints : ∀ {vs : List Value} {ns : List Int}, IntsAre vs ns → Vals (ns.map V.int) vs
  | _, _, .nil => .nil
  | _, _, .cons n t h => .cons ⟨t, rfl⟩ (vals_ints h)
def Only (H : Hp) : Prop := ∀ b, H b = none ∨ ∃ o xs, H b = some (.frz o (.lst xs))
theorem law_call {P : Program} {w : World} {K : PySem.W.Frag} {mg mb : Str → Option Value} {CX : CXT} {k : Nat} {fa a : Addr} {fd : FuncData} {x : Str} {sp : Sp} {s₁ : Shared} {vs : List Value} {ns : List Int}
    (KX : K.In s₁.heap) (hns : s₁.heap.Ns mainGlobals mg) (hb : s₁.heap.Ns builtinsNs mb) (hbb : ∀ x : Str, x ≠ "__name__" → mb x = bootBuiltins x) (hlim : s₁.heap.NoLimit) (hg : s₁.gens = #[])
    (ha : s₁.heap.get? a = some { cls := .type "list", data := .seq vs.toArray }) (hi : IntsAre vs ns) (hl : ns.length ≤ sizeLine) (hr : Room k callerA)
    (F : ∀ base : Heap, K.In base → base.Ns mainGlobals mg → FnOk P w K mg base CX k fa fd [x] sp) (hbind : ∀ (s : Shared) (u : Value), BindsTo s fd ⟨[u], []⟩ [(x, u)])
    (hsp : ∀ H : Hp, Only H → SqL K H a (ns.map V.int) → sp [.ref a] H (fun v _ => v = .bl true) fun _ _ _ => False)
    (hCX : ∀ H e s', CX [] H s₁ (fun _ _ _ => False) e s' → False) :
    codeAny (model P w) callerA (.call (.ref fa) ⟨[.ref a], []⟩) (fun r s' => r = .ok (.ret (.bool true)) ∧ OldK s₁.heap s'.heap ∧ s'.os = s₁.os ∧ AllBare s'.gens) s₁ := by
  have rv := vals_ints hi
  have lenV := hi.length
  -- from an abstract heap in which nothing but the script may be tracked
  have core : ∀ H : Hp, Only H → SqL K H a (ns.map V.int) → HOk P w H s₁.heap → (∀ b, H b ≠ none → b = a) → (H a ≠ none → K.lookup a = none) →
      codeAny (model P w) callerA (.call (.ref fa) ⟨[.ref a], []⟩) (fun r s' => r = .ok (.ret (.bool true)) ∧ OldK s₁.heap s'.heap ∧ s'.os = s₁.os ∧ AllBare s'.gens) s₁ := by
    intro H hO hS hok hA hK
    have base_of : ∀ {b : Addr} {o : Obj}, s₁.heap.get? b = some o → H b = none → (hidT s₁.heap H).get? b = some o := fun e n => hidT_get e n
    have noA : ∀ {b : Addr} {o : Obj} {es : Array DictEntry} {ep : Nat}, s₁.heap.get? b = some o → o.data = .dict es ep → H b = none := fun {b o es ep} e d => by
      cases q : H b with
      | none => rfl
      | some u =>
        have e' : b = a := hA b (by rw [q]; simp)
        subst e'
        rw [ha] at e; cases e
        have d' : Data.seq vs.toArray _ = Data.dict es ep := d
        cases d'
    have nsK : ∀ {b : Addr} {m : Str → Option Value}, s₁.heap.Ns b m → (hidT s₁.heap H).Ns b m := fun {b m} ⟨o, es, ep, e, d, r⟩ => ⟨o, es, ep, base_of e (noA e d), d, r⟩
    have hKb : K.In (hidT s₁.heap H) := fun b o e => base_of (KX b o e) (by
      cases q : H b with
      | none => rfl
      | some u =>
        have e' : b = a := hA b (by rw [q]; simp)
        subst e'
        rw [hK (by rw [q]; simp)] at e; cases e)
    have hM : Mod K mg (hidT s₁.heap H) := ⟨hKb, nsK hns, ⟨mb, nsK hb, hbb⟩, let ⟨mc, h1, h2⟩ := hlim; ⟨mc, nsK h1, h2⟩⟩
    have e0 : Env0 P w K mg (hidT s₁.heap H) callerA [] s₁ H := ⟨rfl, hM, fun b o e => of_hidT e, Nat.le_of_eq (hidT_size _ _), trivial, fun b hb => absurd (show b ∈ ([] : List Addr) from hb) (by simp), hok, .of_eq hg⟩
    refine codeAny_mono ((F _ hKb (nsK hns)).run callerA [] s₁ H ⟨[.ref a], []⟩ [.ref a] [.ref a] _ _ hr e0 (hbind s₁ (.ref a)) (.cons rfl .nil) (hsp H hO hS)) fun r s' h => ?_
    cases r with
    | error e => exact (hCX H e s' h).elim
    | ok fl =>
      cases fl with
      | next => exact False.elim h
      | brk => exact False.elim h
      | cont => exact False.elim h
      | ret u =>
        obtain ⟨v, H', os, bare, un, hok', r', q⟩ := h
        have q' : v = .bl true := q
        subst q'
        obtain rfl : u = Value.bool true := r'
        refine ⟨rfl, OldK.of_keep fun b o e => ?_, os, bare⟩
        cases q : H b with
        | none => exact un.keep b o e q (by intro z; exact absurd (show b ∈ ([] : List Addr) from z) (by simp)) (by simp)
        | some u =>
          rcases hO b with z | ⟨ob, xs, z⟩
          · rw [q] at z; cases z
          · have z2 := un.frzs b ob _ z
            obtain ⟨e1, _⟩ := hok b _ z
            obtain ⟨e2, _⟩ := hok' b _ z2
            rw [e] at e1; cases e1
            exact e2
  cases hk : K.lookup a with
  | some o =>
    -- the script is one of the module's own objects
    have e := KX a o hk
    rw [ha] at e
    cases e
    refine core (fun _ => none) (fun _ => .inl rfl) (.inr ⟨_, vs.toArray, _, hk, rfl, rfl, rfl, by rw [List.size_toArray, lenV]; exact hl, by simpa using rv⟩) (fun b u z => by have z' : (none : Option HO) = some u := z; cases z') (fun b z => absurd rfl z) fun z => absurd rfl z
  | none =>
    refine core (fun b => if b = a then some (.frz { cls := .type "list", data := .seq vs.toArray } (.lst (ns.map V.int))) else none) (fun b => ?_) (.inl (.inr ⟨{ cls := .type "list", data := .seq vs.toArray }, if_pos rfl⟩)) (fun b u z => ?_) (fun b z => ?_) fun _ => hk
    · by_cases hb : b = a
      · exact .inr ⟨_, _, if_pos hb⟩
      · exact .inl (if_neg hb)
    · by_cases hb : b = a
      · have z' := (if_pos hb).symm.trans z
        cases z'
        subst hb
        exact ⟨ha, by rw [List.length_map]; exact hl, vs, _, rv, ha⟩
      · have z' := (if_neg hb).symm.trans z
        cases z'
    · by_cases hb : b = a
      · exact hb
      · exact absurd (if_neg hb) z
end L2
namespace L2
open PySem PySem.Spec PyProof.Rows
theorem walk_of {l : PySem.W.OpenLaw} {n k : Nat} {q : Program} {loose : List Str} {XP : (Str → Option Value) → Heap → Prop} {YP : World → Heap → Prop} {d : DefRec} {K : Params → PySem.W.Frag} {CX : World → CXT} {sp : World → Sp} {x : Str}
    (hn : l.most = some n) (hn2 : n ≤ sizeLine) (hdf : d.params.defaults = []) (hr : Room k callerA)
    (hY : ∀ (w : World) (h : Heap), YP w h → (K w.params).In h)
    (F : ∀ (w : World) (mg : Str → Option Value) (fa : Addr) (h : Heap), (K w.params).In h → h.Ns mainGlobals mg → mg d.name = some (.ref fa) →
      ∃ fd : FuncData, (∀ (s : Shared) (u : Value), BindsTo s fd ⟨[u], []⟩ [(x, u)]) ∧
        ∀ base : Heap, (K w.params).In base → base.Ns mainGlobals mg → FnOk l.prog w (K w.params) mg base (CX w) k fa fd [x] (sp w))
    (hsp : ∀ (w : World) (H : Hp) (a : Addr) (ns : List Int), ns.length ≤ n → Only H → SqL (K w.params) H a (ns.map V.int) → sp w [.ref a] H (fun v _ => v = .bl true) fun _ _ _ => False)
    (hCX : ∀ (w : World) (H : Hp) (s : Shared) (e : Value) (s' : Shared), CX w [] H s (fun _ _ _ => False) e s' → False) :
    PySem.W.WalkO q loose XP YP l.row.toRowW d [] (fun f vs => PySem.call f vs) := by
  refine Att.attach_call hn hdf fun w s₀ s₁ mg mb fa o pm cd doc a vs ns G Y ho hd hcd hmg hobj hints hlen hg => ?_
  have KX := hY w _ Y
  obtain ⟨fd, hb, hF⟩ := F w mg fa _ KX G.T.g hmg
  exact law_call KX G.T.g G.T.b G.T.builtins G.T.nolimit hg hobj hints (Nat.le_trans hlen hn2) hr hF hb (fun H hO hS => hsp w H a ns hlen hO hS) fun H e s' => hCX w H s₁ e s'
end L2
namespace L2
open PySem PySem.Spec PyProof.Rows
def defArgs (s : Stmt) : Arguments := match s with
  | .FunctionDef _ a _ _ _ _ _ _ _ _ => a
  | _ => { posonlyargs := [], args := [], vararg := none, kwonlyargs := [], kw_defaults := [], kwarg := none, defaults := [] }
def defBody (s : Stmt) : List Stmt := match s with
  | .FunctionDef _ _ b _ _ _ _ _ _ _ => b
  | _ => []
def defScope (s : Stmt) : Scope := match s with
  | .FunctionDef _ _ _ _ _ _ sc _ _ _ => sc
  | _ => { kind := .function, names := [], isGenerator := false, isCoroutine := false }
abbrev CX0 : CXT := fun _ _ _ _ _ _ => False
abbrev E0 : XK := fun _ _ _ => False
theorem pass0 {X : Cx} : Passes CX0 X E0 := fun _ _ _ _ _ _ _ h => h.elim
structure Fun (K : PySem.W.Frag) (x qual : Str) (st : Stmt) (f : Addr) (fd : FuncData) : Prop where
  ex : ∃ (oc : Value) (od : Option Addr) (kV doc pm : Value) (an : Option Addr) (cdv ct : Value) (osl : Array (Option Value)),
    fd = PySem.W.fnOf x qual (defArgs st) (defBody st) (defScope st) .none kV doc pm an cdv ct ∧ K.lookup f = some ⟨oc, od, .func fd, osl⟩ ∧ PySem.W.codeIn K cdv qual = true
  kp : PySem.W.keepIn K (.ref f) = true
section
variable {P : Program} {w : World} {K : PySem.W.Frag} {mg : Str → Option Value} {base : Heap}
theorem Fun.ok {x qual : Str} {st : Stmt} {f : Addr} {fd : FuncData} {N ps : List Str} {k : Nat} {sp : Sp} (F : Fun K x qual st f fd) (S : FnScope N ps (defScope st)) (len : ∀ vs H Q E, sp vs H Q E → vs.length = ps.length)
    (hbody : ∀ (cdv : Value) (A : Around) (outer : List Env) (s : Shared) (H : Hp) (vs : List V) (Q : VK) (E : XK), Room k (A.deeper (envOfC qual (defScope st) s.heap.objs.size f cdv)) → sp vs H Q E →
      ∃ t, PSs (cxOf CX0 P w K mg base N qual (defScope st) f cdv A outer s H E).nox (defBody st) t ∧ t { nx := fun _ H' => Q .non H', rt := Q } (start N vs) H) : FnOk P w K mg base CX0 (k + 1) f fd ps sp := by
  obtain ⟨oc, od, kV, doc, pm, an, cdv, ct, osl, rfl, lk, hcd⟩ := F.ex
  refine fn_of lk hcd S len fun A outer s H vs Q E hr hsp => ?_
  obtain ⟨t, h, q⟩ := hbody cdv A outer s H vs Q E hr hsp
  exact ⟨t, h.nox, q⟩
theorem Fun.binds {x qual : Str} {st : Stmt} {f : Addr} {fd : FuncData} {ps : List Str} (F : Fun K x qual st f fd)
    (h : ∀ (kV doc pm : Value) (an : Option Addr) (cdv ct : Value) (us : List Value), us.length = ps.length → bindArgs (PySem.W.fnOf x qual (defArgs st) (defBody st) (defScope st) .none kV doc pm an cdv ct) ⟨us, []⟩ = pure (ps.zip us)) : Binds K fd ps [] := by
  obtain ⟨oc, od, kV, doc, pm, an, cdv, ct, osl, rfl, lk, hcd⟩ := F.ex
  exact .all (h kV doc pm an cdv ct)
theorem fun_mk {x qual : Str} {st : Stmt} {f : Addr} {oc : Value} {od an : Option Addr} {osl : Array (Option Value)} {kV doc pm cdv ct : Value} (l : K.lookup f = some ⟨oc, od, .func (PySem.W.fnOf x qual (defArgs st) (defBody st) (defScope st) .none kV doc pm an cdv ct), osl⟩)
    (c : PySem.W.codeIn K cdv qual = true) (k : PySem.W.keepIn K (.ref f) = true) : Fun K x qual st f (PySem.W.fnOf x qual (defArgs st) (defBody st) (defScope st) .none kV doc pm an cdv ct) := ⟨⟨oc, od, kV, doc, pm, an, cdv, ct, osl, rfl, l, c⟩, k⟩
end
theorem hu_of {A : Around} {k : Nat} (hr : Room k A) : A.units + 1 < cLine := Nat.lt_of_le_of_lt (Nat.add_le_add_left (by decide : 1 ≤ 64) _) hr.units
theorem small1000 {n : Nat} (h : n ≤ 1000) : n < sizeLine := Nat.lt_of_le_of_lt h (by decide)
section
variable {X : Cx}
theorem pv (i : Nat) {x : Str} {pos : Pos} (hN : X.N[i]? = some x := by rfl) (hv : Vis X.env.scope x := by first | exact Or.inl rfl | exact Or.inr (Or.inl rfl) | exact Or.inr (Or.inr rfl)) (hd : (x == ("__debug__" : Str)) = false := by decide)
    (hcd : (x == ("__classdict__" : Str)) = false := by decide) : PE X (.Name x pos) (tVar i) := pe_var hN hv hd hcd
end
theorem iteF {A B : Prop} (h : B) : if false = true then A else B := by
  rw [if_neg Bool.false_ne_true]
  exact h
theorem iteT {A B : Prop} (h : A) : if true = true then A else B := by
  rw [if_pos rfl]
  exact h
theorem ite2 {c A B : Prop} [Decidable c] (h1 : c → A) (h2 : ¬ c → B) : if c then A else B := by
  by_cases h : c
  · rw [if_pos h]
    exact h1 h
  · rw [if_neg h]
    exact h2 h
theorem iteNS {c A B : Prop} [Decidable c] (hc : c) (h : B) : if (!decide c) = true then A else B := by
  rw [decide_eq_true hc]
  exact iteF h
def Same (H H' : Hp) : Prop := ∀ b o, H b = some o → H' b = some o
theorem Same.refl (H : Hp) : Same H H := fun _ _ h => h
theorem Same.trans {H H1 H2 : Hp} (a : Same H H1) (b : Same H1 H2) : Same H H2 := fun c o h => b c o (a c o h)
theorem Same.free {H H' : Hp} (e : Same H H') {l : Addr} (h : H' l = Option.none) : H l = Option.none := by
  cases q : H l with
  | none => rfl
  | some o =>
    rw [e l o q] at h
    cases h
theorem Same.seq {K : PySem.W.Frag} {H H' : Hp} {a : Addr} {xs : List V} (e : Same H H') (h : SqL K H a xs) : SqL K H' a xs := by
  rcases h with (h | ⟨o, h⟩) | h
  · exact .inl (.inl (e _ _ h))
  · exact .inl (.inr ⟨o, e _ _ h⟩)
  · exact .inr h
end L2
namespace Nd
open PySem PySem.Spec PyProof.Rows L2
def cxComp (X : Cx) (scope : Scope) (cl : List (Str × Addr)) (N : List Str) (fp : List Addr) (s : Shared) (H : Hp) : Cx where
  prog := X.prog
  w := X.w
  K := X.K
  mg := X.mg
  base := X.base
  A := X.A
  N := N
  s₀ := s
  H₀ := H
  env := compEnvC scope cl s.heap.objs.size X.env
  outer := X.stack
  stack := X.stack
  ex := fp
  fn := fun _ => false
  calm := X.calm
  pn := []
  xe := fun _ _ => False
section
variable {prog : Program} {w : World} {A : Around} {R : Result → Shared → Prop} {s : Shared}
theorem comp_turns {elt tg iter : Expr} {ifs : List Expr} {scope : Scope} {pos : Pos} {it acc : Value} {env : Env} (J : Nat → Shared → Prop)
    (turn : ∀ n s, J n s → wpAny (model prog w) A (pyNext it) (fun r s1 => match r with
        | none => R (.ok .next) s1
        | some v => wpAny (model prog w) A (letOwnedTupleGo tg it v) (fun _ s2 => wpAny (model prog w) A (assign tg env v) (fun _ s3 =>
            wpAny (model prog w) A (forIn ifs true fun c r => if r = true then (do
                let ok ← isTrue c env (eval c env)
                pure (ForInStep.yield ok)) else pure (ForInStep.yield r)) (fun ok s4 =>
              if ok = true then
                wpAny (model prog w) A (eval elt env) (fun x s5 => wpAny (model prog w) A (call (.builtin "list.append") [acc, x]) (fun _ s6 => ∃ m, m < n ∧ J m s6) (fun _ _ => False) s5) (fun _ _ => False) s4
              else ∃ m, m < n ∧ J m s4) (fun _ _ => False) s3) (fun _ _ => False) s2) (fun _ _ => False) s1) (fun _ _ => False) s)
    (n : Nat) (h : J n s) : codeAny (model prog w) A (.compLoop (.ListComp elt [⟨tg, iter, ifs, 0⟩] scope pos) 0 it acc env) R s := by
  refine codeAny_loop rfl J (fun n s hJ => ?_) n h
  show wpAny _ A (Sem.onRaise (compTurn (.ListComp elt [⟨tg, iter, ifs, 0⟩] scope pos) 0 it acc env) (fun x => do noteFrame x env; theTreesLotGoes x)) _ _ s
  refine wpAny_noted ?_
  rw [compTurn_list]
  refine wpAny_bind (wpAny_standAt (wpAny_bind (wpAny_mono (turn n s hJ) (fun r s1 h1 => ?_) fun _ _ z => z.elim)))
  cases r with
  | none => exact wpAny_pure h1
  | some v =>
    refine wpAny_bind (wpAny_mono h1 (fun _ s2 h2 => ?_) fun _ _ z => z.elim)
    refine wpAny_bind (wpAny_mono h2 (fun _ s3 h3 => ?_) fun _ _ z => z.elim)
    refine wpAny_bind (wpAny_mono h3 (fun ok s4 h4 => ?_) fun _ _ z => z.elim)
    cases ok with
    | false => exact wpAny_pure ⟨rfl, h4⟩
    | true =>
      refine wpAny_bind (wpAny_bind (wpAny_mono h4 (fun x s5 h5 => ?_) fun _ _ z => z.elim))
      exact wpAny_bind (wpAny_mono h5 (fun _ s6 h6 => wpAny_pure (wpAny_pure ⟨rfl, h6⟩)) fun _ _ z => z.elim)
end
section
variable {X : Cx} {pins : List (Addr × Obj)} {σ : L2.St} {H : Hp} {s : Shared} {scope : Scope} {cl : List (Str × Addr)} {fp : List Addr} {N : List Str}
structure CompScope (X : Cx) (scope : Scope) (cl : List (Str × Addr)) (x : Str) (ys : List Str) (js : List Nat) : Prop where
  clos : closureFor scope X.env = pure cl
  nocell : ∀ y ∈ scope.names, y.2 ≠ .cell
  kind : scope.kind = .function
  locs : ∀ y ∈ scope.names, y.2 = .local → scope.names.lookup y.1 = some .local
  own : scope.names.lookup x = some .local
  sub : ∀ y c, cl.lookup y = some c → X.env.cells.lookup y = some c
  has_ : (scope.names.all fun y => !(y.2 == NameKind.free) || (cl.lookup y.1).isSome) = true
  nd : (x :: ys).Nodup
  len : ys.length = js.length
  at_ : ∀ (k : Nat) (y : Str) (j : Nat), ys[k]? = some y → js[k]? = some j → X.N[j]? = some y ∧ scope.names.lookup y = some .free ∧ (X.env.kindOf y = some .cell ∨ X.env.kindOf y = some .free)
theorem CompScope.has {x : Str} {ys : List Str} {js : List Nat} (C : CompScope X scope cl x ys js) : ∀ y ∈ scope.names, y.2 = .free → (cl.lookup y.1).isSome = true := fun y hy e => by
  have h := List.all_eq_true.mp C.has_ y hy
  rw [e] at h
  simpa using h
theorem relabel_lookup {env : Env} {y : Str} {k : NameKind} : ∀ {names : List (Str × NameKind)},
    (names.map fun (n, k) => if (k == NameKind.free && env.scope.kind == .function && env.kindOf n == some .cell) then (n, NameKind.cell) else (n, k)).lookup y = some k →
    ∃ k0, names.lookup y = some k0 ∧ (k = k0 ∨ (k0 = .free ∧ k = .cell))
  | [], h => by simp at h
  | (n, k0) :: r, h => by
    have ih := @relabel_lookup env y k r
    rw [List.map_cons] at h
    by_cases hc : (k0 == NameKind.free && env.scope.kind == .function && env.kindOf n == some .cell) = true
    · have h' : List.lookup y ((n, NameKind.cell) :: (r.map fun (n, k) => if (k == NameKind.free && env.scope.kind == .function && env.kindOf n == some .cell) then (n, NameKind.cell) else (n, k))) = some k := by
        simpa [hc] using h
      cases hy : y == n with
      | true =>
        rw [List.lookup_cons, hy] at h'
        have e : k = NameKind.cell := by simpa using h'.symm
        refine ⟨k0, by rw [List.lookup_cons, hy], .inr ⟨?_, e⟩⟩
        rw [Bool.and_eq_true, Bool.and_eq_true] at hc
        exact eq_of_beq hc.1.1
      | false =>
        rw [List.lookup_cons, hy] at h'
        obtain ⟨q, e1, e2⟩ := ih h'
        exact ⟨q, by rw [List.lookup_cons, hy]; exact e1, e2⟩
    · have h' : List.lookup y ((n, k0) :: (r.map fun (n, k) => if (k == NameKind.free && env.scope.kind == .function && env.kindOf n == some .cell) then (n, NameKind.cell) else (n, k))) = some k := by
        simpa [hc] using h
      cases hy : y == n with
      | true =>
        rw [List.lookup_cons, hy] at h'
        exact ⟨k0, by rw [List.lookup_cons, hy], .inl (by simpa using h'.symm)⟩
      | false =>
        rw [List.lookup_cons, hy] at h'
        obtain ⟨q, e1, e2⟩ := ih h'
        exact ⟨q, by rw [List.lookup_cons, hy]; exact e1, e2⟩
theorem relabel_free {env : Env} {y : Str} : ∀ {names : List (Str × NameKind)}, names.lookup y = some .free →
    (names.map fun (n, k) => if (k == NameKind.free && env.scope.kind == .function && env.kindOf n == some .cell) then (n, NameKind.cell) else (n, k)).lookup y = some .cell ∨
    (names.map fun (n, k) => if (k == NameKind.free && env.scope.kind == .function && env.kindOf n == some .cell) then (n, NameKind.cell) else (n, k)).lookup y = some .free
  | [], h => by simp at h
  | (n, k0) :: r, h => by
    have ih := @relabel_free env y r
    show List.lookup y ((if (k0 == NameKind.free && env.scope.kind == .function && env.kindOf n == some .cell) = true then (n, NameKind.cell) else (n, k0)) :: _) = _ ∨ List.lookup y ((if (k0 == NameKind.free && env.scope.kind == .function && env.kindOf n == some .cell) = true then (n, NameKind.cell) else (n, k0)) :: _) = _
    by_cases hc : (k0 == NameKind.free && env.scope.kind == .function && env.kindOf n == some .cell) = true
    · rw [if_pos hc]
      cases hy : y == n with
      | true => exact .inl (by rw [List.lookup_cons, hy])
      | false =>
        rw [List.lookup_cons, hy] at h
        simp only [List.lookup_cons, hy]
        exact ih h
    · rw [if_neg hc]
      cases hy : y == n with
      | true =>
        rw [List.lookup_cons, hy] at h
        exact .inr (by rw [List.lookup_cons, hy]; exact h)
      | false =>
        rw [List.lookup_cons, hy] at h
        simp only [List.lookup_cons, hy]
        exact ih h
theorem lookup_mem {α β : Type} [BEq α] [LawfulBEq α] {y : α} {k : β} : ∀ {l : List (α × β)}, l.lookup y = some k → (y, k) ∈ l
  | [], h => by simp at h
  | (n, v) :: r, h => by
    cases hy : y == n with
    | true =>
      rw [List.lookup_cons, hy] at h
      have e := eq_of_beq hy
      subst e
      have : v = k := by simpa using h
      subst this
      exact List.mem_cons_self
    | false =>
      rw [List.lookup_cons, hy] at h
      exact List.mem_cons_of_mem _ (lookup_mem h)
theorem comp_ok {x : Str} {ys : List Str} {js : List Nat} (C : CompScope X scope cl x ys js) (I : Inv X pins σ H s) (hf : ∀ b ∈ fp, FpOk X pins H b) (ho : ∀ b ∈ fp, ∃ o, s.heap.get? b = some o) :
    (cxComp X scope cl N fp s H).Ok where
  mod := I.ok.mod
  kind := C.kind
  glob := I.ok.glob
  blt := I.ok.blt
  above := Nat.le_refl _
  inj := fun y z c h1 h2 => I.ok.inj y z c (C.sub y c h1) (C.sub z c h2)
  has := fun y hy => by
    have key : ∀ k, (k = NameKind.cell ∨ k = NameKind.free) → (compEnvC scope cl s.heap.objs.size X.env).kindOf y = some k → ∃ c, cl.lookup y = some c := by
      intro k hk e
      obtain ⟨k0, e0, e1⟩ := relabel_lookup (names := scope.names) (env := X.env) (y := y) (k := k) e
      have m := lookup_mem e0
      have hfree : k0 = .free := by
        rcases e1 with e1 | e1
        · subst e1
          rcases hk with hk | hk
          · exact absurd hk (C.nocell _ m)
          · exact hk
        · exact e1.1
      have h := C.has _ m hfree
      exact Option.isSome_iff_exists.mp h
    rcases hy with hy | hy
    · exact key _ (.inl rfl) hy
    · exact key _ (.inr rfl) hy
  cab := fun _ _ h _ => by cases h
  hd := I.ok.hd
  frames := I.ok.frames
  stk := .inl rfl
  exf := fun b hb => by
    obtain ⟨o, e⟩ := ho b hb
    refine ⟨Nat.ne_of_lt (Heap.lt_size e), fun y c hc => (hf b hb).2.2.2.2.1 y c (C.sub y c hc)⟩
  bs := I.bs
  bsz := Nat.le_trans I.ok.bsz I.sz
  noex := fun b o e hb => by
    rcases (hf b hb).2.2.2.1 with z | z
    · exact I.ok.noex b o e z
    · exact absurd (Nat.lt_of_lt_of_le (Heap.lt_size (I.ok.bs b o e).1) z) (Nat.lt_irrefl _)
  exfs := fun b hb z => by
    rcases List.mem_cons.mp (I.stkSub b z) with e | e
    · exact (hf b hb).2.1 e
    · exact (hf b hb).2.2.1 e
  funs := I.stack
  frf := I.stkFree
def frees (σ : L2.St) (js : List Nat) : L2.St := js.map fun j => (σ[j]?).join
theorem comp_start {x : Str} {ys : List Str} {js : List Nat} {h1 : Heap} {tk : Nat} {m1 : Str → Option Value} (C : CompScope X scope cl x ys js) (I : Inv X pins σ H s) (hf : ∀ b ∈ fp, FpOk X pins H b) (ho : ∀ b ∈ fp, ∃ o, s.heap.get? b = some o)
    (hns : h1.Ns s.heap.objs.size m1) (keep : ∀ b u, s.heap.get? b = some u → h1.get? b = some u) :
    Inv (cxComp X scope cl (x :: ys) fp s H) [] (none :: frees σ js) H { s with heap := h1, toks := tk } := by
  have cellK : ∀ y c, cl.lookup y = some c → ∃ v, s.heap.IsCell c v ∧ h1.IsCell c v := fun y c e => by
    obtain ⟨v, o, q, d⟩ := I.cell y c (C.sub y c e)
    exact ⟨v, ⟨o, q, d⟩, o, keep c o q, d⟩
  refine ⟨comp_ok C I hf ho, rfl, I.bare, Un.kept keep, ⟨m1, hns, fun i y v e1 e2 _ => ?_⟩, fun y c e => ?_, I.hok.fresh (Nat.le_refl _), fun y c e => I.freeC y c (C.sub y c e), fun p hp => ?_, I.hok.kept keep, ?_⟩
  · cases i with
    | zero => simp at e2
    | succ k =>
      have e1' : ys[k]? = some y := by
        have z : (x :: ys)[k + 1]? = some y := e1
        simpa using z
      have e2' : (frees σ js)[k]? = some (some v) := by simpa using e2
      unfold frees at e2'
      rw [List.getElem?_map] at e2'
      cases ej : js[k]? with
      | none => rw [ej] at e2'; simp at e2'
      | some j =>
        rw [ej] at e2'
        have e3 : (σ[j]?).join = some v := by simpa using e2'
        have e4 : σ[j]? = some (some v) := by
          cases q : σ[j]? with
          | none => rw [q] at e3; simp at e3
          | some z => rw [q] at e3; simp at e3; rw [e3]
        obtain ⟨a1, a2, a3⟩ := C.at_ k y j e1' ej
        obtain ⟨m0, _, hl⟩ := I.loc
        have vis : Vis X.env.scope y := by
          rcases a3 with a3 | a3
          · exact .inr (.inl a3)
          · exact .inr (.inr a3)
        obtain ⟨u, r, l⟩ := hl j y v a1 e4 vis
        refine ⟨u, r, ?_⟩
        rcases l with ⟨k1, _⟩ | ⟨_, c, hc, hv⟩
        · rcases a3 with a3 | a3 <;> rw [k1] at a3 <;> cases a3
        · have m := lookup_mem a2
          have hs := C.has _ m rfl
          obtain ⟨c', hc'⟩ := Option.isSome_iff_exists.mp hs
          have ec : c' = c := by
            have := C.sub y c' hc'
            rw [hc] at this
            exact (Option.some.inj this).symm
          subst ec
          refine .inr ⟨?_, c', hc', ?_⟩
          · show (relabel scope X.env).names.lookup y = some .cell ∨ (relabel scope X.env).names.lookup y = some .free
            exact relabel_free a2
          · obtain ⟨o, q, d⟩ := hv
            exact ⟨o, keep c' o q, d⟩
  · obtain ⟨v, _, z⟩ := cellK y c e
    exact ⟨v, z⟩
  · have : p ∈ ([] : List (Addr × Obj)) := hp
    cases this
  · show (none :: frees σ js).length = (x :: ys).length
    simp [frees, C.len]
end
section
variable {X : Cx}
def CompW (J : It) (js : List Nat) (tc : TT) (te : TE) (σ : L2.St) (H1 : Hp) (Q : VK) : Prop := ∀ D, H1 D = none → ∃ W : Nat → Nat → Hp → Prop, (∃ m, W 0 m (upd H1 D (.lst []))) ∧ ∀ i m H, W i m H →
  (J.stop i H ∧ Q (.ref D) H) ∨ (J.go i H ∧ ∀ x H', J.yld i H x H' → ∃ (N1 : Hp → Prop) (N2 : VK), (∀ H2, N1 H2 → ∃ m', m' < m ∧ W (i + 1) m' H2) ∧
    (∀ y H3, N2 y H3 → ∃ acc, H3 D = some (.lst acc) ∧ acc.length < sizeLine ∧ ∃ m', m' < m ∧ W (i + 1) m' (upd H3 D (.lst (acc ++ [y])))) ∧
    tc (some x :: frees σ js) H' fun c H2 => if c = true then te (some x :: frees σ js) H2 N2 else N1 H2)
def tComp (wi : TI) (js : List Nat) (tc : TT) (te : TE) : TE := fun σ H Q => wi σ H fun J H1 => CompW J js tc te σ H1 Q
def tNoTest : TT := fun _ H Q => Q true H
def PTs (X : Cx) (ifs : List Expr) (t : TT) : Prop :=
  ∀ (pins : List (Addr × Obj)) (s : Shared) (σ : L2.St) (H : Hp) (Q : Bool → Hp → Prop), Inv X pins σ H s → t σ H Q →
    wpAny (model X.prog X.w) X.A (forIn ifs true fun c r => if r = true then (do
      let ok ← isTrue c X.env (eval c X.env)
      pure (ForInStep.yield ok)) else pure (ForInStep.yield r)) (TP X pins σ Q) X.xe s
theorem pts_none : PTs X [] tNoTest := fun pins s σ H Q I h => wpAny_tests_nil ⟨H, I, h⟩
theorem pts_one {c : Expr} {t : TT} (h : PT X c t) : PTs X [c] t := fun pins s σ H Q I q => wpAny_tests_one (h pins s σ H Q I q)
theorem pe_comp {elt iter : Expr} {x : Str} {px pos : Pos} {ifs : List Expr} {scope : Scope} {cl : List (Str × Addr)} {ys : List Str} {js : List Nat} {wi : TI} {tc : TT} {te : TE} (C : CompScope X scope cl x ys js) (hc : X.calm = true)
    (hi : PI X (.Name x px) iter wi) (ht : ∀ fp s H, PTs (cxComp X scope cl (x :: ys) fp s H) ifs tc) (he : ∀ fp s H, PE (cxComp X scope cl (x :: ys) fp s H) elt te)
    (hs : ∀ x, foldedSetIterable iter X.env x = pure x := by intro _; rfl) :
    PE X (.ListComp elt [⟨.Name x px, iter, ifs, 0⟩] scope pos) (tComp wi js tc te) := by
  intro pins s σ H Q I h
  rw [eval_ListComp]
  refine wpAny_comprehension_free (use := none) rfl hs C.clos C.kind C.locs (thn (hi pins s σ H _ I h) fun v s1 h1 => thn h1 fun itv s2 h2 => ?_)
  obtain ⟨it, fp, tn, J, H2, e, I2, T, st2, f2, q2⟩ := h2
  subst e
  have fD : H2 s2.heap.objs.size = none := I2.hok.fresh (Nat.le_refl _)
  obtain ⟨W, ⟨m0, w0⟩, turn⟩ := q2 s2.heap.objs.size fD
  refine wpAny_newObj_type ?_
  have I3 : Inv X pins σ (upd H2 s2.heap.objs.size (.lst [])) { s2 with heap := s2.heap.push { cls := .type "list", dict := none, data := .seq ([] : List Value).toArray } } :=
    I2.laid (t' := s2.toks) (fun b u q => Heap.get?_push_of_some _ q) (Nat.le_refl _) ⟨Nat.zero_le _, [], 0, .nil, Heap.get?_push_size _ rfl⟩
  have nfp : ∀ b ∈ fp, b ≠ s2.heap.objs.size := fun b hb z => by
    obtain ⟨o, q, _⟩ := T.obj _ _ st2 b hb
    have := Heap.lt_size q
    rw [z] at this
    exact absurd this (Nat.lt_irrefl _)
  have f3 : ∀ b ∈ fp, FpOk X pins (upd H2 s2.heap.objs.size (.lst [])) b := fun b hb => ⟨by rw [upd_ne (nfp b hb)]; exact (f2 b hb).1, (f2 b hb).2⟩
  generalize hS3 : ({ s2 with heap := s2.heap.push { cls := .type "list", dict := none, data := .seq ([] : List Value).toArray } } : Shared) = s3 at I3
  have st3 : tn 0 s3.heap := T.keep 0 _ _ st2 fun b hb o q => by rw [← hS3]; exact Heap.get?_push_of_some _ q
  have o3 : ∀ b ∈ fp, ∃ o, s3.heap.get? b = some o := fun b hb => let ⟨o, q, _⟩ := T.obj _ _ st3 b hb; ⟨o, q⟩
  show wpAny _ _ (newFunctionEnv scope X.env.globals cl [] X.env.qual none .none (some X.env)) _ _ _
  refine wpAny_newFunctionEnv C.nocell (by intro y hy; simp at hy) (fun h4 hns4 hsb4 => ?_) C.kind
  have keep4 : ∀ b u, s3.heap.get? b = some u → h4.get? b = some u := fun b u q => (hsb4.2 b (Nat.ne_of_lt (Heap.lt_size q))).trans (Heap.get?_push_of_some _ q)
  have I4 : ∀ tk, Inv (cxComp X scope cl (x :: ys) fp s3 (upd H2 s2.heap.objs.size (.lst []))) [] (none :: frees σ js) (upd H2 s2.heap.objs.size (.lst [])) { s3 with heap := h4, toks := tk } := fun tk => comp_start C I3 f3 o3 hns4 keep4
  have st4 : tn 0 h4 := T.keep 0 _ _ st3 fun b hb o q => keep4 b o q
  generalize hX' : cxComp X scope cl (x :: ys) fp s3 (upd H2 s2.heap.objs.size (.lst [])) = X' at I4
  have eP : X'.prog = X.prog := by rw [← hX']; rfl
  have eW : X'.w = X.w := by rw [← hX']; rfl
  have eK : X'.K = X.K := by rw [← hX']; rfl
  have eA : X'.A = X.A := by rw [← hX']; rfl
  have eC : X'.calm = true := by rw [← hX']; exact hc
  have stat : ∀ {H' : Hp}, (∀ b ∈ fp, H' b = none) → ∀ b ∈ fp, FpOk X' [] H' b := fun {H'} hn b hb => by
    have ok := (I4 0).ok
    have hex : b ∈ X'.ex := by rw [← hX']; exact hb
    exact ⟨hn b hb, (ok.exf b hex).1, ok.exfs b hex, .inl hex, (ok.exf b hex).2, fun p hp => by rw [← hX'] at hp; cases (show p ∈ ([] : List (Addr × Obj)) from hp)⟩
  have loop : ∀ s5 : Shared, s5 = { s3 with heap := h4, toks := s3.toks + ([] : List (Str × Value)).length } →
      codeAny (model X.prog X.w) X.A (.compLoop (.ListComp elt [⟨.Name x px, iter, ifs, 0⟩] scope pos) 0 (.ref it) (.ref s2.heap.objs.size) (compEnvC scope cl s3.heap.objs.size X.env))
        (compPost (model X.prog X.w) X.A X.xe none (EP X pins σ Q) (.ref s2.heap.objs.size) s3.heap.objs.size) s5 := by
    rintro s5 rfl
    refine comp_turns (fun n s' => ∃ i o H', Inv X' [] (o :: frees σ js) H' s' ∧ tn i s'.heap ∧ (∀ b ∈ fp, H' b = none) ∧ W i n H') ?_ m0
      ⟨0, none, _, I4 _, st4, fun b hb => (f3 b hb).1, w0⟩
    rintro n s6 ⟨i, o, H6, I6, st6, fr6, w6⟩
    rcases turn i n H6 w6 with ⟨stop, qn⟩ | ⟨go, step⟩
    · have hd := T.done X' eP eW eK eC i [] s6 _ H6 (fun _ _ => False) I6 (stat fr6) st6 stop
      rw [eA] at hd
      refine thn hd fun r s7 ⟨hr, I7⟩ => ?_
      subst hr
      obtain ⟨m7, hn7, _⟩ := I7.loc
      have hn7' : s7.heap.Ns s3.heap.objs.size m7 := by rw [← hX'] at hn7; exact hn7
      refine ⟨m7, hn7', fun h8 hs8 => ?_⟩
      have I7f : H6 s3.heap.objs.size = none := by have := I7.free; rw [← hX'] at this; exact this
      have b7 : Un (frs X.stack) fp (upd H2 s2.heap.objs.size (.lst [])) H6 s3.heap s7.heap := by have := I7.base; rw [← hX'] at this; exact this
      have ne8 : ∀ b o, s3.heap.get? b = some o → b ≠ s3.heap.objs.size := fun b o q => Nat.ne_of_lt (Heap.lt_size q)
      have u8 : Un (frs X.stack) fp (upd H2 s2.heap.objs.size (.lst [])) H6 s3.heap h8 := by
        refine ⟨fun b o q n hb hx => (hs8.2 b (ne8 b o q)).trans (b7.keep b o q n hb hx), fun b o q n hb hx => ?_, b7.free, fun b o q hx => ?_, b7.tups, b7.frzs, b7.tbls⟩
        · obtain ⟨sl, z⟩ := b7.slot b o q n hb hx
          exact ⟨sl, (hs8.2 b (ne8 b o q)).trans z⟩
        · obtain ⟨o', z⟩ := b7.there b o q hx
          exact ⟨o', (hs8.2 b (ne8 b o q)).trans z⟩
      have hok8 : HOk X.prog X.w H6 h8 := fun b ob e => by
        have hk7 := I7.hok
        rw [eP, eW] at hk7
        refine (hk7 b ob e).stay (fun c w' hcc q => (hs8.2 c ?_).trans q) (fun _ q => q) fun _ _ q => q
        rintro rfl
        rcases hcc with rfl | hcc
        · rw [I7f] at e; cases e
        · rw [I7f] at hcc; cases hcc
      have os7 : s7.os = s3.os := by have := I7.os; rw [← hX'] at this; exact this
      exact ⟨.ref s2.heap.objs.size, H6, I3.call' (s' := { s7 with heap := h8 }) (ch := fp) os7 u8 hok8 I7.bare (fun b hb => ⟨(f3 b hb).2.2.2.1, (f3 b hb).2.1, (f3 b hb).2.2.2.2.1, (f3 b hb).2.2.2.2.2⟩), rfl, qn⟩
    · have hit := T.item X' eP eW eK eC i [] s6 _ H6 (fun _ _ => False) I6 (stat fr6) st6 go
      rw [eA] at hit
      refine thn hit fun r s7 ⟨u, hr, h7⟩ => ?_
      subst hr
      refine thn h7 fun _ s8 ⟨y, H8, I8, r8, y8, st8, fr8⟩ => ?_
      have I8' := I8.pinned (stat fr8) (T.obj _ _ st8)
      obtain ⟨N1, N2, hN1, hN2, hst⟩ := step y H8 y8
      have again : ∀ {H9 : Hp} {s9 : Shared} {m' : Nat}, Inv X' ([] ++ pinsAt fp s8.heap) (some y :: frees σ js) H9 s9 → m' < n → W (i + 1) m' H9 → ∃ m, m < n ∧ ∃ i o H', Inv X' [] (o :: frees σ js) H' s9 ∧ tn i s9.heap ∧ (∀ b ∈ fp, H' b = none) ∧ W i m H' := fun {H9 s9 m'} I9 hm w9 => by
        refine ⟨m', hm, i + 1, some y, H9, I9.unpinned, T.keep _ _ _ st8 fun b hb o e => (I9.pin (b, o) (List.mem_append_right _ (List.mem_append_right _ (mem_pinsAt hb e)))).1, fun b hb => ?_, w9⟩
        obtain ⟨o, e, _⟩ := T.obj _ _ st8 b hb
        exact (I9.pin (b, o) (List.mem_append_right _ (List.mem_append_right _ (mem_pinsAt hb e)))).2.1
      subst hX'
      refine thn (pg_name (i := 0) (x := x) (pos := px) C.nd rfl (.inl (lookup_relabel_local C.own)) (.inr (lookup_relabel_local C.own)) _ s8 _ H8 y u (fun σ' H' => σ' = some y :: frees σ js ∧ H' = H8) I8' r8 ⟨rfl, rfl⟩) fun _ s9 ⟨σ9, H9, I9, e9, e9'⟩ => ?_
      subst e9 e9'
      refine thn (ht fp s3 _ _ s9 _ _ _ I9 hst) fun ok s10 ⟨H10, I10, q10⟩ => ?_
      cases ok with
      | false =>
        rw [if_neg Bool.false_ne_true] at q10 ⊢
        obtain ⟨m', hm, w10⟩ := hN1 _ q10
        exact again I10 hm w10
      | true =>
        rw [if_pos rfl] at q10 ⊢
        refine thn (he fp s3 _ _ s10 _ _ _ I10 q10) fun z s11 ⟨vz, H11, I11, r11, q11⟩ => ?_
        obtain ⟨acc, ha, hz, m', hm, w11⟩ := hN2 _ _ q11
        refine thn (mt_append _ s11 _ H11 (.ref s2.heap.objs.size) [vz] (.ref s2.heap.objs.size) [z] (fun _ H' => H' = upd H11 s2.heap.objs.size (.lst (acc ++ [vz]))) I11 rfl (.cons r11 .nil) ⟨_, acc, vz, rfl, rfl, ha, hz, rfl⟩) fun _ s12 ⟨_, H12, I12, _, e12⟩ => ?_
        subst e12
        exact again I12 hm w11
  exact codeAny_compStart_list (loop _ rfl) (T.self X.A 0 _ _ _ st4 (loop _ rfl))
end
structure Walked (J : It) (G : Hp → Prop) (xs : List V) : Prop where
  go : ∀ i H, i < xs.length → G H → J.go i H
  yld : ∀ i H x H', i < xs.length → G H → J.yld i H x H' → H' = H ∧ xs[i]? = some x
  stop : ∀ H, G H → J.stop xs.length H
theorem walked_tup {K : PySem.W.Frag} {a : Addr} {xs : List V} : Walked (Itt K a) (fun H => SqT K H a xs) xs where
  go := fun i H h q => ⟨xs, xs[i], q, by simp [h]⟩
  yld := fun i H x H' _ q y => ⟨y.1, y.2 xs q⟩
  stop := fun H q => ⟨xs, q, Nat.le_refl _⟩
theorem walked_range {lo : Int} {n : Nat} : Walked (Itr lo n) (fun _ => True) ((List.range n).map fun i : Nat => V.int (lo + i)) where
  go := fun i H h _ => by
    rw [List.length_map, List.length_range] at h
    exact h
  yld := fun i H x H' h _ y => by
    obtain ⟨e, y⟩ := y
    rw [List.length_map, List.length_range] at h
    refine ⟨e, ?_⟩
    rw [List.getElem?_map, List.getElem?_range h, y]
    rfl
  stop := fun H _ => by
    rw [List.length_map, List.length_range]
    exact Nat.le_refl n
theorem comp_by {J : It} {G : Hp → Prop} {xs : List V} {js : List Nat} {tc : TT} {te : TE} {σ : L2.St} {H1 : Hp} {Q : VK} (wk : Walked J G xs) (hz : xs.length ≤ sizeLine) (Pv : Addr → Nat → List V → Hp → Prop)
    (h0 : ∀ D, H1 D = none → Pv D 0 [] (upd H1 D (.lst []))) (hg : ∀ D i acc H, Pv D i acc H → G H)
    (hs : ∀ D i x acc H, H1 D = none → xs[i]? = some x → H D = some (.lst acc) → Pv D i acc H → tc (some x :: frees σ js) H fun c H2 => if c = true then te (some x :: frees σ js) H2 fun y H3 => H3 D = some (.lst acc) ∧ Pv D (i + 1) (acc ++ [y]) (upd H3 D (.lst (acc ++ [y])))
      else H2 D = some (.lst acc) ∧ Pv D (i + 1) acc H2)
    (hd : ∀ D acc H, H1 D = none → H D = some (.lst acc) → Pv D xs.length acc H → Q (.ref D) H) : CompW J js tc te σ H1 Q := by
  intro D nD
  refine ⟨fun i m H => m = xs.length - i ∧ i ≤ xs.length ∧ ∃ acc, H D = some (.lst acc) ∧ acc.length ≤ i ∧ Pv D i acc H, ⟨xs.length, by simp, Nat.zero_le _, [], upd_same, Nat.le_refl _, h0 D nD⟩, ?_⟩
  rintro i m H ⟨rfl, hi, acc, ha, hl, p⟩
  have g := hg D i acc H p
  by_cases hlt : i < xs.length
  · refine .inr ⟨wk.go i H hlt g, fun x H' y => ?_⟩
    obtain ⟨e, hx⟩ := wk.yld i H x H' hlt g y
    subst e
    refine ⟨fun H2 => H2 D = some (.lst acc) ∧ Pv D (i + 1) acc H2, fun y H3 => H3 D = some (.lst acc) ∧ Pv D (i + 1) (acc ++ [y]) (upd H3 D (.lst (acc ++ [y]))), fun H2 q => ?_, fun z H3 q => ?_, hs D i x acc _ nD hx ha p⟩
    · exact ⟨xs.length - (i + 1), by omega, rfl, hlt, acc, q.1, by omega, q.2⟩
    · exact ⟨acc, q.1, by omega, xs.length - (i + 1), by omega, rfl, hlt, acc ++ [z], upd_same, by rw [List.length_append, List.length_singleton]; omega, q.2⟩
  · have e : i = xs.length := by omega
    subst e
    exact .inl ⟨wk.stop H g, hd D acc H nD ha p⟩
theorem same_new {H : Hp} {p : Addr} (h : H p = none) (o : HO) : Same H (upd H p o) := fun b u q => by rw [upd_ne (ne_of_none q h)]; exact q
theorem take_more {α : Type} {xs : List α} {i : Nat} {x : α} (h : xs[i]? = some x) : xs.take (i + 1) = xs.take i ++ [x] := by
  rw [List.take_succ, h]; rfl
theorem comp_pure {J : It} {G : Hp → Prop} {xs : List V} {js : List Nat} {tc : TT} {te : TE} {σ : L2.St} {H1 : Hp} {Q : VK} (wk : Walked J G xs) (hz : xs.length ≤ sizeLine) (p : V → Bool) (f : V → V)
    (hg : ∀ H, Same H1 H → G H)
    (htc : ∀ x ∈ xs, ∀ H, Same H1 H → ∀ Q' : Bool → Hp → Prop, (∀ H2, Same H H2 → Q' (p x) H2) → tc (some x :: frees σ js) H Q')
    (hte : ∀ x ∈ xs, p x = true → ∀ H, Same H1 H → ∀ Q' : VK, (∀ H2, Same H H2 → Q' (f x) H2) → te (some x :: frees σ js) H Q')
    (hd : ∀ D H, H1 D = none → H D = some (.lst ((xs.filter p).map f)) → Same H1 H → Q (.ref D) H) : CompW J js tc te σ H1 Q := by
  refine comp_by wk hz (fun _ i acc H => acc = ((xs.take i).filter p).map f ∧ Same H1 H) (fun D nD => ⟨by simp, same_new nD _⟩) (fun D i acc H h => hg H h.2) (fun D i x acc H nD hx ha ⟨e, sm⟩ => ?_) (fun D acc H nD ha ⟨e, sm⟩ => ?_)
  · have mx : x ∈ xs := List.mem_of_getElem? hx
    refine htc x mx H sm _ fun H2 s2 => ?_
    cases hp : p x with
    | false =>
      rw [if_neg Bool.false_ne_true]
      refine ⟨s2 _ _ ha, ?_, sm.trans s2⟩
      rw [take_more hx, List.filter_append, e]
      simp [hp]
    | true =>
      rw [if_pos rfl]
      refine hte x mx hp H2 (sm.trans s2) _ fun H3 s3 => ?_
      refine ⟨s3 _ _ (s2 _ _ ha), ?_, ?_⟩
      · rw [take_more hx, List.filter_append, e]
        simp [hp]
      · intro b o q
        have nb : b ≠ D := ne_of_none q nD
        rw [upd_ne nb]
        exact s3 _ _ (s2 _ _ (sm _ _ q))
  · rw [List.take_length] at e
    subst e
    exact hd D H nD ha sm
end Nd
namespace Nd
open PySem PySem.Spec PyProof.Rows L2
mutual
inductive RdV (K : PySem.W.Frag) (H : Hp) : V → PyData → Prop
  | non : RdV K H .non .none
  | bl (b : Bool) : RdV K H (.bl b) (.bool b)
  | int (i : Int) : RdV K H (.int i) (.int i)
  | str (x : Str) : RdV K H (.str x) (.str x)
  | lst {a : Addr} {xs : List V} {ds : List PyData} : SqL K H a xs → RdVs K H xs ds → RdV K H (.ref a) (.list ds)
  | tup {a : Addr} {xs : List V} {ds : List PyData} : SqT K H a xs → RdVs K H xs ds → RdV K H (.ref a) (.tuple ds)
inductive RdVs (K : PySem.W.Frag) (H : Hp) : List V → List PyData → Prop
  | nil : RdVs K H [] []
  | cons {x : V} {d : PyData} {xs : List V} {ds : List PyData} : RdV K H x d → RdVs K H xs ds → RdVs K H (x :: xs) (d :: ds)
end
section
variable {X : Cx} {pins : List (Addr × Obj)} {σ : L2.St} {H H' : Hp} {s : Shared} {K : PySem.W.Frag}
theorem Same.tup' {a : Addr} {xs : List V} (e : Same H H') (h : SqT K H a xs) : SqT K H' a xs := by
  rcases h with (h | ⟨o, h⟩) | h
  · exact .inl (.inl (e _ _ h))
  · exact .inl (.inr ⟨o, e _ _ h⟩)
  · exact .inr h
mutual
theorem RdV.same (e : Same H H') : ∀ {v : V} {d : PyData}, RdV K H v d → RdV K H' v d
  | _, _, .non => .non
  | _, _, .bl b => .bl b
  | _, _, .int i => .int i
  | _, _, .str x => .str x
  | _, _, .lst h hs => .lst (e.seq h) (RdVs.same e hs)
  | _, _, .tup h hs => .tup (Same.tup' e h) (RdVs.same e hs)
theorem RdVs.same (e : Same H H') : ∀ {vs : List V} {ds : List PyData}, RdVs K H vs ds → RdVs K H' vs ds
  | _, _, .nil => .nil
  | _, _, .cons h hs => .cons (RdV.same e h) (RdVs.same e hs)
end
theorem RdVs.ints : ∀ ns : List Int, RdVs K H (ns.map V.int) (ns.map PyData.int)
  | [] => .nil
  | n :: ns => .cons (.int n) (RdVs.ints ns)
end
mutual
def Fits (b : Nat) : PyData → Prop
  | .none => True
  | .bool _ => True
  | .int i => i.natAbs < 10 ^ b
  | .str x => (reprText x).length ≤ b
  | .list xs => FitsAll b xs
  | .tuple xs => FitsAll b xs
  | .dict _ => False
def FitsAll (b : Nat) : List PyData → Prop
  | [] => True
  | x :: xs => Fits b x ∧ FitsAll b xs
end
mutual
def nodes : PyData → Nat
  | .list xs => nodesAll xs + 1
  | .tuple xs => nodesAll xs + 1
  | _ => 1
def nodesAll : List PyData → Nat
  | [] => 0
  | x :: xs => nodes x + nodesAll xs
end
theorem depth_ints (ns : List Int) : PyData.depthAll (ns.map PyData.int) = 0 := by
  induction ns with
  | nil => rfl
  | cons n ns ih => simp only [List.map_cons, PyData.depthAll, PyData.depth, ih, Nat.max_self]
structure Tells (K : PySem.W.Frag) (H : Hp) (x : V) (d : PyData) : Prop where
  rd : RdV K H x d
  fits : ∃ b, b ≤ 400 ∧ Fits b d ∧ (b + 12) * nodes d ≤ sizeLine
  depth : d.depth ≤ 90
theorem Tells.same {K : PySem.W.Frag} {H H' : Hp} {x : V} {d : PyData} (e : Same H H') (t : Tells K H x d) : Tells K H' x d := ⟨t.rd.same e, t.fits, t.depth⟩
theorem fits_int {i : Int} {b : Nat} (h : i.natAbs < 10 ^ b) : Fits b (.int i) := by simpa only [Fits] using h
end Nd
namespace Nd
open PySem PySem.Spec PyProof.Rows L2
def okV : V → Bool
  | .byt _ => false
  | .flt _ => false
  | _ => true
def EqV1 (K : PySem.W.Frag) (H : Hp) (x y : V) : Prop :=
  (x = y ∧ okV x = true) ∨ ∃ (p q : Addr) (zs : List V), x = .ref p ∧ y = .ref q ∧ zs.all okV = true ∧ ((SqL K H p zs ∧ SqL K H q zs) ∨ (SqT K H p zs ∧ SqT K H q zs))
section
variable {X : Cx} {pins : List (Addr × Obj)} {σ : L2.St} {H : Hp} {s : Shared} {A : Around}
def EqVs (K : PySem.W.Frag) (H : Hp) (xs ys : List V) : Prop := xs.length = ys.length ∧ ∀ (i : Nat) x y, xs[i]? = some x → ys[i]? = some y → EqV1 K H x y
theorem EqVs.same {K : PySem.W.Frag} {xs : List V} (h : xs.all okV = true) : EqVs K H xs xs := ⟨rfl, fun i x y e1 e2 => by
  rw [e1] at e2
  cases e2
  exact .inl ⟨rfl, List.all_eq_true.mp h x (List.mem_of_getElem? e1)⟩⟩
theorem in1_units (A : Around) : A.in1.units ≤ A.units + 1 := by
  first | exact Nat.le_refl _ | (simp [Around.in1]; done) | (unfold Around.in1; simp)
theorem call_isinst : CallR X (.builtin "isinstance") (fun xs H Q => ∃ x n t b, xs = [x, .ty n] ∧ TyOf X.K H x t ∧ PySem.W.kitOne X.K t (.type n) = some b ∧ Q (.bl b) H) := by
  intro pins s σ H xs us Q I r h
  obtain ⟨x, n, t, b, rfl, ty, e, q⟩ := h
  obtain ⟨u, v, rfl, ru, rv⟩ := vals2 r
  cases rv
  exact isinst_ok I ru ty e fun tk => ⟨.bl b, H, I.tok _, rfl, q⟩
end
section
variable {prog : Program} {w : World} {A : Around} {E : Value → Shared → Prop} {s : Shared}
theorem getItem_tuple_whole {t sl : Addr} {items : Array Value} {vl vu : Value} {lo hi : Option Int} {Q : Value → Shared → Prop} (ht : IsTup s.heap t items) (hs : s.heap.IsSliceOf sl vl vu .none) (pl : IsPart vl lo) (pu : IsPart vu hi)
    (hw : HT.sIx items.size 0 lo = 0 ∧ HT.sIx items.size items.size hi = items.size) (h : Q (.ref t) s) : wpAny (model prog w) A (getItem (.ref t) (.ref sl)) Q E s := by
  obtain ⟨os, hos, hcs, hds⟩ := id hs
  have hTs : s.TypeIs (.ref sl) "slice" := ⟨os, hos, hcs⟩
  unfold getItem
  try with_reducible refine wpAny_holding ?_
  first | refine wpAny_bind (wpAny_pure ?_) | skip
  refine wpAny_bind (wpAny_sequenceKey ht.typeIs (by decide) ?_)
  refine wpAny_bind (wpAny_callSpecial?_slot (name := Str.ofString "__getitem__") ht.typeIs PyProof.Rows.slot_tuple_getitem
    (wpAny_call_entry PyProof.Rows.slot_tuple_getitem ht.typeIs entry_tuple_getitem ?_ (args_tuple_getitem _ _)))
  show wpAny _ _ (Builtin.Tuple.tupleItemsOf (.ref t) >>= _) _ _ s
  refine wpAny_bind (tupleItemsOf_ ht ?_)
  refine wpAny_bind (wpAny_typeOf hTs ?_)
  rw [if_pos (by decide)]
  refine wpAny_bind (HT.sliceApplied_gen hs pl pu ?_)
  rw [hw.1, hw.2]
  have hyes : (((0 : Nat) : Int) == 0 && (1 : Int) == 1 && (items.size - 0) == items.size) = true := by simp
  show wpAny _ _ (if (((0 : Nat) : Int) == 0 && (1 : Int) == 1 && (items.size - 0) == items.size) = true then _ else _) _ _ s
  rw [if_pos hyes]
  have hex : ∀ {R : Bool → Shared → Prop}, R true s → wpAny (model prog w) A.in1 (Builtin.Tuple.tupleIsExact (.ref t)) R E s := fun {R} hR => by
    unfold Builtin.Tuple.tupleIsExact
    refine wpAny_bind (wpAny_typeOf ht.typeIs (wpAny_pure ?_))
    rw [beq_self_eq_true]
    exact hR
  refine wpAny_bind (hex ?_)
  rw [if_pos rfl]
  exact wpAny_bind (wpAny_rule (wpAny_pure ⟨_, rfl, wpAny_pure h⟩))
end
end Nd
namespace Nd
open PySem PySem.Spec PyProof.Rows L2
mutual
def eqD : PyData → PyData → Bool
  | .none, .none => true
  | .bool a, .bool b => a == b
  | .bool a, .int b => (if a then 1 else 0) == b
  | .int a, .bool b => a == (if b then 1 else 0)
  | .int a, .int b => a == b
  | .str a, .str b => a == b
  | .list xs, .list ys => eqDs xs ys
  | .tuple xs, .tuple ys => eqDs xs ys
  | _, _ => false
def eqDs : List PyData → List PyData → Bool
  | [], [] => true
  | x :: xs, y :: ys => eqD x y && eqDs xs ys
  | _, _ => false
end
theorem eqDs_range : ∀ ds es : List PyData, (((List.range (min ds.length es.length)).all fun j => eqD (ds.getD j .none) (es.getD j .none)) && ds.length == es.length) = eqDs ds es
  | [], [] => by simp [eqDs]
  | [], _ :: _ => by simp [eqDs]
  | _ :: _, [] => by simp [eqDs]
  | d :: ds, e :: es => by
    have ih := eqDs_range ds es
    rw [eqDs, ← ih]
    have h1 : min (d :: ds).length (e :: es).length = min ds.length es.length + 1 := by simp only [List.length_cons]; omega
    rw [h1, List.range_succ_eq_map, List.all_cons, List.all_map]
    have h2 : ((d :: ds).length == (e :: es).length) = (ds.length == es.length) := by
      rw [Bool.eq_iff_iff]; simp
    rw [h2, Bool.and_assoc]
    rfl
section
variable {X : Cx} {pins : List (Addr × Obj)} {σ : L2.St} {H : Hp} {s : Shared} {K : PySem.W.Frag}
mutual
theorem RdV.eqD_self : ∀ {v : V} {d : PyData}, RdV K H v d → eqD d d = true
  | _, _, .non => by simp [eqD]
  | _, _, .bl b => by simp [eqD]
  | _, _, .int i => by simp [eqD]
  | _, _, .str x => by simp [eqD]
  | _, _, .lst _ h => by rw [eqD]; exact RdVs.eqDs_self h
  | _, _, .tup _ h => by rw [eqD]; exact RdVs.eqDs_self h
theorem RdVs.eqDs_self : ∀ {vs : List V} {ds : List PyData}, RdVs K H vs ds → eqDs ds ds = true
  | _, _, .nil => by simp [eqDs]
  | _, _, .cons h t => by rw [eqDs, RdV.eqD_self h, RdVs.eqDs_self t]; rfl
end
theorem not_both (I : Inv X pins σ H s) {a : Addr} {xs ys : List V} (h1 : SqL X.K H a xs) (h2 : SqT X.K H a ys) : False := by
  obtain ⟨us, _, p1, _⟩ := I.list h1
  obtain ⟨vs, _, p2, _⟩ := I.tuple h2
  exact SeqAt.ne_of_list_tuple p1.isList p2 rfl
mutual
theorem RdV.det (I : Inv X pins σ H s) : ∀ {v : V} {d e : PyData}, RdV X.K H v d → RdV X.K H v e → d = e
  | _, _, _, .non, h => by cases h; rfl
  | _, _, _, .bl b, h => by cases h; rfl
  | _, _, _, .int i, h => by cases h; rfl
  | _, _, _, .str x, h => by cases h; rfl
  | _, _, _, .lst q r, h => by
    cases h with
    | lst q' r' =>
      have e := I.list_inj q q'
      subst e
      rw [RdVs.det I r r']
    | tup q' r' => exact (not_both I q q').elim
  | _, _, _, .tup q r, h => by
    cases h with
    | lst q' r' => exact (not_both I q' q).elim
    | tup q' r' =>
      have e := I.tuple_inj q q'
      subst e
      rw [RdVs.det I r r']
theorem RdVs.det (I : Inv X pins σ H s) : ∀ {vs : List V} {ds es : List PyData}, RdVs X.K H vs ds → RdVs X.K H vs es → ds = es
  | _, _, _, .nil, h => by cases h; rfl
  | _, _, _, .cons r t, h => by
    cases h with
    | cons r' t' => rw [RdV.det I r r', RdVs.det I t t']
end
theorem RdVs.length : ∀ {vs : List V} {ds : List PyData}, RdVs K H vs ds → vs.length = ds.length
  | _, _, .nil => rfl
  | _, _, .cons _ t => by rw [List.length_cons, List.length_cons, RdVs.length t]
theorem in1_lt {A : Around} {n : Nat} (h : A.units + (n + 1) < cLine) : A.in1.units + n < cLine := by
  have := in1_units A
  omega
theorem rc_lists {A : Around} {a b : Addr} {us vs : List Value} {ds es : List PyData} (p1 : PlainL s.heap a us.toArray) (p2 : PlainL s.heap b vs.toArray) (l1 : us.length = ds.length) (l2 : vs.length = es.length) (hu : A.units < cLine)
    (he : ∀ j (h1 : j < us.length) (h2 : j < vs.length), SeqAt.EqAt A.in1 s us[j] vs[j] (eqD (ds.getD j .none) (es.getD j .none))) : SeqAt.RcAt A s (.ref a) (.ref b) (eqDs ds es) := by
  rw [← eqDs_range]
  by_cases hl : ds.length = es.length
  · have hs : us.toArray.size = vs.toArray.size := by rw [List.size_toArray, List.size_toArray, l1, l2, hl]
    have h := SeqAt.RcAt.lists (A := A) (e := fun j => eqD (ds.getD j .none) (es.getD j .none)) p1.isList p2.isList hs hu (fun j h1 h2 => by simpa using he j (by simpa using h1) (by simpa using h2))
    rw [List.size_toArray, l1] at h
    rw [hl, Nat.min_self, beq_self_eq_true, Bool.and_true, ← hl]
    exact h
  · have hs : (us.toArray.size != vs.toArray.size) = true := by rw [List.size_toArray, List.size_toArray, l1, l2]; simpa using hl
    have h := SeqAt.RcAt.lists_lengths (A := A) p1.isList p2.isList hs hu
    have e0 : (ds.length == es.length) = false := by simpa using hl
    rw [e0, Bool.and_false]
    exact h
theorem rc_tuples {A : Around} {a b : Addr} {us vs : List Value} {ds es : List PyData} (p1 : IsTup s.heap a us.toArray) (p2 : IsTup s.heap b vs.toArray) (l1 : us.length = ds.length) (l2 : vs.length = es.length) (hu : A.units < cLine)
    (he : ∀ j (h1 : j < us.length) (h2 : j < vs.length), SeqAt.EqAt A.in1 s us[j] vs[j] (eqD (ds.getD j .none) (es.getD j .none))) : SeqAt.RcAt A s (.ref a) (.ref b) (eqDs ds es) := by
  rw [← eqDs_range]
  have h := SeqAt.RcAt.tuples (A := A) (e := fun j => eqD (ds.getD j .none) (es.getD j .none)) (show s.heap.IsTuple a us.toArray from p1) (show s.heap.IsTuple b vs.toArray from p2) hu (fun j h1 h2 => by simpa using he j (by simpa using h1) (by simpa using h2))
  rw [List.size_toArray, List.size_toArray, l1, l2] at h
  exact h
mutual
theorem eqAt_D (I : Inv X pins σ H s) : ∀ {A : Around} {x y : V} {d e : PyData} {u v : Value}, RdV X.K H x d → RdV X.K H y e → RelV x u → RelV y v → A.units + d.depth < cLine → SeqAt.EqAt A s u v (eqD d e)
  | A, _, _, _, _, _, _, .non, h, ru, rv, hu => by
    cases ru
    have hu' : A.units < cLine := by omega
    cases h with
    | non => cases rv; rw [eqD]; exact SeqAt.EqAt.same _
    | bl b => cases rv; rw [eqD]; exact SeqAt.EqAt.none_bool b; all_goals simp
    | int b => obtain ⟨t, rfl⟩ := rv; rw [eqD]; exact SeqAt.EqAt.none_int b t; all_goals simp
    | str b => obtain ⟨t, rfl⟩ := rv; rw [eqD]; exact SeqAt.EqAt.none_str b t; all_goals simp
    | lst q r => cases rv; obtain ⟨us, _, p, _⟩ := I.list q; rw [eqD]; exact SeqAt.EqAt.none_list p.isList hu'; all_goals simp
    | tup q r => cases rv; obtain ⟨us, _, p, _⟩ := I.tuple q; rw [eqD]; exact SeqAt.EqAt.none_tuple p hu'; all_goals simp
  | A, _, _, _, _, _, _, .bl a, h, ru, rv, hu => by
    cases ru
    have hu' : A.units < cLine := by omega
    cases h with
    | non => cases rv; rw [eqD]; exact SeqAt.EqAt.bool_none a; all_goals simp
    | bl b => cases rv; rw [eqD]; exact SeqAt.EqAt.bool_bool a b
    | int b => obtain ⟨t, rfl⟩ := rv; rw [eqD]; exact SeqAt.EqAt.bool_int a b t
    | str b => obtain ⟨t, rfl⟩ := rv; rw [eqD]; exact SeqAt.EqAt.bool_str a b t; all_goals simp
    | lst q r => cases rv; obtain ⟨us, _, p, _⟩ := I.list q; rw [eqD]; exact SeqAt.EqAt.bool_list a p.isList hu'; all_goals simp
    | tup q r => cases rv; obtain ⟨us, _, p, _⟩ := I.tuple q; rw [eqD]; exact SeqAt.EqAt.bool_tuple a p hu'; all_goals simp
  | A, _, _, _, _, _, _, .int a, h, ru, rv, hu => by
    obtain ⟨t', rfl⟩ := ru
    have hu' : A.units < cLine := by omega
    cases h with
    | non => cases rv; rw [eqD]; exact SeqAt.EqAt.int_none a t'; all_goals simp
    | bl b => cases rv; rw [eqD]; exact SeqAt.EqAt.int_bool a t' b
    | int b => obtain ⟨t, rfl⟩ := rv; rw [eqD]; exact SeqAt.EqAt.int_int a t' b t
    | str b => obtain ⟨t, rfl⟩ := rv; rw [eqD]; exact SeqAt.EqAt.int_str a t' b t; all_goals simp
    | lst q r => cases rv; obtain ⟨us, _, p, _⟩ := I.list q; rw [eqD]; exact SeqAt.EqAt.int_list a t' p.isList hu'; all_goals simp
    | tup q r => cases rv; obtain ⟨us, _, p, _⟩ := I.tuple q; rw [eqD]; exact SeqAt.EqAt.int_tuple a t' p hu'; all_goals simp
  | A, _, _, _, _, _, _, .str a, h, ru, rv, hu => by
    obtain ⟨t', rfl⟩ := ru
    have hu' : A.units < cLine := by omega
    cases h with
    | non => cases rv; rw [eqD]; exact SeqAt.EqAt.str_none a t'; all_goals simp
    | bl b => cases rv; rw [eqD]; exact SeqAt.EqAt.str_bool a t' b; all_goals simp
    | int b => obtain ⟨t, rfl⟩ := rv; rw [eqD]; exact SeqAt.EqAt.str_int a t' b t; all_goals simp
    | str b => obtain ⟨t, rfl⟩ := rv; rw [eqD]; exact SeqAt.EqAt.str_str a t' b t
    | lst q r => cases rv; obtain ⟨us, _, p, _⟩ := I.list q; rw [eqD]; exact SeqAt.EqAt.str_list a t' p.isList hu'; all_goals simp
    | tup q r => cases rv; obtain ⟨us, _, p, _⟩ := I.tuple q; rw [eqD]; exact SeqAt.EqAt.str_tuple a t' p hu'; all_goals simp
  | A, _, _, _, _, _, _, @RdV.lst _ _ a xs ds q r, h, ru, rv, hu => by
    cases ru
    have hu' : A.units < cLine := by omega
    obtain ⟨us, r1, p, _⟩ := I.list q
    cases h with
    | non => cases rv; rw [eqD]; exact SeqAt.EqAt.list_none p.isList hu'; all_goals simp
    | bl b => cases rv; rw [eqD]; exact SeqAt.EqAt.list_bool b p.isList hu'; all_goals simp
    | int b => obtain ⟨t, rfl⟩ := rv; rw [eqD]; exact SeqAt.EqAt.list_int b t p.isList hu'; all_goals simp
    | str b => obtain ⟨t, rfl⟩ := rv; rw [eqD]; exact SeqAt.EqAt.list_str b t p.isList hu'; all_goals simp
    | @lst b ys es q2 rr2 =>
      cases rv
      obtain ⟨vs, r2, p2, _⟩ := I.list q2
      rw [eqD]
      by_cases hab : a = b
      · subst hab
        have e := I.list_inj q q2
        subst e
        rw [← RdVs.det I r rr2, RdVs.eqDs_self r]
        exact SeqAt.EqAt.same _
      · refine SeqAt.EqAt.of_refs hab (rc_lists p p2 (r1.length.symm.trans r.length) (r2.length.symm.trans rr2.length) hu' fun j h1 h2 => ?_)
        exact eqAt_Ds I r rr2 r1 r2 (in1_lt (by simpa only [PyData.depth] using hu)) j h1 h2
    | tup q2 rr2 => cases rv; obtain ⟨vs, _, p2, _⟩ := I.tuple q2; rw [eqD]; exact SeqAt.EqAt.list_tuple p.isList p2 hu'; all_goals simp
  | A, _, _, _, _, _, _, @RdV.tup _ _ a xs ds q r, h, ru, rv, hu => by
    cases ru
    have hu' : A.units < cLine := by omega
    obtain ⟨us, r1, p, _⟩ := I.tuple q
    cases h with
    | non => cases rv; rw [eqD]; exact SeqAt.EqAt.tuple_none p hu'; all_goals simp
    | bl b => cases rv; rw [eqD]; exact SeqAt.EqAt.tuple_bool b p hu'; all_goals simp
    | int b => obtain ⟨t, rfl⟩ := rv; rw [eqD]; exact SeqAt.EqAt.tuple_int b t p hu'; all_goals simp
    | str b => obtain ⟨t, rfl⟩ := rv; rw [eqD]; exact SeqAt.EqAt.tuple_str b t p hu'; all_goals simp
    | lst q2 rr2 => cases rv; obtain ⟨vs, _, p2, _⟩ := I.list q2; rw [eqD]; exact SeqAt.EqAt.tuple_list p p2.isList hu'; all_goals simp
    | @tup b ys es q2 rr2 =>
      cases rv
      obtain ⟨vs, r2, p2, _⟩ := I.tuple q2
      rw [eqD]
      by_cases hab : a = b
      · subst hab
        have e := I.tuple_inj q q2
        subst e
        rw [← RdVs.det I r rr2, RdVs.eqDs_self r]
        exact SeqAt.EqAt.same _
      · refine SeqAt.EqAt.of_refs hab (rc_tuples p p2 (r1.length.symm.trans r.length) (r2.length.symm.trans rr2.length) hu' fun j h1 h2 => ?_)
        exact eqAt_Ds I r rr2 r1 r2 (in1_lt (by simpa only [PyData.depth] using hu)) j h1 h2
theorem eqAt_Ds (I : Inv X pins σ H s) : ∀ {A : Around} {xs ys : List V} {ds es : List PyData} {us vs : List Value}, RdVs X.K H xs ds → RdVs X.K H ys es → Vals xs us → Vals ys vs → A.units + PyData.depthAll ds < cLine →
    ∀ j (h1 : j < us.length) (h2 : j < vs.length), SeqAt.EqAt A s us[j] vs[j] (eqD (ds.getD j .none) (es.getD j .none))
  | _, _, _, _, _, _, _, .nil, _, r1, _, _ => fun j h1 h2 => by cases r1; exact absurd h1 (Nat.not_lt_zero _)
  | A, _, _, _, _, _, _, @RdVs.cons _ _ x d xs ds r t, h, r1, r2, hu => fun j h1 h2 => by
    cases h with
    | nil => cases r2; exact absurd h2 (Nat.not_lt_zero _)
    | cons r' t' =>
      cases r1 with
      | cons ra ta =>
        cases r2 with
        | cons rb tb =>
          have hm : A.units + d.depth < cLine ∧ A.units + PyData.depthAll ds < cLine := by
            simp only [PyData.depthAll] at hu
            omega
          cases j with
          | zero => simpa using eqAt_D I r r' ra rb hm.1
          | succ j => simpa using eqAt_Ds I t t' ta tb hm.2 j (by simpa using h1) (by simpa using h2)
end
end
end Nd
namespace Nd
open PySem PySem.Spec PyProof.Rows L2
section
variable {X : Cx} {pins : List (Addr × Obj)} {σ : L2.St} {H : Hp} {s : Shared} {K : PySem.W.Frag}
theorem rc_listsN {A : Around} {a b : Addr} {us vs : List Value} {ds es : List PyData} (p1 : PlainL s.heap a us.toArray) (p2 : PlainL s.heap b vs.toArray) (l1 : us.length = ds.length) (l2 : vs.length = es.length) (hu : A.units < cLine)
    (he : ∀ j (h1 : j < us.length) (h2 : j < vs.length), SeqAt.EqAt A.in1 s us[j] vs[j] (eqD (ds.getD j .none) (es.getD j .none))) : SeqAt.RcNeAt A s (.ref a) (.ref b) (!eqDs ds es) := by
  rw [← eqDs_range]
  by_cases hl : ds.length = es.length
  · have hs : us.toArray.size = vs.toArray.size := by rw [List.size_toArray, List.size_toArray, l1, l2, hl]
    have h := SeqAt.RcNeAt.lists (A := A) (e := fun j => eqD (ds.getD j .none) (es.getD j .none)) p1.isList p2.isList hs hu (fun j h1 h2 => by simpa using he j (by simpa using h1) (by simpa using h2))
    rw [List.size_toArray, l1] at h
    rw [hl, Nat.min_self, beq_self_eq_true, Bool.and_true, ← hl]
    exact h
  · have hs : (us.toArray.size != vs.toArray.size) = true := by rw [List.size_toArray, List.size_toArray, l1, l2]; simpa using hl
    have h := SeqAt.RcNeAt.lists_lengths (A := A) p1.isList p2.isList hs hu
    have e0 : (ds.length == es.length) = false := by simpa using hl
    rw [e0, Bool.and_false]
    exact h
theorem rc_tuplesN {A : Around} {a b : Addr} {us vs : List Value} {ds es : List PyData} (p1 : IsTup s.heap a us.toArray) (p2 : IsTup s.heap b vs.toArray) (l1 : us.length = ds.length) (l2 : vs.length = es.length) (hu : A.units < cLine)
    (he : ∀ j (h1 : j < us.length) (h2 : j < vs.length), SeqAt.EqAt A.in1 s us[j] vs[j] (eqD (ds.getD j .none) (es.getD j .none))) : SeqAt.RcNeAt A s (.ref a) (.ref b) (!eqDs ds es) := by
  rw [← eqDs_range]
  have h := SeqAt.RcNeAt.tuples (A := A) (e := fun j => eqD (ds.getD j .none) (es.getD j .none)) (show s.heap.IsTuple a us.toArray from p1) (show s.heap.IsTuple b vs.toArray from p2) hu (fun j h1 h2 => by simpa using he j (by simpa using h1) (by simpa using h2))
  rw [List.size_toArray, List.size_toArray, l1, l2] at h
  exact h
end
section
variable {X : Cx}
def rEqD (K : PySem.W.Frag) : R2 := fun x y H Q => ∃ d e, RdV K H x d ∧ RdV K H y e ∧ d.depth ≤ 60 ∧ Q (.bl (eqD d e)) H
def rNeD (K : PySem.W.Frag) : R2 := fun x y H Q => ∃ d e, RdV K H x d ∧ RdV K H y e ∧ d.depth ≤ 60 ∧ Q (.bl (!eqD d e)) H
theorem op_eqD (hu : X.A.units + 64 < cLine) : OpR X (compareOp .Eq) (rEqD X.K) := by
  intro pins s σ H x y v u Q I rx ry h
  obtain ⟨d, e, h1, h2, hd, q⟩ := h
  have hu' : X.A.units < cLine := by omega
  cases h1 with
  | non =>
    cases rx
    cases h2 with
    | non => cases ry; rw [eqD] at q; exact SeqAt.RcAt.none_none _ _ _ _ ⟨.bl _, H, I, rfl, q⟩
    | bl b => cases ry; rw [eqD] at q; exact SeqAt.RcAt.none_bool b _ _ _ _ ⟨.bl _, H, I, rfl, q⟩; all_goals simp
    | int b => obtain ⟨t, rfl⟩ := ry; rw [eqD] at q; exact SeqAt.RcAt.none_int b t _ _ _ _ ⟨.bl _, H, I, rfl, q⟩; all_goals simp
    | str b => obtain ⟨t, rfl⟩ := ry; rw [eqD] at q; exact SeqAt.RcAt.none_str b t _ _ _ _ ⟨.bl _, H, I, rfl, q⟩; all_goals simp
    | @lst b ys es q2 rr2 => cases ry; obtain ⟨vs, r2, p2, _⟩ := I.list q2; rw [eqD] at q; exact SeqAt.RcAt.none_list p2.isList hu' _ _ _ _ ⟨.bl _, H, I, rfl, q⟩; all_goals simp
    | @tup b ys es q2 rr2 => cases ry; obtain ⟨vs, r2, p2, _⟩ := I.tuple q2; rw [eqD] at q; exact SeqAt.RcAt.none_tuple p2 hu' _ _ _ _ ⟨.bl _, H, I, rfl, q⟩; all_goals simp
  | bl a =>
    cases rx
    cases h2 with
    | non => cases ry; rw [eqD] at q; exact SeqAt.RcAt.bool_none a _ _ _ _ ⟨.bl _, H, I, rfl, q⟩; all_goals simp
    | bl b => cases ry; rw [eqD] at q; exact SeqAt.RcAt.bool_bool a b _ _ _ _ ⟨.bl _, H, I, rfl, q⟩
    | int b => obtain ⟨t, rfl⟩ := ry; rw [eqD] at q; exact SeqAt.RcAt.bool_int a b t _ _ _ _ ⟨.bl _, H, I, rfl, q⟩
    | str b => obtain ⟨t, rfl⟩ := ry; rw [eqD] at q; exact SeqAt.RcAt.bool_str a b t _ _ _ _ ⟨.bl _, H, I, rfl, q⟩; all_goals simp
    | @lst b ys es q2 rr2 => cases ry; obtain ⟨vs, r2, p2, _⟩ := I.list q2; rw [eqD] at q; exact SeqAt.RcAt.bool_list a p2.isList hu' _ _ _ _ ⟨.bl _, H, I, rfl, q⟩; all_goals simp
    | @tup b ys es q2 rr2 => cases ry; obtain ⟨vs, r2, p2, _⟩ := I.tuple q2; rw [eqD] at q; exact SeqAt.RcAt.bool_tuple a p2 hu' _ _ _ _ ⟨.bl _, H, I, rfl, q⟩; all_goals simp
  | int a =>
    obtain ⟨t', rfl⟩ := rx
    cases h2 with
    | non => cases ry; rw [eqD] at q; exact SeqAt.RcAt.int_none a t' _ _ _ _ ⟨.bl _, H, I, rfl, q⟩; all_goals simp
    | bl b => cases ry; rw [eqD] at q; exact SeqAt.RcAt.int_bool a t' b _ _ _ _ ⟨.bl _, H, I, rfl, q⟩
    | int b => obtain ⟨t, rfl⟩ := ry; rw [eqD] at q; exact SeqAt.RcAt.int_int a t' b t _ _ _ _ ⟨.bl _, H, I, rfl, q⟩
    | str b => obtain ⟨t, rfl⟩ := ry; rw [eqD] at q; exact SeqAt.RcAt.int_str a t' b t _ _ _ _ ⟨.bl _, H, I, rfl, q⟩; all_goals simp
    | @lst b ys es q2 rr2 => cases ry; obtain ⟨vs, r2, p2, _⟩ := I.list q2; rw [eqD] at q; exact SeqAt.RcAt.int_list a t' p2.isList hu' _ _ _ _ ⟨.bl _, H, I, rfl, q⟩; all_goals simp
    | @tup b ys es q2 rr2 => cases ry; obtain ⟨vs, r2, p2, _⟩ := I.tuple q2; rw [eqD] at q; exact SeqAt.RcAt.int_tuple a t' p2 hu' _ _ _ _ ⟨.bl _, H, I, rfl, q⟩; all_goals simp
  | str a =>
    obtain ⟨t', rfl⟩ := rx
    cases h2 with
    | non => cases ry; rw [eqD] at q; exact SeqAt.RcAt.str_none a t' _ _ _ _ ⟨.bl _, H, I, rfl, q⟩; all_goals simp
    | bl b => cases ry; rw [eqD] at q; exact SeqAt.RcAt.str_bool a t' b _ _ _ _ ⟨.bl _, H, I, rfl, q⟩; all_goals simp
    | int b => obtain ⟨t, rfl⟩ := ry; rw [eqD] at q; exact SeqAt.RcAt.str_int a t' b t _ _ _ _ ⟨.bl _, H, I, rfl, q⟩; all_goals simp
    | str b => obtain ⟨t, rfl⟩ := ry; rw [eqD] at q; exact SeqAt.RcAt.str_str a t' b t _ _ _ _ ⟨.bl _, H, I, rfl, q⟩
    | @lst b ys es q2 rr2 => cases ry; obtain ⟨vs, r2, p2, _⟩ := I.list q2; rw [eqD] at q; exact SeqAt.RcAt.str_list a t' p2.isList hu' _ _ _ _ ⟨.bl _, H, I, rfl, q⟩; all_goals simp
    | @tup b ys es q2 rr2 => cases ry; obtain ⟨vs, r2, p2, _⟩ := I.tuple q2; rw [eqD] at q; exact SeqAt.RcAt.str_tuple a t' p2 hu' _ _ _ _ ⟨.bl _, H, I, rfl, q⟩; all_goals simp
  | @lst a xs ds qa r =>
    cases rx
    obtain ⟨us, r1, p, _⟩ := I.list qa
    cases h2 with
    | non => cases ry; rw [eqD] at q; exact SeqAt.RcAt.list_none p.isList hu' _ _ _ _ ⟨.bl _, H, I, rfl, q⟩; all_goals simp
    | bl b => cases ry; rw [eqD] at q; exact SeqAt.RcAt.list_bool b p.isList hu' _ _ _ _ ⟨.bl _, H, I, rfl, q⟩; all_goals simp
    | int b => obtain ⟨t, rfl⟩ := ry; rw [eqD] at q; exact SeqAt.RcAt.list_int b t p.isList hu' _ _ _ _ ⟨.bl _, H, I, rfl, q⟩; all_goals simp
    | str b => obtain ⟨t, rfl⟩ := ry; rw [eqD] at q; exact SeqAt.RcAt.list_str b t p.isList hu' _ _ _ _ ⟨.bl _, H, I, rfl, q⟩; all_goals simp
    | @lst b ys es q2 rr2 => cases ry; obtain ⟨vs, r2, p2, _⟩ := I.list q2; rw [eqD] at q; exact rc_lists p p2 (r1.length.symm.trans r.length) (r2.length.symm.trans rr2.length) hu' (fun j h1 h2 => eqAt_Ds I r rr2 r1 r2 (in1_lt (by simp only [PyData.depth] at hd; omega)) j h1 h2) _ _ _ _ ⟨.bl _, H, I, rfl, q⟩
    | @tup b ys es q2 rr2 => cases ry; obtain ⟨vs, r2, p2, _⟩ := I.tuple q2; rw [eqD] at q; exact SeqAt.RcAt.list_tuple p.isList p2 hu' _ _ _ _ ⟨.bl _, H, I, rfl, q⟩; all_goals simp
  | @tup a xs ds qa r =>
    cases rx
    obtain ⟨us, r1, p, _⟩ := I.tuple qa
    cases h2 with
    | non => cases ry; rw [eqD] at q; exact SeqAt.RcAt.tuple_none p hu' _ _ _ _ ⟨.bl _, H, I, rfl, q⟩; all_goals simp
    | bl b => cases ry; rw [eqD] at q; exact SeqAt.RcAt.tuple_bool b p hu' _ _ _ _ ⟨.bl _, H, I, rfl, q⟩; all_goals simp
    | int b => obtain ⟨t, rfl⟩ := ry; rw [eqD] at q; exact SeqAt.RcAt.tuple_int b t p hu' _ _ _ _ ⟨.bl _, H, I, rfl, q⟩; all_goals simp
    | str b => obtain ⟨t, rfl⟩ := ry; rw [eqD] at q; exact SeqAt.RcAt.tuple_str b t p hu' _ _ _ _ ⟨.bl _, H, I, rfl, q⟩; all_goals simp
    | @lst b ys es q2 rr2 => cases ry; obtain ⟨vs, r2, p2, _⟩ := I.list q2; rw [eqD] at q; exact SeqAt.RcAt.tuple_list p p2.isList hu' _ _ _ _ ⟨.bl _, H, I, rfl, q⟩; all_goals simp
    | @tup b ys es q2 rr2 => cases ry; obtain ⟨vs, r2, p2, _⟩ := I.tuple q2; rw [eqD] at q; exact rc_tuples p p2 (r1.length.symm.trans r.length) (r2.length.symm.trans rr2.length) hu' (fun j h1 h2 => eqAt_Ds I r rr2 r1 r2 (in1_lt (by simp only [PyData.depth] at hd; omega)) j h1 h2) _ _ _ _ ⟨.bl _, H, I, rfl, q⟩
theorem op_neD (hu : X.A.units + 64 < cLine) : OpR X (compareOp .NotEq) (rNeD X.K) := by
  intro pins s σ H x y v u Q I rx ry h
  obtain ⟨d, e, h1, h2, hd, q⟩ := h
  have hu' : X.A.units < cLine := by omega
  cases h1 with
  | non =>
    cases rx
    cases h2 with
    | non => cases ry; rw [eqD] at q; exact SeqAt.RcNeAt.none_none _ _ _ _ ⟨.bl _, H, I, rfl, q⟩
    | bl b => cases ry; rw [eqD] at q; exact SeqAt.RcNeAt.none_bool b _ _ _ _ ⟨.bl _, H, I, rfl, q⟩; all_goals simp
    | int b => obtain ⟨t, rfl⟩ := ry; rw [eqD] at q; exact SeqAt.RcNeAt.none_int b t _ _ _ _ ⟨.bl _, H, I, rfl, q⟩; all_goals simp
    | str b => obtain ⟨t, rfl⟩ := ry; rw [eqD] at q; exact SeqAt.RcNeAt.none_str b t _ _ _ _ ⟨.bl _, H, I, rfl, q⟩; all_goals simp
    | @lst b ys es q2 rr2 => cases ry; obtain ⟨vs, r2, p2, _⟩ := I.list q2; rw [eqD] at q; exact SeqAt.RcNeAt.none_list p2.isList hu' _ _ _ _ ⟨.bl _, H, I, rfl, q⟩; all_goals simp
    | @tup b ys es q2 rr2 => cases ry; obtain ⟨vs, r2, p2, _⟩ := I.tuple q2; rw [eqD] at q; exact SeqAt.RcNeAt.none_tuple p2 hu' _ _ _ _ ⟨.bl _, H, I, rfl, q⟩; all_goals simp
  | bl a =>
    cases rx
    cases h2 with
    | non => cases ry; rw [eqD] at q; exact SeqAt.RcNeAt.bool_none a _ _ _ _ ⟨.bl _, H, I, rfl, q⟩; all_goals simp
    | bl b => cases ry; rw [eqD] at q; exact SeqAt.RcNeAt.bool_bool a b _ _ _ _ ⟨.bl _, H, I, rfl, q⟩
    | int b => obtain ⟨t, rfl⟩ := ry; rw [eqD] at q; exact SeqAt.RcNeAt.bool_int a b t _ _ _ _ ⟨.bl _, H, I, rfl, q⟩
    | str b => obtain ⟨t, rfl⟩ := ry; rw [eqD] at q; exact SeqAt.RcNeAt.bool_str a b t _ _ _ _ ⟨.bl _, H, I, rfl, q⟩; all_goals simp
    | @lst b ys es q2 rr2 => cases ry; obtain ⟨vs, r2, p2, _⟩ := I.list q2; rw [eqD] at q; exact SeqAt.RcNeAt.bool_list a p2.isList hu' _ _ _ _ ⟨.bl _, H, I, rfl, q⟩; all_goals simp
    | @tup b ys es q2 rr2 => cases ry; obtain ⟨vs, r2, p2, _⟩ := I.tuple q2; rw [eqD] at q; exact SeqAt.RcNeAt.bool_tuple a p2 hu' _ _ _ _ ⟨.bl _, H, I, rfl, q⟩; all_goals simp
  | int a =>
    obtain ⟨t', rfl⟩ := rx
    cases h2 with
    | non => cases ry; rw [eqD] at q; exact SeqAt.RcNeAt.int_none a t' _ _ _ _ ⟨.bl _, H, I, rfl, q⟩; all_goals simp
    | bl b => cases ry; rw [eqD] at q; exact SeqAt.RcNeAt.int_bool a t' b _ _ _ _ ⟨.bl _, H, I, rfl, q⟩
    | int b => obtain ⟨t, rfl⟩ := ry; rw [eqD] at q; exact SeqAt.RcNeAt.int_int a t' b t _ _ _ _ ⟨.bl _, H, I, rfl, q⟩
    | str b => obtain ⟨t, rfl⟩ := ry; rw [eqD] at q; exact SeqAt.RcNeAt.int_str a t' b t _ _ _ _ ⟨.bl _, H, I, rfl, q⟩; all_goals simp
    | @lst b ys es q2 rr2 => cases ry; obtain ⟨vs, r2, p2, _⟩ := I.list q2; rw [eqD] at q; exact SeqAt.RcNeAt.int_list a t' p2.isList hu' _ _ _ _ ⟨.bl _, H, I, rfl, q⟩; all_goals simp
    | @tup b ys es q2 rr2 => cases ry; obtain ⟨vs, r2, p2, _⟩ := I.tuple q2; rw [eqD] at q; exact SeqAt.RcNeAt.int_tuple a t' p2 hu' _ _ _ _ ⟨.bl _, H, I, rfl, q⟩; all_goals simp
  | str a =>
    obtain ⟨t', rfl⟩ := rx
    cases h2 with
    | non => cases ry; rw [eqD] at q; exact SeqAt.RcNeAt.str_none a t' _ _ _ _ ⟨.bl _, H, I, rfl, q⟩; all_goals simp
    | bl b => cases ry; rw [eqD] at q; exact SeqAt.RcNeAt.str_bool a t' b _ _ _ _ ⟨.bl _, H, I, rfl, q⟩; all_goals simp
    | int b => obtain ⟨t, rfl⟩ := ry; rw [eqD] at q; exact SeqAt.RcNeAt.str_int a t' b t _ _ _ _ ⟨.bl _, H, I, rfl, q⟩; all_goals simp
    | str b => obtain ⟨t, rfl⟩ := ry; rw [eqD] at q; exact SeqAt.RcNeAt.str_str a t' b t _ _ _ _ ⟨.bl _, H, I, rfl, q⟩
    | @lst b ys es q2 rr2 => cases ry; obtain ⟨vs, r2, p2, _⟩ := I.list q2; rw [eqD] at q; exact SeqAt.RcNeAt.str_list a t' p2.isList hu' _ _ _ _ ⟨.bl _, H, I, rfl, q⟩; all_goals simp
    | @tup b ys es q2 rr2 => cases ry; obtain ⟨vs, r2, p2, _⟩ := I.tuple q2; rw [eqD] at q; exact SeqAt.RcNeAt.str_tuple a t' p2 hu' _ _ _ _ ⟨.bl _, H, I, rfl, q⟩; all_goals simp
  | @lst a xs ds qa r =>
    cases rx
    obtain ⟨us, r1, p, _⟩ := I.list qa
    cases h2 with
    | non => cases ry; rw [eqD] at q; exact SeqAt.RcNeAt.list_none p.isList hu' _ _ _ _ ⟨.bl _, H, I, rfl, q⟩; all_goals simp
    | bl b => cases ry; rw [eqD] at q; exact SeqAt.RcNeAt.list_bool b p.isList hu' _ _ _ _ ⟨.bl _, H, I, rfl, q⟩; all_goals simp
    | int b => obtain ⟨t, rfl⟩ := ry; rw [eqD] at q; exact SeqAt.RcNeAt.list_int b t p.isList hu' _ _ _ _ ⟨.bl _, H, I, rfl, q⟩; all_goals simp
    | str b => obtain ⟨t, rfl⟩ := ry; rw [eqD] at q; exact SeqAt.RcNeAt.list_str b t p.isList hu' _ _ _ _ ⟨.bl _, H, I, rfl, q⟩; all_goals simp
    | @lst b ys es q2 rr2 => cases ry; obtain ⟨vs, r2, p2, _⟩ := I.list q2; rw [eqD] at q; exact rc_listsN p p2 (r1.length.symm.trans r.length) (r2.length.symm.trans rr2.length) hu' (fun j h1 h2 => eqAt_Ds I r rr2 r1 r2 (in1_lt (by simp only [PyData.depth] at hd; omega)) j h1 h2) _ _ _ _ ⟨.bl _, H, I, rfl, q⟩
    | @tup b ys es q2 rr2 => cases ry; obtain ⟨vs, r2, p2, _⟩ := I.tuple q2; rw [eqD] at q; exact SeqAt.RcNeAt.list_tuple p.isList p2 hu' _ _ _ _ ⟨.bl _, H, I, rfl, q⟩; all_goals simp
  | @tup a xs ds qa r =>
    cases rx
    obtain ⟨us, r1, p, _⟩ := I.tuple qa
    cases h2 with
    | non => cases ry; rw [eqD] at q; exact SeqAt.RcNeAt.tuple_none p hu' _ _ _ _ ⟨.bl _, H, I, rfl, q⟩; all_goals simp
    | bl b => cases ry; rw [eqD] at q; exact SeqAt.RcNeAt.tuple_bool b p hu' _ _ _ _ ⟨.bl _, H, I, rfl, q⟩; all_goals simp
    | int b => obtain ⟨t, rfl⟩ := ry; rw [eqD] at q; exact SeqAt.RcNeAt.tuple_int b t p hu' _ _ _ _ ⟨.bl _, H, I, rfl, q⟩; all_goals simp
    | str b => obtain ⟨t, rfl⟩ := ry; rw [eqD] at q; exact SeqAt.RcNeAt.tuple_str b t p hu' _ _ _ _ ⟨.bl _, H, I, rfl, q⟩; all_goals simp
    | @lst b ys es q2 rr2 => cases ry; obtain ⟨vs, r2, p2, _⟩ := I.list q2; rw [eqD] at q; exact SeqAt.RcNeAt.tuple_list p p2.isList hu' _ _ _ _ ⟨.bl _, H, I, rfl, q⟩; all_goals simp
    | @tup b ys es q2 rr2 => cases ry; obtain ⟨vs, r2, p2, _⟩ := I.tuple q2; rw [eqD] at q; exact rc_tuplesN p p2 (r1.length.symm.trans r.length) (r2.length.symm.trans rr2.length) hu' (fun j h1 h2 => eqAt_Ds I r rr2 r1 r2 (in1_lt (by simp only [PyData.depth] at hd; omega)) j h1 h2) _ _ _ _ ⟨.bl _, H, I, rfl, q⟩
end
end Nd
namespace Nd
open PySem PySem.Spec PyProof.Rows L2
section
variable {X : Cx} {pins : List (Addr × Obj)} {σ : L2.St} {H : Hp} {s : Shared} {h' : Heap}
theorem turnedL {t' : Nat} {fp : List Addr} (I : Inv X pins σ H s) (k : ∀ b o, b ∉ fp → s.heap.get? b = some o → h'.get? b = some o) (hf : ∀ b ∈ fp, FpOk X pins H b) : Inv X pins σ H { s with heap := h', toks := t' } := by
  have nit : ∀ b u, H b = some u → b ∉ fp := fun b u e z => by rw [(hf b z).1] at e; cases e
  refine I.step (g' := s.gens) (d' := s.drawn) (ch := fp) (fun b hb => ?_) (fun b o _ _ hc e _ => k b o hc e) (fun b o _ _ hc e _ => ⟨o.slots, k b o hc e⟩) (fun _ _ _ _ n => n)
    (fun b o hc e => ⟨o, k b o hc e⟩) (fun _ _ e => e) (fun _ _ _ e => e) (fun b ps e => ⟨#[], by rw [e]; simp⟩) (fun m hm => ?_) (fun b u e => ?_) I.bare
  · obtain ⟨_, f1, _, f3, f4, f5⟩ := hf b hb
    exact ⟨f3, f1, f4, f5⟩
  · obtain ⟨o, es, ep, ho, r⟩ := hm
    exact ⟨o, es, ep, k _ o (fun z => (hf _ z).2.1 rfl) ho, r⟩
  · refine (I.hok b u e).stay (fun c v hc q => k c v ?_ q) (fun _ q => q) fun _ _ q => q
    rcases hc with z | z
    · rw [z]; exact nit b u e
    · exact nit c _ z
end
end Nd
namespace Nd
open PySem PySem.Spec PyProof.Rows L2
end Nd
namespace Nd
open PySem PySem.Spec PyProof.Rows L2
end Nd
namespace Nd
open PySem L2
def rCatX (K : PySem.W.Frag) : R2 := fun x y H Q => ∃ a b xs ys, x = .ref a ∧ y = .ref b ∧ SqT K H a xs ∧ SqT K H b ys ∧ xs.length + ys.length ≤ sizeLine ∧ (xs = [] → Q (.ref b) H) ∧ (ys = [] → Q (.ref a) H) ∧ (∀ p, H p = none → Q (.ref p) (upd H p (.tup (xs ++ ys))))
open PyProof.Rows in
theorem op_catX {X : Cx} : OpR X (binaryOp .Add) (rCatX X.K) := by
  intro pins s σ H x y v u Q I rx ry h
  obtain ⟨a, b, xs, ys, rfl, rfl, ha, hb, hz, q1, q3, q2⟩ := h
  by_cases hx : xs = []
  · cases rx
    cases ry
    obtain ⟨its, r1, p1, _⟩ := I.tuple ha
    obtain ⟨its2, r2, p2, _⟩ := I.tuple hb
    have e1 : its = [] := r1.nil_iff.mpr hx
    subst e1
    obtain ⟨⟨c1, d1, dt1, sl1⟩, g1, k1, n1, e1⟩ := id p1
    obtain ⟨⟨c2, d2, dt2, sl2⟩, g2, k2, n2, e2⟩ := id p2
    simp only at k1 e1 k2 e2
    subst k1 e1 k2 e2
    exact concat_meets ⟨_, g1, rfl⟩ ⟨_, g2, rfl⟩ noFill_tuple_add seq_tuple_add PySem.F.slot_tuple_add PySem.F.entry_tuple_add (PySem.F.args_tuple_add_2 _ _)
      (tuple_addW0 a b _ _ n1 n2 d1 d2 sl1 sl2 rfl) ⟨g1, g2, ⟨.ref b, H, I, rfl, q1 hx⟩⟩
  · exact op_catT pins s σ H (.ref a) (.ref b) v u Q I rx ry ⟨a, b, xs, ys, rfl, rfl, ha, hb, hx, hz, q3, fun _ => q2⟩
end Nd
namespace Nd
open PySem PySem.Spec PyProof.Rows L2
end Nd
namespace Nd
open PySem L2
theorem PSs.imp {X : Cx} {st : List Stmt} {t t' : TS} (h : PSs X st t) (k : ∀ D σ H, t' D σ H → t D σ H) : PSs X st t' := fun pins s σ H D I q => h pins s σ H D I (k D σ H q)
theorem PS.imp {X : Cx} {st : Stmt} {t t' : TS} (h : PS X st t) (k : ∀ D σ H, t' D σ H → t D σ H) : PS X st t' := fun pins s σ H D I q => h pins s σ H D I (k D σ H q)
theorem PSs.by {X : Cx} {st : List Stmt} {t' : TS} (h : ∃ t, PSs X st t ∧ ∀ D σ H, t' D σ H → t D σ H) : PSs X st t' := let ⟨_, h1, h2⟩ := h; PSs.imp h1 h2
def rIs (K : PySem.W.Frag) : List V → Hp → VK → Prop := fun xs H Q => ∃ x n t b, xs = [x, .ty n] ∧ TyOf K H x t ∧ PySem.W.kitOne K t (.type n) = some b ∧ Q (.bl b) H
theorem isi_ok {X : Cx} : CallR X (.builtin "isinstance") (rIs X.K) := call_isinst
theorem kit_eq {K : PySem.W.Frag} {T : String} : PySem.W.kitOne K (.type T) (.type T) = some true := by
  unfold PySem.W.kitOne
  rw [if_pos (by simp)]
theorem sz {n : Nat} (h : n ≤ 1000 := by first | decide | simp | (simp; omega)) : n ≤ sizeLine := Nat.le_of_lt (small1000 h)
theorem same_upd {D : Addr} {H1 H : Hp} {o : HO} (n : H1 D = none) (s : Same H1 H) : Same H1 (upd H D o) := fun b u e => by
  rw [upd_ne (ne_of_none e n)]; exact s _ _ e
theorem RdVs.len {K : PySem.W.Frag} {H : Hp} : ∀ {xs : List V} {ds : List PyData}, RdVs K H xs ds → xs.length = ds.length
  | _, _, .nil => rfl
  | _, _, .cons _ t => by rw [List.length_cons, List.length_cons, RdVs.len t]
theorem cut_int (xs : List Int) (lo hi : Option Int) : ∃ ys : List Int, cutV (xs.map V.int) lo hi = ys.map V.int ∧ ys.length ≤ xs.length := by
  refine ⟨(xs.drop (HT.sIx xs.length 0 lo)).take (HT.sIx xs.length xs.length hi - HT.sIx xs.length 0 lo), ?_, ?_⟩
  · unfold cutV
    rw [List.length_map, List.map_take, List.map_drop]
  · exact ((List.take_sublist _ _).trans (List.drop_sublist _ _)).length_le
end Nd
namespace Nd
open PySem PySem.Spec PyProof.Rows L2
theorem okThere {P : Program} {w : World} {H : Hp} {h : Heap} {a : Addr} {o : HO} (x : ObjOk P w H h a o) : ∃ u, h.get? a = some u := by
  cases o with
  | lst xs => obtain ⟨_, _, _, _, e⟩ := x; exact ⟨_, e⟩
  | tup xs => obtain ⟨_, _, _, u, e, _⟩ := x; exact ⟨_, e⟩
  | dK kvs => obtain ⟨_, _, _, _, u, _, _, e, _⟩ := x; exact ⟨_, e⟩
  | dT kvs => obtain ⟨_, _, _, _, u, _, _, e, _⟩ := x; exact ⟨_, e⟩
  | set S n => obtain ⟨u, _, _, _, e, _⟩ := x; exact ⟨_, e⟩
  | ins C dx fs => obtain ⟨_, _, _, e, _⟩ := x; exact ⟨_, e⟩
  | own y => exact x
  | xd fs => obtain ⟨_, ⟨_, _, _, e, _⟩, _⟩ := x; exact ⟨_, e⟩
  | rng lo hi => obtain ⟨_, _, _, e⟩ := x; exact ⟨_, e⟩
  | frz ob u => obtain ⟨e, _⟩ := x; exact ⟨_, e⟩
  | tbl ps => exact ⟨_, (show h.get? a = some _ from x)⟩
  | met f y => exact ⟨_, (show h.get? a = some _ from x)⟩
  | ext φ => obtain ⟨_, e, _⟩ := x; exact e
structure Fly (P : Program) (w : World) (outer : List Env) (H H' : Hp) (s s' : Shared) (e C t : Addr) (B : Heap) : Prop where
  os : s'.os = s.os
  bare : AllBare s'.gens
  fly : Heap.FlyingW B outer e (.ref C) (.ref t) s'.heap
  cov : ∀ b o, s.heap.get? b = some o → b ∉ frs outer → ∃ o', B.get? b = some o' ∧ (H b = none → o' = o)
  slot : ∀ b o, s.heap.get? b = some o → b ∈ frs outer → H b = none → ∃ sl, s'.heap.get? b = some { o with slots := sl }
  free : ∀ b o, s.heap.get? b = some o → H b = none → H' b = none
  tups : ∀ b xs, H b = some (.tup xs) → H' b = some (.tup xs)
  frzs : ∀ b o u, H b = some (.frz o u) → H' b = some (.frz o u)
  tbls : ∀ b ps, H b = some (.tbl ps) → ∃ more, H' b = some (.tbl (ps ++ more))
  hok : HOk P w H' B
def CXN (P : Program) (w : World) : CXT := fun outer H s E ev s' => ∃ (e C t : Addr) (H' : Hp) (B : Heap), ev = .ref e ∧ Fly P w outer H H' s s' e C t B ∧ E (.ref C) none H'
section
variable {P : Program} {w : World} {outer : List Env} {H H' : Hp} {s s' : Shared} {e C t : Addr} {B : Heap}
theorem Fly.un (F : Fly P w outer H H' s s' e C t B) : Un (frs outer) [] H H' s.heap s'.heap where
  keep := fun b o q n hb _ => by
    obtain ⟨o', e1, e2⟩ := F.cov b o q hb
    rw [e2 n] at e1
    exact F.fly.1 b o e1
  slot := fun b o q n hb _ => F.slot b o q hb n
  free := fun b o q n _ => F.free b o q n
  there := fun b o q _ => by
    by_cases hb : b ∈ frs outer
    · obtain ⟨_, o', e1, _⟩ := F.fly.2.2.1.mem hb
      exact ⟨o', e1⟩
    · obtain ⟨o', e1, _⟩ := F.cov b o q hb
      exact ⟨o', F.fly.1 b o' e1⟩
  tups := F.tups
  frzs := F.frzs
  tbls := F.tbls
theorem Fly.held (F : Fly P w outer H H' s s' e C t B) : HOk P w H' s'.heap := F.hok.kept F.fly.1
theorem Fly.new (F : Fly P w outer H H' s s' e C t B) : H' e = none := by
  cases q : H' e with
  | none => rfl
  | some u =>
    obtain ⟨o, e1⟩ := okThere (F.hok e u q)
    rw [F.fly.2.1] at e1
    cases e1
theorem Fly.on {h' : Heap} (F : Fly P w outer H H' s s' e C t B) (f : Heap.FlyingW B outer e (.ref C) (.ref t) h') (u : s'.heap.UpToSlots h') : Fly P w outer H H' s { s' with heap := h' } e C t B :=
  ⟨F.os, F.bare, f, F.cov, fun b o q hb n => by
    obtain ⟨sl, e1⟩ := F.slot b o q hb n
    obtain ⟨_, o', e2, nf⟩ := F.fly.2.2.1.mem hb
    rw [e1] at e2
    cases e2
    obtain ⟨sl', e3⟩ := u b _ e1 nf
    exact ⟨sl', e3⟩, F.free, F.tups, F.frzs, F.tbls, F.hok⟩
end
section
variable {P : Program} {w : World} {K : PySem.W.Frag} {mg : Str → Option Value} {base : Heap} {N : List Str} {qual : Str} {scope : Scope} {f : Addr} {cd : Value} {A : Around} {outer : List Env} {s : Shared} {H : Hp} {E : XK}
theorem mem_frs {env : Env} {L b : Addr} {l : List Env} (he : env.frame = some L) (hm : b ∈ frs (env :: l)) : b = L ∨ b ∈ frs l := by
  obtain ⟨x, hx, hf⟩ := List.mem_filterMap.mp hm
  rcases List.mem_cons.mp hx with z | z
  · subst z
    rw [he] at hf
    exact .inl (Option.some.inj hf).symm
  · exact .inr (List.mem_filterMap.mpr ⟨x, z, hf⟩)
theorem raised_here {pins : List (Addr × Obj)} {σ : L2.St} {H1 : Hp} {s1 : Shared} {h' : Heap} {e C : Addr} {vs : List Value}
    (I : Inv (cxOf (CXN P w) P w K mg base N qual scope f cd A outer s H E) pins σ H1 s1) (hx : Heap.MadeExcOf s1.heap h' e (.ref C) vs) (q : E (.ref C) none H1) :
    (cxOf (CXN P w) P w K mg base N qual scope f cd A outer s H E).xe (.ref e) { s1 with heap := h' } := by
  have hst := I.stack
  have hfrz := I.stkFree
  have hab := I.ok.above
  have hb := I.base
  have hin : ∀ env ∈ (envOfC qual scope s.heap.objs.size f cd :: outer), ∀ b, env.frame = some b → b ∈ frs (envOfC qual scope s.heap.objs.size f cd :: outer) := fun env he b hf => List.mem_filterMap.mpr ⟨env, he, hf⟩
  have nL : ∀ b o, s.heap.get? b = some o → b ∉ frs outer → b ∉ frs (envOfC qual scope s.heap.objs.size f cd :: outer) := fun b o e1 hn hm => by
    rcases mem_frs (L := s.heap.objs.size) rfl hm with z | z
    · exact absurd (Heap.lt_size e1) (by rw [z]; exact Nat.lt_irrefl _)
    · exact hn z
  refine wpAny_leaves_madeW (base := PySem.W.hideAll s1.heap (frs (envOfC qual scope s.heap.objs.size f cd :: outer))) (L := s.heap.objs.size) I.ok.frames rfl (fun b o e1 => PySem.W.of_hideAll _ e1) (PySem.W.funFrames_hide hst hin) hx fun h2 t x1 x2 x3 x4 => ?_
  refine ⟨e, C, t, H1, _, rfl, ⟨I.os, I.bare, x1, fun b o e1 hn => ?_, fun b o e1 hm n => ?_, fun b o e1 n => hb.free b o e1 n (by intro z; exact nomatch z), hb.tups, hb.frzs, hb.tbls, fun a u e1 => ?_⟩, q⟩
  · obtain ⟨o', e2⟩ := hb.there b o e1 (by intro z; exact nomatch z)
    refine ⟨o', PySem.W.hideAll_get _ e2 (nL b o e1 hn), fun n => ?_⟩
    have e3 := hb.keep b o e1 n hn (by intro z; exact nomatch z)
    rw [e3] at e2
    exact (Option.some.inj e2).symm
  · obtain ⟨sl, e2⟩ := hb.slot b o e1 n hm (by intro z; exact nomatch z)
    have hm' : b ∈ frs (envOfC qual scope s.heap.objs.size f cd :: outer) := by
      obtain ⟨x, hx', hf⟩ := List.mem_filterMap.mp hm
      exact List.mem_filterMap.mpr ⟨x, List.mem_cons_of_mem _ hx', hf⟩
    obtain ⟨_, o', e3, nf⟩ := hst.mem hm'
    rw [e2] at e3
    cases e3
    obtain ⟨sl', e4⟩ := x4 b _ (hx.keeps _ _ e2) nf
    exact ⟨sl', e4⟩
  · refine (I.hok a u e1).stay (fun b v hc e2 => PySem.W.hideAll_get _ e2 fun hm => ?_) (fun _ z => z) (fun _ _ z => z)
    have z := hfrz b hm
    rcases hc with r | r
    · rw [r, e1] at z; cases z
    · rw [r] at z; cases z
theorem okX {x : Str} {st : Stmt} {fd : FuncData} {ps : List Str} {k : Nat} {sp : Sp} (F : Fun K x qual st f fd) (S : FnScope N ps (defScope st)) (len : ∀ vs H Q E, sp vs H Q E → vs.length = ps.length)
    (hbody : ∀ (cdv : Value) (A : Around) (outer : List Env) (s : Shared) (H : Hp) (vs : List V) (Q : VK) (E : XK), Room k (A.deeper (envOfC qual (defScope st) s.heap.objs.size f cdv)) → sp vs H Q E →
      ∃ t, PSs (cxOf (CXN P w) P w K mg base N qual (defScope st) f cdv A outer s H E) (defBody st) t ∧ t { nx := fun _ H' => Q .non H', rt := Q } (start N vs) H) : FnOk P w K mg base (CXN P w) (k + 1) f fd ps sp := by
  obtain ⟨oc, od, kV, doc, pm, an, cdv, ct, osl, rfl, lk, hcd⟩ := F.ex
  exact fn_of lk hcd S len fun A outer s H vs Q E hr hsp => hbody cdv A outer s H vs Q E hr hsp
end
abbrev bmV : List Value := [.type "ValueError", .type "Exception", .type "BaseException", .type "object"]
def OwnExc (h : Heap) (C : Addr) : Prop := ∃ bm N nm q bs hdct sn sub ab col dd k0 k1 k2 k3 k5 mN, h.get? C = some (excClassObj nm q C N bs bm hdct sn sub ab col dd k0 k1 k2 k3 k5 "ValueError.__new__") ∧ h.Ns N mN ∧ mN "__init__" = none ∧ OwnTail h bmV bm
theorem ownExc_of {K : PySem.W.Frag} {h : Heap} {C : Addr} (X : K.In h) (q : PySem.W.excIn K C bmV "ValueError.__new__" = true) : OwnExc h C := by
  unfold PySem.W.excIn at q
  split at q
  · rename_i dd cd sl ho
    split at q
    · rename_i C' bm k0 k1 k2 k3 n k5 hm hs
      simp only [Bool.and_eq_true, beq_iff_eq, Bool.not_eq_true'] at q
      obtain ⟨⟨⟨⟨⟨rfl, rfl⟩, hdel⟩, ht⟩, hok⟩, hni⟩ := q
      obtain ⟨nm, bs, mro, ns, qn, hd, sn, sub, ab, col, del⟩ := cd
      dsimp only at hm hdel hok hni
      subst hm hdel
      have hsl : sl = #[k0, k1, k2, k3, some (.builtin "ValueError.__new__"), k5] := by
        obtain ⟨l⟩ := sl
        simp only at hs
        rw [hs]
      subst hsl
      exact ⟨bm, ns, nm, qn, bs, hd, sn, sub, ab, col, dd, k0, k1, k2, k3, k5, _, X _ _ ho, .of_isNs (PySem.W.isNs_of_in X hok), PySem.W.nsMap_none_of_in X hok hni, PySem.W.tail_of_in X ht⟩
    · cases q
  · cases q
section
variable {P : Program} {w : World} {K : PySem.W.Frag} {mg : Str → Option Value} {base : Heap} {N : List Str} {qual : Str} {scope : Scope} {f : Addr} {cd : Value} {A : Around} {outer : List Env} {s : Shared} {H : Hp} {E : XK}
def tRaise (C : Addr) (E : XK) (ta : TA) : TS := fun _ σ H => ta σ H fun vs H1 => vs.length ≤ sizeLine ∧ E (.ref C) none H1
theorem ps_raise {C : Addr} {x : Str} {np cpos pos : Pos} {e₀ : Expr} {es : List Expr} {ta : TA} (hg : Gl (cxOf (CXN P w) P w K mg base N qual scope f cd A outer s H E) x) (hm : mg x = some (.ref C))
    (hc : PySem.W.excIn K C bmV "ValueError.__new__" = true)
    (ha : PA (cxOf (CXN P w) P w K mg base N qual scope f cd A outer s H E) (e₀ :: es) ta) (hd : (x == ("__debug__" : Str)) = false := by decide)
    (he : starEach (e₀ :: es) (envOfC qual scope s.heap.objs.size f cd) = (false, eval e₀ (envOfC qual scope s.heap.objs.size f cd)) :: starEach es (envOfC qual scope s.heap.objs.size f cd) := by rfl)
    (hpl : (backTo cpos (starEach es (envOfC qual scope s.heap.objs.size f cd))).any (·.1) = false := by rfl) :
    PS (cxOf (CXN P w) P w K mg base N qual scope f cd A outer s H E) (.Raise (some (.Call (.Name x np) (e₀ :: es) [] cpos)) none pos) (tRaise C E ta) := by
  intro pins s1 σ H1 D I h
  obtain ⟨bm, NN, nm, q, bs, hdct, sn, sub, ab, col, dd, k0, k1, k2, k3, k5, mN, hC, hN, hni, T⟩ := ownExc_of (h := base) I.ok.mod.kin hc
  refine wpAny_Raise_call_subT (C := C) (nm := nm) (q := q) (N := NN) (bs := bs) (bm := bm) (hdct := hdct) (sn := sn) (sub := sub) (ab := ab) (col := col) (dd := dd) (k0 := k0) (k1 := k1) (k2 := k2) (k3 := k3) (k5 := k5) F.excBase_ValueError (mN := mN)
    (T.hasType (by decide)) (I.ok.hd rfl) (by show (backTo cpos (starEach (e₀ :: es) (envOfC qual scope s.heap.objs.size f cd))).any (·.1) = false; rw [he]; show (false || (backTo cpos (starEach es (envOfC qual scope s.heap.objs.size f cd))).any (·.1)) = false; rw [hpl]; rfl) hni (ld_glob I hg hm ⟨rfl, ?_⟩ hd)
  show wpAny _ _ (evalArgs (.ref C) true (backTo cpos (starEach (e₀ :: es) (envOfC qual scope s.heap.objs.size f cd))) []) _ _ _
  rw [he]
  have hA := ha cpos pins s1 σ H1 _ I h
  rw [show starEach (e₀ :: es) (cxOf (CXN P w) P w K mg base N qual scope f cd A outer s H E).env = (false, eval e₀ (envOfC qual scope s.heap.objs.size f cd)) :: starEach es (envOfC qual scope s.heap.objs.size f cd) from he] at hA
  refine Calls.evalArgs_plain (wpAny_mono hA (fun us s2 h2 => ?_) fun _ _ y => y)
  obtain ⟨vs, H2, I2, rv, hz, hE⟩ := h2
  have hk : ∀ b o, base.get? b = some o → s2.heap.get? b = some o := I2.bk
  exact ⟨rfl, by rw [← rv.length]; exact hz, hk _ _ hC, hN.keeps hk, T.keeps hk, fun h' e hx => raised_here I2 hx hE⟩
end
end Nd
namespace Nd
open PySem PySem.Spec PyProof.Rows L2
abbrev marked (X : Cx) (v : Value) (E : Value → Shared → Prop) : Cx := { X with A := X.A.mark (some v), calm := false, xe := E }
section
variable {X : Cx} {pins : List (Addr × Obj)} {σ : L2.St} {H : Hp} {s : Shared} {v : Value} {E : Value → Shared → Prop}
theorem inv_marked (I : Inv X pins σ H s) : Inv (marked X v E) pins σ H s :=
  ⟨⟨I.ok.mod, I.ok.kind, I.ok.glob, I.ok.blt, I.ok.above, I.ok.inj, I.ok.has, I.ok.cab, (fun z => nomatch z), I.ok.frames, I.ok.stk, I.ok.exf, I.ok.bs, I.ok.bsz, I.ok.noex, I.ok.exfs, I.ok.funs, I.ok.frf⟩, I.os, I.bare, I.base, I.loc, I.cell, I.free, I.freeC, I.pin, I.hok, I.len⟩
theorem inv_unmarked (hc : X.calm = true → X.A.handled = none) (I : Inv (marked X v E) pins σ H s) : Inv X pins σ H s :=
  ⟨⟨I.ok.mod, I.ok.kind, I.ok.glob, I.ok.blt, I.ok.above, I.ok.inj, I.ok.has, I.ok.cab, hc, I.ok.frames, I.ok.stk, I.ok.exf, I.ok.bs, I.ok.bsz, I.ok.noex, I.ok.exfs, I.ok.funs, I.ok.frf⟩, I.os, I.bare, I.base, I.loc, I.cell, I.free, I.freeC, I.pin, I.hok, I.len⟩
theorem gone_ok {M : Model} {A : Around} {i : Nat} {n : Str} {pos : Pos} {Q : Unit → Shared → Prop} (I : Inv X pins σ H s) (hN : X.N.Nodup) (hi : X.N[i]? = some n) (hk : X.env.scope.names.lookup n = some .local)
    (h : ∀ s', Inv X pins (σ.set i none) H s' → Q () s') : wpAny M A (do bindName X.env n .none; unbindBehindTheSuite X.env n pos) Q E s := by
  obtain ⟨m, hn, hl⟩ := id I.loc
  have hiσ : i < σ.length := by rw [I.len]; exact (List.getElem?_eq_some_iff.mp hi).1
  refine wpAny_nameGoes_keeps hk hn (by rw [I.ok.kind]; rfl) fun h' v hn' hs => ?_
  obtain ⟨oL, _, _, hoL, _⟩ := id hn
  have old : ∀ b o, X.s₀.heap.get? b = some o → b ≠ X.env.locals := fun b o e => Nat.ne_of_lt (Nat.lt_of_lt_of_le (Heap.lt_size e) I.ok.above)
  refine h _ ⟨I.ok, I.os, I.bare, ⟨fun b o e n hb hx => (hs.2 b (old b o e)).trans (I.base.keep b o e n hb hx), fun b o e n hb hx => ?_, I.base.free, fun b o e hx => ?_, I.base.tups, I.base.frzs, I.base.tbls⟩, ⟨_, hn', fun j y v' e1 e2 e3 => ?_⟩, fun y c e => ?_, I.free, I.freeC, fun p hp => ?_, fun b ob e => ?_, by simpa using I.len⟩
  · obtain ⟨sl, e1⟩ := I.base.slot b o e n hb hx
    exact ⟨sl, (hs.2 b (old b o e)).trans e1⟩
  · obtain ⟨o', e1⟩ := I.base.there b o e hx
    exact ⟨o', (hs.2 b (old b o e)).trans e1⟩
  · by_cases hj : j = i
    · subst hj
      rw [List.getElem?_set_self hiσ] at e2
      cases e2
    · rw [List.getElem?_set_ne (Ne.symm hj)] at e2
      obtain ⟨u', r', q⟩ := hl j y v' e1 e2 e3
      refine ⟨u', r', ?_⟩
      rcases q with ⟨k, e⟩ | ⟨k, c, e, z⟩
      · have ny : y ≠ n := fun z => hj (nodup_ix hN e1 (z ▸ hi))
        exact .inl ⟨k, (if_neg ny).trans e⟩
      · exact .inr ⟨k, c, e, z.sameBut hs (I.cne y c e)⟩
  · obtain ⟨w', z⟩ := I.cell y c e
    exact ⟨w', z.sameBut hs (I.cne y c e)⟩
  · obtain ⟨e, n, ne, nf, d⟩ := I.pin p hp
    exact ⟨(hs.2 p.1 ne).trans e, n, ne, nf, d⟩
  · refine (I.hok b ob e).stay (fun c w' hc q => (hs.2 c ?_).trans q) (fun _ q => q) fun _ _ q => q
    intro z
    have f := I.free
    rw [← z] at f
    rcases hc with r | r
    · rw [r, e] at f; cases f
    · rw [r] at f; cases f
theorem PA.nox {es : List Expr} {t : TA} (h : PA X.nox es t) : PA X es t := fun pos pins s σ H Q I hw =>
  wpAny_mono (h pos pins s σ H Q (I.wish _) hw) (fun _ _ ⟨v, H', I', r, q⟩ => ⟨v, H', I'.unwish, r, q⟩) fun _ _ z => False.elim z
end
def IsExc (x C : Addr) (h : Heap) : Prop := ∃ oe vs, h.get? x = some oe ∧ oe.cls = .ref C ∧ oe.data = .fields vs
abbrev ExO (x C : Addr) : HO := .ext (IsExc x C)
theorem exO_ok {P : Program} {w : World} {H : Hp} {h : Heap} {x C : Addr} (e : IsExc x C h) : ObjOk P w H h x (ExO x C) :=
  ⟨e, let ⟨oe, _, e1, _⟩ := e; ⟨oe, e1⟩, fun h1 h2 ⟨oe, vs, e1, e2, e3⟩ k => ⟨oe, vs, k oe e1, e2, e3⟩⟩
section
variable {M : Model} {A : Around} {E : Value → Shared → Prop} {h : Heap} {g : Array GenState} {d : Drawn} {t : Nat} {os : OsState}
variable {nm q : Str} {N : Addr} {bs bm : List Value} {hdct : Bool} {sn : List Str} {sub : List Value} {ab : Bool} {col : Option Bool} {dd : Option Addr} {k0 k1 k2 k3 k5 : Option Value} {newId : String}
theorem matches_own {K : PySem.W.Frag} {e C D : Addr} {oe : Obj} {Q : Bool → Shared → Prop} (KX : K.In h) (hD : h.get? D = some (excClassObj nm q D N bs bm hdct sn sub ab col dd k0 k1 k2 k3 k5 newId)) (he : h.get? e = some oe) (hc : oe.cls = .ref C)
    (hb : bm.contains (.type "BaseException") = true) (hs : PySem.W.subIn K (.ref C) (.ref D) = some true) (hq : Q true ⟨h, g, d, t, os⟩) : wpAny M A (excMatches (.ref e) (.ref D)) Q E ⟨h, g, d, t, os⟩ := by
  have b1 : (Value.ref D :: bm).contains (.type "BaseException") = true := by rw [List.contains_cons, hb, Bool.or_true]
  have L := PySem.W.looks_subIn (M := M) KX hs
  have f := tc_notTuple
  unfold excMatches
  repeat (first | (with_reducible refine wpAny_loadPart_at he ?_; rw [hc]) | with_reducible refine wpAny_loadPart_at hD ?_ | with_reducible refine PySem.W.Looks.at L ?_ | (with_reducible refine wpAny_isSubtype_exc hD ?_; rw [b1]) | wp_step)
  exact hq
end
section
variable {P : Program} {w : World} {X : Cx} {pins : List (Addr × Obj)} {σ : L2.St} {H1 H2 : Hp} {s1 s2 : Shared} {e C t : Addr} {B : Heap}
theorem fly_inv (I : Inv X pins σ H1 s1) (F : Fly X.prog X.w X.stack H1 H2 s1 s2 e C t B) : Inv X pins σ H2 s2 :=
  I.call' (ch := []) F.os F.un F.held F.bare fun b z => nomatch z
theorem fly_exc (F : Fly P w X.stack H1 H2 s1 s2 e C t B) : IsExc e C s2.heap :=
  let ⟨oe, vs, e1, e2, e3, _⟩ := F.fly.first
  ⟨oe, vs, e1, e2, e3⟩
theorem inv_caught (I : Inv X pins σ H1 s1) (F : Fly X.prog X.w X.stack H1 H2 s1 s2 e C t B) : Inv X pins σ (upd H2 e (ExO e C)) s2 := by
  have un := F.un
  have he : B.get? e = none := F.fly.2.1
  have hn := F.new
  have nf : e ∉ frs X.stack := fun z => by
    obtain ⟨_, o, e1, nd⟩ := F.fly.2.2.1.mem z
    obtain ⟨oe, vs, e2, _, e3⟩ := fly_exc F
    rw [e1] at e2
    cases e2
    exact nd _ e3
  have new : ∀ b o, s1.heap.get? b = some o → b ≠ e := fun b o e1 z => by
    by_cases hb : b ∈ frs X.stack
    · exact nf (z ▸ hb)
    · obtain ⟨o', e2, _⟩ := F.cov b o e1 hb
      rw [z, he] at e2
      cases e2
  have I' : Inv X pins σ (upd H2 e (ExO e C)) s2 := I.call' (ch := []) F.os
    ⟨un.keep, un.slot, fun b o e1 n hx => by rw [upd_ne (new b o e1)]; exact un.free b o e1 n hx, un.there, fun b xs z => ?_, fun b o u z => ?_, fun b ps z => ?_⟩ ?_ F.bare fun b z => nomatch z
  · exact I'
  · have z2 := un.tups b xs z
    rw [upd_ne (ne_of_none z2 hn)]; exact z2
  · have z2 := un.frzs b o u z
    rw [upd_ne (ne_of_none z2 hn)]; exact z2
  · obtain ⟨m, z2⟩ := un.tbls b ps z
    exact ⟨m, by rw [upd_ne (ne_of_none z2 hn)]; exact z2⟩
  · intro a u z
    by_cases ha : a = e
    · subst ha
      rw [upd_same] at z
      cases z
      exact exO_ok (fly_exc F)
    · rw [upd_ne ha] at z
      refine (F.held a u z).stay (fun _ _ _ q => q) (fun b q => ?_) (fun b xs q => ?_)
      · rw [upd_ne (ne_of_none q hn)]; exact q
      · rw [upd_ne (ne_of_none q hn)]; exact q
end
section
variable {X : Cx} {E : XK}
theorem call_at {CX : CXT} {kk : Nat} {f : Addr} {fd : FuncData} {ps : List Str} {sp : Sp} {x : Str} {p pos : Pos} {e : Expr} {es : List Expr} {t : TA} (F : FnOk X.prog X.w X.K X.mg X.base CX kk f fd ps sp) (hr : Room kk X.A) (hg : Gl X x) (hm : X.mg x = some (.ref f))
    (hk : PySem.W.keepIn X.K (.ref f) = true) (hb : Binds X.K fd ps []) (ha : PA X.nox (e :: es) t) {pins : List (Addr × Obj)} {s : Shared} {σ : L2.St} {H : Hp} {Q : VK} {Ex : Value → Shared → Prop} (I : Inv X pins σ H s) (h : t σ H fun vs H1 => sp vs H1 Q E)
    (hE : ∀ H1 s1 ev s', Inv X pins σ H1 s1 → CX X.stack H1 s1 E ev s' → Ex ev s')
    (hdb : (x == ("__debug__" : Str)) = false := by decide) (he : starEach (e :: es) X.env = (false, eval e X.env) :: starEach es X.env := by rfl) (hpl : (backTo pos (starEach es X.env)).any (·.1) = false := by rfl) :
    wpAny (model X.prog X.w) X.A (eval (.Call (.Name x p) (e :: es) [] pos) X.env) (EP X pins σ Q) Ex s := by
  refine wpAny_Call_Name_kw (ld_glob I hg hm ?_ hdb)
  have hA := wpAny_mono (ha pos pins s σ H _ (I.wish _) h) (Q' := AP X pins σ fun vs H1 => sp vs H1 Q E) (E' := Ex) (fun _ _ ⟨v, H', I', r, q⟩ => ⟨v, H', I'.unwish, r, q⟩) (fun _ _ z => False.elim z)
  refine PySem.W.callWith_K (h₀ := X.base) I.ok.mod.kin hk (thn hA fun us s1 ⟨vs, H1, I1, r, q⟩ => ⟨I1.kIn, ?_⟩) he hpl
  have hl : us.length = ps.length := by rw [← r.length]; exact F.len _ _ _ _ q
  have hbb := hb s1 us I1.kIn (by simpa using hl)
  rw [List.append_nil] at hbb
  refine wpAny_call (codeAny_mono (F.run X.A X.stack s1 H1 ⟨us, []⟩ us vs Q E hr I1.env0 hbb r q) fun rs s' hq => ?_)
  cases rs with
  | error ev => exact hE H1 s1 ev s' I1 hq
  | ok fl =>
    cases fl with
    | ret u => exact I1.after hq
    | next => exact False.elim hq
    | brk => exact False.elim hq
    | cont => exact False.elim hq
def caughtSt (j k : Nat) (x : Addr) (σ : L2.St) : L2.St := ((σ.set k (some (.ref x))).set j (some (.ref x))).set k none
theorem caught_ok {pins : List (Addr × Obj)} {σ : L2.St} {H1 H2 : Hp} {s1 s2 : Shared} {e C D t : Addr} {B : Heap} {j k : Nat} {n y c : Str} {np hp ap yp vp : Pos} {De : Ends}
    (hst : X.stack = X.env :: X.outer) (hfr : X.env.frame = some X.env.locals) (hN : X.N.Nodup) (hk : X.N[k]? = some n) (hkl : X.env.scope.names.lookup n = some .local) (hj : X.N[j]? = some y) (hjl : X.env.scope.names.lookup y = some .local)
    (hg : Gl X c) (hm : X.mg c = some (.ref D)) (hD : PySem.W.excIn X.K D bmV "ValueError.__new__" = true) (hs : PySem.W.subIn X.K (.ref C) (.ref D) = some true)
    (I : Inv X pins σ H1 s1) (F : Fly X.prog X.w X.stack H1 H2 s1 s2 e C t B) (q : De.nx (caughtSt j k e σ) (upd H2 e (ExO e C))) (hdb : (c == ("__debug__" : Str)) = false := by decide) (hnd : (n == ("__debug__" : Str)) = false := by decide)
    (hsw : swapsWith (.Name n vp) (some (.Name y yp)) ap.line X.env = pure false := by rfl) (hcd : (n == ("__classdict__" : Str)) = false := by decide) :
    wpAny (model X.prog X.w) X.A (noteFrame (.ref e) X.env) (fun _ s3 => wpAny (model X.prog X.w) X.A (setFlight (.ref e) none) (fun _ s4 =>
      wpAny (model X.prog X.w) X.A (handleBy (.ref e) X.env [.ExceptHandler (some (.Name c np)) (some n) [.Assign [.Name y yp] (.Name n vp) ap] hp]) (SP X pins De) X.xe s4) X.xe s3) X.xe s2 := by
  have fr : X.A.frames = some (X.env :: X.outer) := by rw [← hst]; exact I.ok.frames
  have fl := F.fly
  rw [hst] at fl
  refine wpAny_looks_onW fr hfr fl fun h3 x1 x2 => ?_
  refine wpAny_landsW x1 fun h4 x3 x4 => ?_
  have F4 := F.on (h' := h4) (by rw [hst]; exact x3) (x2.trans x4)
  have I4 := fly_inv I F4
  refine wpAny_handleBy_cons (codeAny_handlers_test ?_) (by intro z; cases z)
  refine ld_glob (X := marked X (.ref e) X.xe) (inv_marked I4) hg hm ?_ hdb
  obtain ⟨bm, NN, nm, qn, bs, hdct, sn, sub, ab, col, dd, k0, k1, k2, k3, k5, mN, hC, _, _, T⟩ := ownExc_of (h := h4) I4.kIn hD
  obtain ⟨oe, vs, e1, e2, e3⟩ := fly_exc F4
  refine matches_own (d := s2.drawn) (g := s2.gens) (t := s2.toks) (os := s2.os) I4.kIn hC e1 e2 (T.hasType (by decide)) hs ?_
  show codeAny _ _ _ _ _
  refine codeAny_handlers_suite_as ?_
  refine lands_againW (s := { s2 with heap := h4 }) x3 fun h5 x5 x6 => ?_
  have F5 := F4.on (h' := h5) (by rw [hst]; exact x5) x6
  have I5 := inv_caught I F5
  refine store_ok (X := marked X (.ref e) X.xe) (v := .ref e) (inv_marked I5) hN hk (.inl hkl) rfl (fun s6 I6 => ?_) (.inr hkl)
  have hkσ : k < σ.length := by rw [I.len]; exact (List.getElem?_eq_some_iff.mp hk).1
  have P := pss_one (ps_set (X := marked X (.ref e) (fun _ _ => False))
      (i := j) (pos := ap) (pos' := yp) hN hj (.inl hjl) (pe_var (i := k) (x := n) (pos := vp) hk (.inl hkl) hnd hcd) hsw (.inr hjl))
    pins s6 (σ.set k (some (.ref e))) (upd H2 e (ExO e C)) { nx := fun σ' H' => σ' = (σ.set k (some (.ref e))).set j (some (.ref e)) ∧ H' = upd H2 e (ExO e C), rt := fun _ _ => False, bk := fun _ _ => False, ct := fun _ _ => False } (inv_marked (inv_unmarked I.ok.hd I6))
    ⟨.ref e, by rw [List.getElem?_set_self hkσ], rfl, rfl⟩
  refine wpAny_mono P (fun f s7 q7 => ?_) fun _ _ z => False.elim z
  cases f with
  | next =>
    obtain ⟨σ', H', I7, rfl, rfl⟩ := q7
    exact gone_ok (inv_unmarked I.ok.hd I7) hN hk hkl fun s8 I8 => ⟨_, _, I8, q⟩
  | ret u => obtain ⟨_, _, _, _, _, z⟩ := q7; exact z.elim
  | brk => obtain ⟨_, _, _, z⟩ := q7; exact z.elim
  | cont => obtain ⟨_, _, _, z⟩ := q7; exact z.elim
def tTry (K : PySem.W.Frag) (D : Addr) (sp : Sp) (put : V → L2.St → L2.St) (j k : Nat) (ta : TA) : TS := fun De σ H => ta σ H fun vs H1 => sp vs H1 (fun v H2 => De.nx (put v σ) H2)
  (fun cls _ H2 => ∃ C, cls = .ref C ∧ PySem.W.subIn K (.ref C) (.ref D) = some true ∧ ∀ x, H2 x = none → De.nx (caughtSt j k x σ) (upd H2 x (ExO x C)))
section
variable {kk : Nat} {f : Addr} {fd : FuncData} {ps : List Str} {sp : Sp} {x : Str} {p cpos bp pos : Pos} {e : Expr} {es : List Expr} {ta : TA} {D : Addr} {i j k : Nat} {n y c v : Str} {np hp ap yp vp ip : Pos}
theorem ps_tryA (hst : X.stack = X.env :: X.outer) (hfr : X.env.frame = some X.env.locals) (hN : X.N.Nodup) (hi : X.N[i]? = some v) (hil : X.env.scope.names.lookup v = some .local) (hk : X.N[k]? = some n) (hkl : X.env.scope.names.lookup n = some .local) (hj : X.N[j]? = some y) (hjl : X.env.scope.names.lookup y = some .local)
    (hg : Gl X c) (hm : X.mg c = some (.ref D)) (hD : PySem.W.excIn X.K D bmV "ValueError.__new__" = true)
    (F : FnOk X.prog X.w X.K X.mg X.base (CXN X.prog X.w) kk f fd ps sp) (hr : Room kk X.A) (hgf : Gl X x) (hmf : X.mg x = some (.ref f)) (hkf : PySem.W.keepIn X.K (.ref f) = true) (hb : Binds X.K fd ps []) (ha : PA X.nox (e :: es) ta)
    (hdb : (c == ("__debug__" : Str)) = false := by decide) (hnd : (n == ("__debug__" : Str)) = false := by decide) (hcd : (n == ("__classdict__" : Str)) = false := by decide) (hxd : (x == ("__debug__" : Str)) = false := by decide)
    (hsw : swapsWith (.Name n vp) (some (.Name y yp)) ap.line X.env = pure false := by rfl) (hsb : swapsWith (.Call (.Name x p) (e :: es) [] cpos) (some (.Name v ip)) bp.line X.env = pure false := by rfl)
    (he : starEach (e :: es) X.env = (false, eval e X.env) :: starEach es X.env := by rfl) (hpl : (backTo cpos (starEach es X.env)).any (·.1) = false := by rfl) :
    PS X (.Try [.Assign [.Name v ip] (.Call (.Name x p) (e :: es) [] cpos) bp] [.ExceptHandler (some (.Name c np)) (some n) [.Assign [.Name y yp] (.Name n vp) ap] hp] [] [] pos) (tTry X.K D sp (fun u σ => σ.set i (some u)) j k ta) := by
  intro pins s σ H De I h
  refine wpAny_Try_except (wpAny_execs_cons (wpAny_Assign_Name (wpAny_mono (call_at (E := fun cls _ H2 => ∃ C, cls = .ref C ∧ PySem.W.subIn X.K (.ref C) (.ref D) = some true ∧ ∀ x, H2 x = none → De.nx (caughtSt j k x σ) (upd H2 x (ExO x C))) F hr hgf hmf hkf hb ha I h (fun H1 s1 ev s' I1 hx => ?_) hxd he hpl) (fun u s1 ⟨y, H1, I1, r1, q1⟩ => ?_) fun _ _ z => z) hsb))
  · obtain ⟨ee, C, t, H', B, rfl, Fl, C', hC, hs, q⟩ := hx
    cases hC
    exact caught_ok hst hfr hN hk hkl hj hjl hg hm hD hs I1 Fl (q ee Fl.new) hdb hnd hsw hcd
  · exact store_ok I1 hN hi (.inl hil) r1 (fun s2 I2 => wpAny_execs_nil (wpAny_execs_nil ⟨_, H1, I2, q1⟩)) (.inr hil)
end
end
end Nd
namespace Nd
open PySem PySem.Spec PyProof.Rows L2
structure ExcK (K : PySem.W.Frag) (C : Addr) : Prop where
  cls : ∃ cd, PySem.W.clsIn K C = some cd
  ga : PySem.W.findIn K (.ref C) "__getattribute__" = some (some (.builtin "BaseException.__getattribute__"))
  gn : PySem.W.findIn K (.ref C) "__getattr__" = some none
  ca : PySem.W.findIn K (.ref C) "__class__" = some (some (.builtin "object.__class__"))
  sb : PySem.W.subIn K (.ref C) (.type "BaseException") = some true
  so : PySem.W.subIn K (.ref C) (.type "object") = some true
section
variable {prog : Program} {w : World} {A : Around} {E : Value → Shared → Prop} {h : Heap} {g : Array GenState} {d : Drawn} {t : Nat} {os : OsState} {a C : Addr} {o : Obj} {K : PySem.W.Frag}
theorem xcls_get {R : Result → Shared → Prop} (KX : K.In h) (T : ExcK K C) (hx : h.get? a = some o) (hc : o.cls = .ref C) (hq : R (.ok (.ret (.ref C))) ⟨h, g, d, t, os⟩) :
    codeAny (model prog w) A (.call (.builtin "getset_descriptor.__get__") ⟨[.builtin "object.__class__", .ref a, .ref C], []⟩) R ⟨h, g, d, t, os⟩ := by
  have ty : (⟨h, g, d, t, os⟩ : Shared).TypeIs (.builtin "object.__class__") "getset_descriptor" := PySem.F.typeOf_object_class
  have L := PySem.W.looks_subIn (M := model prog w) KX T.so
  rw [← PySem.F.owner_object_class] at L
  refine codeAny_call_builtin PySem.F.slot_gs_get.plain PySem.F.entry_gs_get (PySem.F.slot_gs_get.check _ _ _ _ _ _ _ _ ty (PySem.F.args_gs_get _ _ _) ?_)
  repeat (any_goals (first | assumption | (with_reducible refine wpAny_loadPart_at hx ?_; rw [hc]) | with_reducible refine PySem.W.Looks.at L ?_ | wp_step))
  refine ⟨Code.quiet_builtin _ (by decide +kernel), codeAny_builtin PySem.F.entry_object_class ?_⟩
  repeat (any_goals (first | assumption | (with_reducible refine wpAny_loadPart_at hx ?_; rw [hc]) | wp_step))
theorem xcls_entry {tk : Tok} {Q : Fin → Shared → Prop} (KX : K.In h) (T : ExcK K C) (hx : h.get? a = some o) (hc : o.cls = .ref C) (hq : Q (.done (.ret (.ref C))) ⟨h, g, d, t, os⟩) :
    wpAny (model prog w) A (Builtin.«object.__getattribute__» ⟨[.ref a, .str "__class__" tk], []⟩) Q E ⟨h, g, d, t, os⟩ := by
  have ty : (⟨h, g, d, t, os⟩ : Shared).TypeIs (.builtin "object.__class__") "getset_descriptor" := PySem.F.typeOf_object_class
  have f5 := PySem.F.typeOf_object_class
  have f6 := PySem.F.slot_gs_get.lookup
  have f7 := PySem.F.slot_gs_set.lookup
  have L := PySem.W.looks_findIn (M := model prog w) KX T.ca
  repeat (any_goals (first | assumption | (with_reducible refine wpAny_loadPart_at hx ?_; rw [hc]) | with_reducible refine PySem.W.Looks.at L ?_ | wp_step))
  refine xcls_get KX T hx hc ?_
  repeat (any_goals (first | assumption | wp_step))
theorem xcls_check {M : Model} {nv : Value} {Q : Unit → Shared → Prop} (KX : K.In h) (T : ExcK K C) (hx : h.get? a = some o) (hc : o.cls = .ref C) (hq : Q () ⟨h, g, d, t, os⟩) :
    wpAny M A (checkBuiltinCall "BaseException.__getattribute__" ⟨[.ref a, nv], []⟩) Q E ⟨h, g, d, t, os⟩ := by
  have k1 : builtinKind "BaseException.__getattribute__" = some .slot := by decide +kernel
  have k2 : splitId "BaseException.__getattribute__" = some ("BaseException", "__getattribute__") := by decide +kernel
  have k3 := PySem.F.args_bexc_ga (.ref a) nv
  have L := PySem.W.looks_subIn (M := M) KX T.sb
  simp only [checkBuiltinCall, k1, k2]
  refine wpAny_bind ?_
  unfold isInstance
  repeat (first | (with_reducible refine wpAny_loadPart_at hx ?_; rw [hc]) | with_reducible refine PySem.W.Looks.at L ?_ | wp_step)
  exact hq
theorem xcls_call {tk : Tok} {R : Result → Shared → Prop} (KX : K.In h) (T : ExcK K C) (hx : h.get? a = some o) (hc : o.cls = .ref C) (hq : R (.ok (.ret (.ref C))) ⟨h, g, d, t, os⟩) :
    codeAny (model prog w) A (.call (.builtin "BaseException.__getattribute__") ⟨[.ref a, .str "__class__" tk], []⟩) R ⟨h, g, d, t, os⟩ :=
  codeAny_call_builtin (by decide +kernel) PySem.F.entry_bexc_ga (xcls_check KX T hx hc (xcls_entry KX T hx hc hq))
theorem xcls_by {tk : Tok} {Q : Value → Shared → Prop} (KX : K.In h) (T : ExcK K C) (hx : h.get? a = some o) (hc : o.cls = .ref C) (hq : Q (.ref C) ⟨h, g, d, t, os⟩) :
    wpAny (model prog w) A (getAttrBy (.ref a) (.str "__class__" tk) false) Q E ⟨h, g, d, t, os⟩ := by
  have L1 := PySem.W.looks_findIn (M := model prog w) KX T.ga
  have L2 := PySem.W.looks_findIn (M := model prog w) KX T.gn
  have x2 : (Value.builtin "BaseException.__getattribute__" == Value.builtin "object.__getattribute__") = false := by decide +kernel
  have x1 : (onTheHeap (Value.ref C) && Value.builtin "BaseException.__getattribute__" == Value.builtin "object.__getattribute__") = false := by rw [x2]; rfl
  have f3 := PySem.F.excAttr_ValueError.ga.bind (.ref a)
  repeat (any_goals (first | assumption | (with_reducible refine wpAny_loadPart_at hx ?_; rw [hc]) | with_reducible refine PySem.W.Looks.at L1 ?_ | with_reducible refine PySem.W.Looks.at L2 ?_ | wp_step))
  refine xcls_call KX T hx hc ?_
  repeat (any_goals (first | assumption | wp_step))
theorem xcls_attr {Q : Option Value → Shared → Prop} (KX : K.In h) (T : ExcK K C) (hx : h.get? a = some o) (hc : o.cls = .ref C) (hq : Q (some (.ref C)) ⟨h, g, d, t + 1, os⟩) :
    wpAny (model prog w) A (getAttr? (.ref a) "__class__") Q E ⟨h, g, d, t, os⟩ := by
  unfold getAttr? getAttrBy?
  repeat (any_goals (first | assumption | with_reducible apply xcls_by KX T hx hc | wp_step))
end
theorem kitx_exc {K : PySem.W.Frag} {x C : Addr} (T : ExcK K C) : PySem.W.KitX K (.ref x) (.ref C) (IsExc x C) where
  ty := fun M h KX ⟨oe, vs, e1, e2, e3⟩ => e2 ▸ (PySem.W.Looks.ld e1).andThen .now
  it := fun M h KX _ => by
    obtain ⟨cd, hc⟩ := T.cls
    unfold PySem.W.clsIn at hc
    split at hc
    · rename_i ho
      intro A' Q' E' s' k q
      unfold isType loadHead
      exact wpAny_bind (wpAny_loadPart (k _ _ (KX _ _ ho)) (wpAny_pure q))
    · cases hc
  ne := fun h tp dd its n sl KX htp => by
    obtain ⟨cd, hc⟩ := T.cls
    unfold PySem.W.clsIn at hc
    split at hc
    · rename_i ho
      refine Bool.eq_false_iff.mpr fun q => ?_
      have e : C = tp := Value.ref.inj (beq_iff_eq.mp q)
      subst e
      have z := (KX _ _ ho).symm.trans htp
      cases z
    · cases hc
  ca := fun {prog w A E Q s} KX ⟨oe, vs, e1, e2, e3⟩ k => by
    obtain ⟨h, g, d, t, os⟩ := s
    exact xcls_attr KX T e1 e2 k
end Nd
namespace Nd
open PySem PySem.Spec PyProof.Rows L2
def clsV : V → Value
  | .ref D => .ref D
  | .ty n => .type n
  | _ => .none
section
variable {X : Cx}
def rIsx (K : PySem.W.Frag) : List V → Hp → VK → Prop := fun xs H Q => ∃ (x C : Addr) (c : V) (b : Bool), xs = [.ref x, c] ∧ H x = some (ExO x C) ∧ ExcK K C ∧ RelV c (clsV c) ∧ PySem.W.kitOne K (.ref C) (clsV c) = some b ∧ Q (.bl b) H
theorem exc_of {P : Program} {w : World} {H : Hp} {h : Heap} {x C : Addr} (ok : HOk P w H h) (e : H x = some (ExO x C)) : IsExc x C h := (show ObjOk P w H h x (ExO x C) from ok x _ e).1
theorem call_isx : CallR X (.builtin "isinstance") (rIsx X.K) := by
  intro pins s σ H xs us Q I r h
  obtain ⟨x, C, c, b, rfl, hx, T, rc, k, q⟩ := h
  obtain ⟨u, v, rfl, ru, rv⟩ := vals2 r
  cases ru
  have ev : v = clsV c := by
    cases c with
    | ref D => cases rv; rfl
    | ty n => cases rv; rfl
    | non => cases rv; rfl
    | bl _ => cases rc
    | int _ => obtain ⟨t, z⟩ := rc; cases z
    | str _ => obtain ⟨t, z⟩ := rc; cases z
    | byt _ => obtain ⟨t, z⟩ := rc; cases z
    | flt _ => obtain ⟨t, z⟩ := rc; cases z
  rw [ev]
  exact PySem.W.kia_one (kitx_exc T) I.kIn (exc_of I.hok hx) k (fun z => nomatch z) fun tk => ⟨.bl b, H, I.tok _, rfl, q⟩
def rIsxT (K : PySem.W.Frag) : List V → Hp → VK → Prop := fun xs H Q => ∃ (x C tp : Addr) (cs : List Addr) (b : Bool), xs = [.ref x, .ref tp] ∧ H x = some (ExO x C) ∧ ExcK K C ∧ SqT K H tp (cs.map V.ref) ∧ PySem.W.kitAny K (.ref C) (cs.map Value.ref) = some b ∧ Q (.bl b) H
theorem refs_of : ∀ {rs : List Addr} {us : List Value}, Vals (rs.map V.ref) us → us = rs.map Value.ref
  | [], _, r => by cases r; rfl
  | a :: l, _, r => by
    rw [List.map_cons] at r
    cases r with
    | cons r1 r2 => cases r1; rw [refs_of r2]; rfl
theorem call_isxT : CallR X (.builtin "isinstance") (rIsxT X.K) := by
  intro pins s σ H xs us Q I r h
  obtain ⟨x, C, tp, cs, b, rfl, hx, T, ht, k, q⟩ := h
  obtain ⟨u, v, rfl, ru, rv⟩ := vals2 r
  cases ru
  cases rv
  obtain ⟨its, rv, ⟨o, e, hc, n, hd⟩, _⟩ := I.tuple ht
  have ei := refs_of rv
  subst ei
  obtain ⟨oc, od, odt, osl⟩ := o
  have hc' : oc = .type "tuple" := hc
  have hd' : odt = .seq (cs.map Value.ref).toArray n := hd
  subst hc' hd'
  exact PySem.W.kia_tup (kitx_exc T) I.kIn (exc_of I.hok hx) e k (fun z => nomatch z) fun tk => ⟨.bl b, H, I.tok _, rfl, q⟩
end
theorem kit_ref {K : PySem.W.Frag} {C D : Addr} {b : Bool} {cd : ClassData} (h1 : PySem.W.clsIn K D = some cd) (h2 : PySem.W.typeIn K (.ref D) = some (.type "type")) (h3 : PySem.W.subIn K (.ref C) (.ref D) = some b) (h4 : C ≠ D) : PySem.W.kitOne K (.ref C) (.ref D) = some b := by
  unfold PySem.W.kitOne PySem.W.kitCls
  rw [if_neg (by simpa using h4)]
  dsimp only
  rw [h1, h2, if_pos (by simp)]
  exact h3
theorem kit_self {K : PySem.W.Frag} {C : Addr} : PySem.W.kitOne K (.ref C) (.ref C) = some true := by
  unfold PySem.W.kitOne
  rw [if_pos (by simp)]
theorem kit_ty {K : PySem.W.Frag} {C : Addr} {n : String} {b : Bool} (h2 : PySem.W.kitMeta n = true) (h3 : PySem.W.subIn K (.ref C) (.type n) = some b) : PySem.W.kitOne K (.ref C) (.type n) = some b := by
  unfold PySem.W.kitOne PySem.W.kitCls
  rw [if_neg (by simp)]
  dsimp only
  rw [if_pos h2]
  exact h3
end Nd
namespace Nd
open PySem PySem.Spec PyProof.Rows L2
theorem valsI : ∀ {vs : List Value} {ns : List Int}, IntsAre vs ns → Vals (ns.map V.int) vs
  | _, _, .nil => .nil
  | _, _, .cons n t h => .cons ⟨t, rfl⟩ (valsI h)
end Nd
namespace NdS
open PySem
def st (m i : Nat) : Nat := (i * 5 + 1) % m
def it (m : Nat) : Nat → Nat → Nat
  | 0, i => i
  | t + 1, i => it m t (st m i)
def orb (m : Nat) : Nat → Nat → List Nat
  | 0, _ => []
  | f + 1, i => i :: orb m f (st m i)
def goodM (m : Nat) : Prop := 0 < m ∧ it m m 0 = 0 ∧ ∀ e, e < m → e ∈ orb m m 0
end NdS
namespace NdS
open PySem
abbrev Rise (p : Array Nat) : Prop := p.toList.Pairwise (· < ·)
structure Below (p : Array Nat) (j b : Nat) : Prop where
  le : b ≤ p.size
  lo : ∀ i (h : i < p.size), i < b → p[i] < j
  hi : ∀ i (h : i < p.size), b ≤ i → j ≤ p[i]
theorem Below.eq {p : Array Nat} {j b b' : Nat} (x : Below p j b) (y : Below p j b') : b = b' := by
  rcases Nat.lt_trichotomy b b' with z | z | z
  · have h : b < p.size := Nat.lt_of_lt_of_le z y.le
    exact absurd (y.lo b h z) (Nat.not_lt.mpr (x.hi b h (Nat.le_refl _)))
  · exact z
  · have h : b' < p.size := Nat.lt_of_lt_of_le z x.le
    exact absurd (x.lo b' h z) (Nat.not_lt.mpr (y.hi b' h (Nat.le_refl _)))
structure TabOk (n : Nat) (t : SetTable) : Prop where
  good : goodM (t.mask + 1)
  dum : t.dummies = #[]
  plain : t.plain = true
  rise : Rise t.place
  top : ∀ j ∈ t.place.toList, j ≤ t.mask
  size : t.place.size = n
structure Tab (n : Nat) (t : SetTable) : Prop extends TabOk n t where
  room : n * 5 < t.mask * 3
theorem mask_ge {t : SetTable} {n : Nat} (x : Tab n t) : n + 1 ≤ t.mask := by have := x.room; omega
theorem TabOk.fits {t : SetTable} {n : Nat} (x : TabOk n t) (h : n ≤ t.mask) : t.fits n = true := by
  simp only [SetTable.fits, SetTable.fill, x.dum, x.size, Bool.and_eq_true, beq_self_eq_true, true_and, decide_eq_true_eq]
  show n + 0 ≤ t.mask
  omega
theorem Tab.fits {t : SetTable} {n : Nat} (x : Tab n t) : t.fits n = true := x.toTabOk.fits (by have := mask_ge x; omega)
end NdS
namespace NdS
open PySem
abbrev bt (w : World) : Bool := w.params.followText "set-order"
def keyOf : Int × Value → Int
  | (_, .int k _) => k
  | _ => 0
def isEnt (e : Int × Value) : Prop := ∃ k tk, e = (hashInt k, Value.int k tk)
abbrev keys (es : Array (Int × Value)) : List Int := es.toList.map keyOf
abbrev setObj (es : Array (Int × Value)) (ep : Nat) (t : SetTable) : Obj := { cls := .type "set", dict := none, data := .set es ep t }
structure SetS (w : World) (h : Heap) (a : Addr) (es : Array (Int × Value)) (ep : Nat) (t : SetTable) : Prop where
  obj : h.get? a = some (setObj es ep t)
  ent : ∀ e ∈ es.toList, isEnt e
  nd : (keys es).Nodup
  tab : Tab es.size t
  led : bt w = false → t.led = true
  few : es.size < 64
theorem SetS.keep {w : World} {h h' : Heap} {a : Addr} {es : Array (Int × Value)} {ep : Nat} {t : SetTable} (S : SetS w h a es ep t) (k : ∀ o, h.get? a = some o → h'.get? a = some o) : SetS w h' a es ep t :=
  ⟨k _ S.obj, S.ent, S.nd, S.tab, S.led, S.few⟩
def ins (k : Int) (l : List Int) : List Int := if k ∈ l then l else k :: l
theorem small {n : Nat} (h : n < 64) : n ≤ sizeLine := by rw [sizeLine_eq]; omega
end NdS
namespace NdS
open PySem
def Among (U : List Int) (l : List Int) : Prop := ∀ x ∈ l, x ∈ U
theorem len_leI : ∀ {l1 l2 : List Int}, l1.Nodup → (∀ e ∈ l1, e ∈ l2) → l1.length ≤ l2.length
  | [], _, _, _ => Nat.zero_le _
  | a :: l1, l2, nd, h => by
    have nd' := List.nodup_cons.mp nd
    have ha := h a (List.mem_cons_self ..)
    have := len_leI (l2 := l2.erase a) nd'.2 fun e he => (List.mem_erase_of_ne (show e ≠ a from fun z => nd'.1 (by rw [← z]; exact he))).mpr (h e (List.mem_cons_of_mem _ he))
    rw [List.length_erase_of_mem ha] at this
    have p : 0 < l2.length := List.length_pos_of_mem ha
    rw [List.length_cons]
    omega
theorem Among.size {U : List Int} {es : Array (Int × Value)} (h : Among U (keys es)) (nd : (keys es).Nodup) : es.size ≤ U.length := by
  have := len_leI nd h
  rw [List.length_map, Array.length_toList] at this
  exact this
end NdS
namespace NdS
open PySem
end NdS
namespace NdS
open PySem
section
variable {prog : Program} {w : World} {A : Around} {E : Value → Shared → Prop} {s : Shared}
theorem SetS.ty {a : Addr} {es : Array (Int × Value)} {ep : Nat} {t : SetTable} (S : SetS w s.heap a es ep t) : s.TypeIs (.ref a) "set" := ⟨_, S.obj, rfl⟩
end
end NdS
namespace NdS
open PySem PyProof.Rows
end NdS
namespace NdS
open PySem PyProof.Rows
def arrOf (w : World) (a : Addr) (ep : Nat) (es : Array (Int × Value)) : Array (Int × Value) := if bt w then pickOrder (w.params.setOrder a ep) es else es
end NdS
namespace NdS
open PySem PyProof.Rows
end NdS
namespace Nd
open PySem PySem.Spec PyProof.Rows L2 NdS
def IsSet (w : World) (a : Addr) (ks : List Int) (h : Heap) : Prop := ∃ es ep t, SetS w h a es ep t ∧ ∀ x, x ∈ keys es ↔ x ∈ ks
abbrev SetO (w : World) (a : Addr) (ks : List Int) : HO := .ext (IsSet w a ks)
end Nd
namespace Nd
open PySem L2
def SameB (d : Addr) (H H' : Hp) : Prop := ∀ b o, b ≠ d → H b = some o → H' b = some o
theorem SameB.refl (d : Addr) (H : Hp) : SameB d H H := fun _ _ _ h => h
theorem SameB.trans {d : Addr} {H H1 H2 : Hp} (a : SameB d H H1) (b : SameB d H1 H2) : SameB d H H2 := fun c o n h => b c o n (a c o n h)
theorem SameB.of {d : Addr} {H H' : Hp} (a : Same H H') : SameB d H H' := fun b o _ h => a b o h
theorem SameB.upd {d : Addr} {H : Hp} {o : HO} : SameB d H (upd H d o) := fun b o n h => by rw [upd_ne n]; exact h
theorem SameB.free {d : Addr} {H H' : Hp} (a : SameB d H H') {l : Addr} (n : l ≠ d) (h : H' l = none) : H l = none := by
  cases q : H l with
  | none => rfl
  | some o => rw [a l o n q] at h; cases h
theorem Same.tup {K : PySem.W.Frag} {H H' : Hp} {a : Addr} {xs : List V} (e : Same H H') (h : SqT K H a xs) : SqT K H' a xs := by
  rcases h with (h | ⟨o, h⟩) | h
  · exact .inl (.inl (e _ _ h))
  · exact .inl (.inr ⟨o, e _ _ h⟩)
  · exact .inr h
theorem small {n : Nat} (h : n ≤ 1000) : n ≤ sizeLine := Nat.le_of_lt (small1000 h)
theorem sz2 {n : Nat} (h : n ≤ 1000000) : n ≤ sizeLine := by rw [sizeLine_eq]; omega
theorem atI_in {α : Type} {xs : List α} {i : Int} (h0 : 0 ≤ i) (h : i < xs.length) : ∃ v, atI xs i = some v ∧ v ∈ xs := by
  have hk : i.toNat < xs.length := by omega
  have ek : i = ((i.toNat : Nat) : Int) := by omega
  have q : atI xs ((i.toNat : Nat) : Int) = some xs[i.toNat] := atI_nat (by simp [hk])
  rw [← ek] at q
  exact ⟨_, q, List.getElem_mem hk⟩
theorem emod_in (a b : Int) (h : 0 < b) : 0 ≤ a % b ∧ a % b < b := ⟨Int.emod_nonneg _ (by omega), Int.emod_lt_of_pos _ h⟩
def Rising (h : Int) (ns : List Int) : Prop := ns.Pairwise (· < ·) ∧ ∀ x ∈ ns, 0 ≤ x ∧ x < h
theorem Rising.nil (h : Int) : Rising h [] := ⟨List.Pairwise.nil, fun x hx => by cases hx⟩
theorem Rising.more {h : Int} {ns : List Int} (r : Rising h ns) (h0 : 0 ≤ h) : Rising (h + 1) (ns ++ [h]) :=
  ⟨List.pairwise_append.mpr ⟨r.1, List.pairwise_singleton _ _, fun a ha b hb => by rw [List.mem_singleton.mp hb]; exact (r.2 a ha).2⟩, fun x hx => by
    rcases List.mem_append.mp hx with z | z
    · have := r.2 x z; omega
    · have := List.mem_singleton.mp z; omega⟩
theorem Rising.up {h h' : Int} {ns : List Int} (r : Rising h ns) (l : h ≤ h') : Rising h' ns := ⟨r.1, fun x hx => by have := r.2 x hx; omega⟩
def Draw (H : Hp) (d : Addr) (c k : Int) (f : Bool) : Prop := H d = some (.lst [.int c, .int k, .bl f])
def spDraws : Sp := fun vs H Q _ => ∃ c : Int, vs = [.int c] ∧ ∀ (p : Addr) (f : Bool) (H' : Hp), H p = none → Draw H' p c 0 f → Same H H' → Q (.ref p) H'
def spNext : Sp := fun vs H Q _ => ∃ (d : Addr) (c k : Int) (f : Bool), vs = [.ref d] ∧ Draw H d c k f ∧ 0 ≤ k ∧ k ≤ 1000000 ∧ ∀ (r c' : Int) (H' : Hp), Draw H' d c' (k + 1) f → SameB d H H' → Q (.int r) H'
def spWord : Sp := fun vs H Q _ => ∃ (d : Addr) (h c k : Int) (f : Bool), vs = [.ref d, .int h] ∧ Draw H d c k f ∧ 0 ≤ k ∧ k ≤ 500000 ∧ 0 ≤ h ∧ h ≤ 60 ∧
  ∀ (r : Addr) (ns : List Int) (c' k' : Int) (H' : Hp), H r = none → H' r = some (.tup (ns.map V.int)) → ns.length ≤ 60 → Rising h ns → Draw H' d c' k' f → k ≤ k' → k' ≤ k + 100 → SameB d H H' → Q (.ref r) H'
def Wd (H : Hp) (r : Addr) : Prop := ∃ ns : List Int, (ns.length ≤ 60 ∧ Rising 60 ns) ∧ H r = some (.tup (ns.map V.int))
theorem mem_int {x : V} {ns : List Int} (h : x ∈ ns.map V.int) : ∃ i, i ∈ ns ∧ x = .int i := by
  obtain ⟨i, hi, e⟩ := List.mem_map.mp h
  exact ⟨i, hi, e.symm⟩
theorem Draw.same {H H' : Hp} {d : Addr} {c k : Int} {f : Bool} (h : Draw H d c k f) (s : Same H H') : Draw H' d c k f := s _ _ h
theorem mods (pk : Int) : ∃ m : Int, atI [V.int 2, V.int 2, V.int 4, V.int 1] (pk % 4) = some (.int m) ∧ 0 < m := by
  have h := emod_in pk 4 (by decide)
  obtain ⟨v, e, m⟩ := atI_in (xs := [V.int 2, V.int 2, V.int 4, V.int 1]) h.1 (by simpa using h.2)
  rw [e]
  simp only [List.mem_cons, List.not_mem_nil, or_false] at m
  rcases m with rfl | rfl | rfl | rfl
  · exact ⟨2, rfl, by decide⟩
  · exact ⟨2, rfl, by decide⟩
  · exact ⟨4, rfl, by decide⟩
  · exact ⟨1, rfl, by decide⟩
theorem Wd.same {H H' : Hp} {r : Addr} (h : Wd H r) (s : Same H H') : Wd H' r := let ⟨ns, a, b⟩ := h; ⟨ns, a, s _ _ b⟩
theorem Wd.upd {H : Hp} {r l : Addr} {xs ys : List V} (h : Wd H r) (hl : H l = some (.lst xs)) : Wd (upd H l (.lst ys)) r := let ⟨ns, a, b⟩ := h; ⟨ns, a, by rw [upd_ne (ne_of b hl (by intro z; cases z))]; exact b⟩
theorem draw_ne {H : Hp} {d l : Addr} {c k : Int} {f : Bool} (h : Draw H d c k f) (n : H l = none) : l ≠ d := fun z => by
  rw [z] at n
  unfold Draw at h
  rw [n] at h
  cases h
theorem Rising.sub {h : Int} {xs ys : List Int} (r : Rising h xs) (s : ys.Sublist xs) : Rising h ys := ⟨List.Pairwise.sublist s r.1, fun x hx => r.2 x (s.subset hx)⟩
def Cards (H : Hp) (rs : List Addr) (c : Addr → List Int) : Prop := ∀ r ∈ rs, ((c r).length ≤ 60 ∧ Rising 60 (c r)) ∧ H r = some (.tup ((c r).map V.int))
def wordD (ns : List Int) : PyData := .tuple (ns.map PyData.int)
theorem depth_word (ns : List Int) : (wordD ns).depth ≤ 1 := by
  have : (wordD ns).depth ≤ PyData.depthAll (ns.map PyData.int) + 1 := by simp [wordD, PyData.depth]
  rw [depth_ints] at this
  exact this
theorem Cards.same {H H' : Hp} {rs : List Addr} {c : Addr → List Int} (h : Cards H rs c) (s : Same H H') : Cards H' rs c := fun r hr => ⟨(h r hr).1, s _ _ (h r hr).2⟩
theorem eqD_nil (TD : List PyData) : eqD (.list TD) (.list []) = TD.isEmpty := by cases TD <;> simp [eqD, eqDs]
def spLaw (K : PySem.W.Frag) : Sp := fun vs H Q _ => ∃ (a : Addr) (ns : List Int), vs = [.ref a] ∧ SqL K H a (ns.map V.int) ∧ ns.length ≤ 63 ∧ ∀ H', Q (.bl true) H'
def sideT (b : Bool) : Str := if b = true then "back" else "front"
def Ps (H : Hp) (p : Addr) : Prop := ∃ n b, H p = some (.tup [.ref n, .str (sideT b)]) ∧ Wd H n
theorem Ps.same {H H' : Hp} {p : Addr} (h : Ps H p) (s : Same H H') : Ps H' p := let ⟨n, b, e, w⟩ := h; ⟨n, b, s _ _ e, w.same s⟩
theorem Ps.upd {H : Hp} {p l : Addr} {xs ys : List V} (h : Ps H p) (hl : H l = some (.lst xs)) : Ps (upd H l (.lst ys)) p := let ⟨n, b, e, w⟩ := h; ⟨n, b, by rw [upd_ne (ne_of e hl (by intro z; cases z))]; exact e, w.upd hl⟩
def Passes4 (H : Hp) (ps : List Addr) (nn : Addr → Addr) (nd : Addr → List Int) (bk : Addr → Bool) : Prop := ∀ p ∈ ps, H p = some (.tup [.ref (nn p), .str (sideT (bk p))]) ∧ ((nd p).length ≤ 60 ∧ Rising 60 (nd p)) ∧ H (nn p) = some (.tup ((nd p).map V.int))
theorem Passes4.same {H H' : Hp} {ps : List Addr} {nn : Addr → Addr} {nd : Addr → List Int} {bk : Addr → Bool} (h : Passes4 H ps nn nd bk) (s : Same H H') : Passes4 H' ps nn nd bk := fun p hp => ⟨s _ _ (h p hp).1, (h p hp).2.1, s _ _ (h p hp).2.2⟩
def order {α : Type} (a b : α) (l : List α) : Option Bool → List α
  | none => l
  | some true => [a, b]
  | some false => [b, a]
theorem drop_more {α : Type} {xs : List α} {i : Nat} {x : α} (h : xs[i]? = some x) : xs.drop i = x :: xs.drop (i + 1) := by
  obtain ⟨hi, e⟩ := List.getElem?_eq_some_iff.mp h
  rw [List.drop_eq_getElem_cons hi, e]
structure TD (K : PySem.W.Frag) (H : Hp) (x : V) (d : PyData) (n m : Nat) : Prop where
  rd : RdV K H x d
  fits : Fits 22 d
  nd : nodes d ≤ n
  dp : d.depth ≤ m
structure TDs (K : PySem.W.Frag) (H : Hp) (xs : List V) (ds : List PyData) (n m : Nat) : Prop where
  rd : RdVs K H xs ds
  fits : FitsAll 22 ds
  nd : nodesAll ds ≤ n
  dp : PyData.depthAll ds ≤ m
section
variable {K : PySem.W.Frag} {H H' : Hp}
theorem TD.same {x : V} {d : PyData} {n m : Nat} (h : TD K H x d n m) (s : Same H H') : TD K H' x d n m := ⟨h.rd.same s, h.fits, h.nd, h.dp⟩
theorem TDs.same {x : List V} {d : List PyData} {n m : Nat} (h : TDs K H x d n m) (s : Same H H') : TDs K H' x d n m := ⟨h.rd.same s, h.fits, h.nd, h.dp⟩
theorem TDs.nil {m : Nat} : TDs K H [] [] 0 m := ⟨.nil, by simp [FitsAll], by simp [nodesAll], by simp [PyData.depthAll]⟩
theorem TDs.cons {x : V} {d : PyData} {xs : List V} {ds : List PyData} {n n' m : Nat} (h : TD K H x d n m) (t : TDs K H xs ds n' m) : TDs K H (x :: xs) (d :: ds) (n + n') m :=
  ⟨.cons h.rd t.rd, by simp only [FitsAll]; exact ⟨h.fits, t.fits⟩, by have := h.nd; have := t.nd; simp only [nodesAll]; omega, by have := h.dp; have := t.dp; simp only [PyData.depthAll]; omega⟩
theorem TDs.map {α : Type} {f : α → V} {g : α → PyData} {n m : Nat} : ∀ (l : List α), (∀ a ∈ l, TD K H (f a) (g a) n m) → TDs K H (l.map f) (l.map g) (n * l.length) m
  | [], _ => TDs.nil
  | a :: l, h => by
    have t := TDs.cons (h a List.mem_cons_self) (TDs.map l fun b hb => h b (List.mem_cons_of_mem _ hb))
    rw [List.length_cons, Nat.mul_add, Nat.mul_one, Nat.add_comm]
    exact t
theorem TD.lst {a : Addr} {xs : List V} {ds : List PyData} {n m : Nat} (e : SqL K H a xs) (t : TDs K H xs ds n m) : TD K H (.ref a) (.list ds) (n + 1) (m + 1) :=
  ⟨.lst e t.rd, by simp only [Fits]; exact t.fits, by have := t.nd; simp only [nodes]; omega, by have := t.dp; simp only [PyData.depth]; omega⟩
theorem TD.tup {a : Addr} {xs : List V} {ds : List PyData} {n m : Nat} (e : SqT K H a xs) (t : TDs K H xs ds n m) : TD K H (.ref a) (.tuple ds) (n + 1) (m + 1) :=
  ⟨.tup e t.rd, by simp only [Fits]; exact t.fits, by have := t.nd; simp only [nodes]; omega, by have := t.dp; simp only [PyData.depth]; omega⟩
theorem TD.int {i : Int} {m : Nat} (h : i.natAbs < 10 ^ 22) : TD K H (.int i) (.int i) 1 m := ⟨.int i, fits_int h, by simp [nodes], by simp [PyData.depth]⟩
theorem TD.le {x : V} {d : PyData} {n m n' m' : Nat} (h : TD K H x d n m) (a : n ≤ n') (b : m ≤ m') : TD K H x d n' m' := ⟨h.rd, h.fits, Nat.le_trans h.nd a, Nat.le_trans h.dp b⟩
theorem TDs.ints {ns : List Int} {m : Nat} (h : ∀ i ∈ ns, i.natAbs < 10 ^ 22) : TDs K H (ns.map V.int) (ns.map PyData.int) ns.length m := by
  have := TDs.map (K := K) (H := H) (f := V.int) (g := PyData.int) (n := 1) (m := m) ns fun i hi => TD.int (h i hi)
  rw [Nat.one_mul] at this
  exact this
end
end Nd
namespace K13
open PySem L2 Nd
def top (i : Nat) : Stmt := PySem.Challenge.pw_needledeck_k13_numbers_of_words.main.body.getD i (.Pass ⟨0, 0, 0, 0⟩)
abbrev s_choose : Stmt := top 12
abbrev s_number_of : Stmt := top 13
abbrev s_word_at : Stmt := top 14
abbrev sDraws : Stmt := top 16
abbrev sNext : Stmt := top 17
abbrev sWord : Stmt := top 18
abbrev s__law_rows : Stmt := top 19
abbrev s__law_choose : Stmt := top 20
abbrev s__law_number : Stmt := top 21
abbrev s__law_next_word : Stmt := top 22
abbrev s__law_refused : Stmt := top 23
abbrev s__law_right : Stmt := top 24
abbrev sLaw : Stmt := top 25
section
variable {P : Program} {w : World} {K : PySem.W.Frag} {mg : Str → Option Value} {base : Heap}
theorem scD : FnScope ["_law_cell"] ["_law_cell"] (defScope sDraws) := ⟨rfl, rfl, rfl, by decide +kernel, rfl, by decide +kernel, by decide +kernel⟩
theorem ok_draws {f : Addr} {fd : FuncData} (F : Fun K "_law_draws" "_law_draws" sDraws f fd) : FnOk P w K mg base CX0 1 f fd ["_law_cell"] spDraws := by
  refine F.ok scD (fun vs H Q E h => ?_) (fun cdv A outer s H vs Q E hr h => ?_)
  · obtain ⟨c, rfl, _⟩ := h
    rfl
  obtain ⟨c, rfl, q⟩ := h
  refine ⟨_, pss_one (ps_ret (pe_lst (pa_cons (pv 0) (pa_cons pe_int (pa_cons (pe_cmpR op_ge (pv 0) (pe_op op_pow pe_int pe_int) (nomark _)) pa_nil))))), ?_⟩
  refine ⟨_, rfl, _, rfl, 10, 18, rfl, rfl, ⟨by decide, by decide, by decide⟩, _, _, rfl, rfl, (by show 3 ≤ sizeLine; decide), fun p hp => ?_⟩
  exact q p _ _ hp upd_same (same_new hp _)
theorem scN : FnScope ["_law_draws_here", "_law_k", "_law_number_here"] ["_law_draws_here"] (defScope sNext) := ⟨rfl, rfl, rfl, by decide +kernel, rfl, by decide +kernel, by decide +kernel⟩
theorem ok_next {f : Addr} {fd : FuncData} (F : Fun K "_law_next" "_law_next" sNext f fd) : FnOk P w K mg base CX0 1 f fd ["_law_draws_here"] spNext := by
  refine F.ok scN (fun vs H Q E h => ?_) (fun cdv A outer s H vs Q E hr h => ?_)
  · obtain ⟨d, c, k, fl, rfl, _⟩ := h
    rfl
  obtain ⟨d, c, k, fl, rfl, hd, h0, h1, q⟩ := h
  refine ⟨_, pss_cons (ps_asg (pe_op op_add (pe_ix ix_list (pv 0) pe_int (fun _ _ => rfl)) pe_int) (pg_sub (pv 0) pe_int set_list))
    (pss_cons (ps_set (i := 1) scN.nd rfl (Or.inl rfl) (pe_ix ix_list (pv 0) pe_int (fun _ _ => rfl)))
    (pss_cons (ps_if (pt_val (pe_ix ix_list (pv 0) pe_int (fun _ _ => rfl)))
      (pss_cons (ps_set (i := 2) scN.nd rfl (Or.inl rfl) (pe_op op_mod (pe_ix ix_list (pv 0) pe_int (fun _ _ => rfl)) (pe_op op_pow pe_int pe_int)))
        (pss_cons (ps_asg (pe_op op_fdiv (pe_ix ix_list (pv 0) pe_int (fun _ _ => rfl)) (pe_op op_pow pe_int pe_int)) (pg_sub (pv 0) pe_int set_list))
        (pss_one (ps_ret (pv 2))))) pss_nil)
    (pss_cons (ps_set (i := 2) scN.nd rfl (Or.inl rfl) (pe_op op_mod (pe_op op_mul (pe_op op_add (pe_op op_add (pe_op op_mod (pe_ix ix_list (pv 0) pe_int (fun _ _ => rfl)) pe_int) (pe_op op_mul (pe_op op_mul (pv 1) (pv 1)) pe_int)) (pv 1)) pe_int) pe_int))
    (pss_cons (ps_set (i := 2) scN.nd rfl (Or.inl rfl) (pe_op op_mod (pe_op op_mul (pv 2) (pv 2)) pe_int))
    (pss_one (ps_ret (pe_op op_fdiv (pe_op op_mod (pe_op op_mul (pv 2) (pe_op op_add (pv 2) pe_int)) pe_int) pe_int))))))), ?_⟩
  -- draws[1] = draws[1] + 1
  refine ⟨_, rfl, d, _, 1, _, rfl, rfl, SqL.of hd, rfl, _, _, rfl, rfl, _, rfl, d, _, 1, 1, rfl, rfl, hd, rfl, ?_⟩
  have e1 : (upd H d (.lst ([V.int c, V.int k, V.bl fl].set 1 (V.int (k + 1))))) d = some (.lst [.int c, .int (k + 1), .bl fl]) := upd_same
  generalize hH1 : upd H d (.lst ([V.int c, V.int k, V.bl fl].set 1 (V.int (k + 1)))) = H1 at e1
  have s1 : SameB d H H1 := by rw [← hH1]; exact SameB.upd
  -- k = draws[1]; if draws[2]
  refine ⟨_, rfl, d, _, 1, _, rfl, rfl, SqL.of e1, rfl, _, rfl, d, _, 2, _, rfl, rfl, SqL.of e1, rfl, _, rfl, ?_⟩
  refine ite2 (fun _ => ?_) (fun _ => ?_)
  · refine ⟨_, rfl, d, _, 0, _, rfl, rfl, SqL.of e1, rfl, 10, 6, rfl, rfl, ⟨by decide, by decide, by decide⟩, _, _, rfl, rfl, (by show (0 : Int) < 10 ^ (6 : Int).toNat; decide), ?_⟩
    refine ⟨_, rfl, d, _, 0, _, rfl, rfl, SqL.of e1, rfl, 10, 6, rfl, rfl, ⟨by decide, by decide, by decide⟩, _, _, rfl, rfl, ⟨by decide, by decide⟩, _, rfl, d, _, 0, 0, rfl, rfl, e1, rfl, _, rfl, ?_⟩
    exact q _ _ _ upd_same (s1.trans SameB.upd)
  · have m1 := emod_in c 1000003 (by decide)
    have b1 := emod_in ((c % 1000003 + (k + 1) * (k + 1) * 7919 + (k + 1)) * 48271) 2147483629 (by decide)
    refine ⟨_, rfl, d, _, 0, _, rfl, rfl, SqL.of e1, rfl, _, _, rfl, rfl, (by show (0 : Int) < 1000003; decide), _, rfl, _, rfl, _, _, rfl, rfl, .inl ⟨by omega, by omega⟩, _, _, rfl, rfl, .inr ⟨by decide, by decide⟩, _, _, rfl, rfl, _, rfl, _, _, rfl, rfl,
      _, _, rfl, rfl, .inr ⟨by decide, by decide⟩, _, _, rfl, rfl, (by show (0 : Int) < 2147483629; decide), ?_⟩
    generalize ((c % 1000003 + (k + 1) * (k + 1) * 7919 + (k + 1)) * 48271) % 2147483629 = x at b1
    have b2 := emod_in (x * x) 2147483587 (by decide)
    refine ⟨_, rfl, _, rfl, _, _, rfl, rfl, .inl ⟨by omega, by omega⟩, _, _, rfl, rfl, (by show (0 : Int) < 2147483587; decide), ?_⟩
    generalize (x * x) % 2147483587 = y at b2
    refine ⟨_, rfl, _, rfl, _, _, rfl, rfl, _, _, rfl, rfl, .inl ⟨by omega, by omega⟩, _, _, rfl, rfl, (by show (0 : Int) < 2147483579; decide), _, _, rfl, rfl, ⟨by decide, by decide⟩, ?_⟩
    exact q _ _ _ e1 s1
theorem scWd : FnScope ["_law_draws_here", "_law_holes", "_law_pick", "_law_bits", "_law_told", "_law_place"] ["_law_draws_here", "_law_holes"] (defScope sWord) := ⟨rfl, rfl, rfl, by decide +kernel, rfl, by decide +kernel, by decide +kernel⟩
theorem ok_word {f g : Addr} {fd gd : FuncData} (F : Fun K "_law_word" "_law_word" sWord f fd) (G : FnOk P w K mg base CX0 1 g gd ["_law_draws_here"] spNext) (bG : Binds K gd ["_law_draws_here"] []) (kG : PySem.W.keepIn K (.ref g) = true) (mG : mg "_law_next" = some (.ref g))
    (mR : mg "range" = none) (mT : mg "tuple" = none) : FnOk P w K mg base CX0 2 f fd ["_law_draws_here", "_law_holes"] spWord := by
  refine F.ok scWd (fun vs H Q E h => ?_) (fun cdv A outer s H vs Q E hr h => ?_)
  · obtain ⟨d, h, c, k, fl, rfl, _⟩ := h
    rfl
  obtain ⟨d, h, c, k, fl, rfl, hd, k0, k1, h0, h1, q⟩ := h
  refine ⟨_, pss_cons (ps_set (i := 2) scWd.nd rfl (Or.inl rfl) (pe_call G hr rfl mG kG bG .nil pass0 (pa_cons (pv 0) pa_nil)))
    (pss_cons (ps_set (i := 3) scWd.nd rfl (Or.inl rfl) (pe_op op_fdiv (pv 2) pe_int))
    (pss_cons (ps_set (i := 4) scWd.nd rfl (Or.inl rfl) (pe_lst pa_nil))
    (pss_cons (ps_for PassesOwn.never rfl (pi_range1 rfl mR (pa_cons (pv 1) pa_nil)) (pg_name (i := 5) scWd.nd rfl (Or.inl rfl))
      (pss_cons (ps_if (pt_cmpR op_eq (pe_op op_mod (pv 5) pe_int) pe_int (nomark _)) (pss_one (ps_set (i := 3) scWd.nd rfl (Or.inl rfl) (pe_call G hr rfl mG kG bG .nil pass0 (pa_cons (pv 0) pa_nil)))) pss_nil)
      (pss_cons (ps_if (pt_cmpR op_eq (pe_op op_mod (pv 3) (pe_ix ix_list (pe_lst (pa_cons pe_int (pa_cons pe_int (pa_cons pe_int (pa_cons pe_int pa_nil))))) (pe_op op_mod (pv 2) pe_int) (fun _ _ => rfl))) pe_int (nomark _))
        (pss_one (ps_expr (pe_bm PySem.F.plainAttrs_list PySem.F.slot_list_append PySem.F.type_list_append mt_append (pv 4) (pa_cons (pv 5) pa_nil)))) pss_nil)
      (pss_one (ps_set (i := 3) scWd.nd rfl (Or.inl rfl) (pe_op op_fdiv (pv 3) pe_int))))))
    (pss_one (ps_ret (pe_callTy call_tuple_of rfl mT (by decide +kernel) (pa_cons (pv 4) pa_nil))))))), ?_⟩
  -- pick = next(draws)
  refine ⟨_, rfl, d, c, k, fl, rfl, hd, k0, by omega, fun pk c1 H1 d1 s1 => ?_⟩
  -- bits = pick // 4; told = []
  refine ⟨_, rfl, _, _, rfl, rfl, ⟨by decide, by decide⟩, (by show 0 ≤ sizeLine; decide), fun l nl => ?_⟩
  have ld : l ≠ d := fun z => by
    rw [z] at nl
    have := d1
    unfold Draw at this
    rw [nl] at this
    cases this
  have nl0 : H l = none := s1.free ld nl
  have sl : Same H1 (upd H1 l (.lst [])) := same_new nl _
  -- for place in range(holes)
  refine ⟨_, rfl, h, rfl, by omega, by omega, for_range (lo := 0) (n := h.toNat) (fun i σ H2 => ∃ (b : Int) (ts : List Int) (c2 k2 : Int) (pl : Option V), σ = [some (.ref d), some (.int h), some (.int pk), some (.int b), some (.ref l), pl] ∧ (ts.length ≤ i ∧ Rising i ts) ∧
      H2 l = some (.lst (ts.map V.int)) ∧ Draw H2 d c2 k2 fl ∧ k + 1 ≤ k2 ∧ k2 ≤ k + 1 + i ∧ SameB d H H2)
    ⟨_, [], c1, k + 1, none, rfl, ⟨Nat.le_refl _, Rising.nil _⟩, upd_same, d1.same sl, Int.le_refl _, by omega, s1.trans (SameB.of sl)⟩ ?_ ?_⟩
  · rintro i σ H2 hi ⟨b, ts, c2, k2, pl, rfl, ⟨hts, hri⟩, e1, d2, a1, a2, sm⟩
    -- the second half of the turn, for any bits, heap
    have rest : ∀ (b' c3 k3 : Int) (H3 : Hp) (D : Ends), H3 l = some (.lst (ts.map V.int)) → Draw H3 d c3 k3 fl → k + 1 ≤ k3 → k3 ≤ k + 1 + i + 1 → SameB d H H3 →
        (∀ σ' H', (∃ (b : Int) (ts : List Int) (c2 k2 : Int) (pl : Option V), σ' = [some (.ref d), some (.int h), some (.int pk), some (.int b), some (.ref l), pl] ∧ (ts.length ≤ i + 1 ∧ Rising ((i + 1 : Nat) : Int) ts) ∧
          H' l = some (.lst (ts.map V.int)) ∧ Draw H' d c2 k2 fl ∧ k + 1 ≤ k2 ∧ k2 ≤ k + 1 + ((i + 1 : Nat) : Int) ∧ SameB d H H') → D.nx σ' H') →
        tSeq (tIfS (tTest (tOp rEq (tOp (rI (fun _ j => 0 < j) fun i j => .int (i % j)) (tVar 3) (tOp (rIxL K) (tLst (tCons (tC (.int 2)) (tCons (tC (.int 2)) (tCons (tC (.int 4)) (tCons (tC (.int 1)) tNil))))) (tOp (rI (fun _ j => 0 < j) fun i j => .int (i % j)) (tVar 2) (tC (.int 4))))) (tC (.int 0))))
          (tDrop (tBM K "list" rAppend (tVar 4) (tCons (tVar 5) tNil))) tNext) (tAsg (tOp (rI CDiv fun i j => .int (i / j)) (tVar 3) (tC (.int 2))) (gName 3)) D
          [some (.ref d), some (.int h), some (.int pk), some (.int b'), some (.ref l), some (.int (0 + i))] H3 := by
      intro b' c3 k3 H3 D e3 d3 x1 x2 sm3 fin
      obtain ⟨m, hm, mpos⟩ := mods pk
      refine ⟨_, rfl, (by show 4 ≤ sizeLine; decide), fun p hp => ⟨_, rfl, _, _, rfl, rfl, (by show (0 : Int) < 4; decide), p, _, _, _, rfl, rfl, SqL.of upd_same, hm, _, _, rfl, rfl, mpos, rfl, _, rfl, ?_⟩⟩
      have s3 : Same H3 (upd H3 p (.lst [.int 2, .int 2, .int 4, .int 1])) := same_new hp _
      have e3' := s3 _ _ e3
      have d3' := d3.same s3
      have sm3' := sm3.trans (SameB.of s3)
      generalize upd H3 p (.lst [.int 2, .int 2, .int 4, .int 1]) = H4 at e3' d3' sm3'
      refine ite2 (fun _ => ?_) (fun _ => ?_)
      · refine ⟨_, rfl, .inl ⟨rfl, _, SqL.of e3'⟩, _, rfl, l, _, _, rfl, rfl, e3', by rw [List.length_map]; exact small1000 (by omega), _, rfl, _, _, rfl, rfl, ⟨by decide, by decide⟩, ?_⟩
        refine fin _ _ ⟨_, ts ++ [0 + (i : Int)], c3, k3, _, rfl, ⟨by rw [List.length_append, List.length_singleton]; omega, by rw [Int.zero_add]; exact hri.more (by omega)⟩, ?_, ?_, x1, by omega, fun b o n z => ?_⟩
        · rw [upd_same, List.map_append]; rfl
        · exact (upd_ne (Ne.symm ld)).trans d3'
        · rw [upd_ne (ne_of_none z nl0)]; exact sm3' b o n z
      · refine ⟨_, rfl, _, _, rfl, rfl, ⟨by decide, by decide⟩, ?_⟩
        exact fin _ _ ⟨_, ts, c3, k3, _, rfl, ⟨by omega, hri.up (by omega)⟩, e3', d3', x1, by omega, sm3'⟩
    -- if place % 16 == 15: bits = next(draws)
    refine ⟨_, rfl, _, _, rfl, rfl, (by show (0 : Int) < 16; decide), rfl, _, rfl, ?_⟩
    refine ite2 (fun _ => ?_) (fun _ => ?_)
    · refine ⟨_, rfl, d, c2, k2, fl, rfl, d2, by omega, by omega, fun b' c3 H3 d3 s3 => ?_⟩
      exact rest b' c3 (k2 + 1) H3 _ (s3 _ _ ld e1) d3 (by omega) (by omega) (sm.trans s3) fun σ' H' z => z
    · exact rest b c2 k2 H2 _ e1 d2 a1 (by omega) sm fun σ' H' z => z
  · rintro σ H2 ⟨b, ts, c2, k2, pl, rfl, ⟨hts, hri⟩, e1, d2, a1, a2, sm⟩
    refine ⟨_, rfl, l, _, rfl, .inl ⟨SqL.of e1, fun r nr => ?_⟩⟩
    have s3 : Same H2 (upd H2 r (.tup (ts.map V.int))) := same_new nr _
    have rd : r ≠ d := fun z => by
      rw [z] at nr
      have := d2
      unfold Draw at this
      rw [nr] at this
      cases this
    exact q r ts c2 k2 _ (sm.free rd nr) upd_same (by omega) (hri.up (by omega)) (d2.same s3) (by omega) (by omega) (sm.trans (SameB.of s3))
end
end K13
namespace Nd
open PySem L2
theorem for_cellsI {K : PySem.W.Frag} {n : Int} {j : Nat} {a : Addr} {ns : List Int} {m : Nat} {tl0 : List (Option V)} {tb : TS} {D : Ends} {H : Hp} (Iv : List (Option V) → Hp → Prop) (hS : SqL K H a (ns.map V.int)) (h63 : ns.length ≤ 63) (hl : tl0.length = m) (h0 : ∀ H3, Same H H3 → Iv tl0 H3)
    (body : ∀ (c : Int) (tl : List (Option V)) (H4 : Hp) (N : L2.St → Hp → Prop), tl.length = m → Iv tl H4 → (∀ (tl' : List (Option V)) (H' : Hp), tl'.length = m → Same H4 H' → Iv tl' H' → N (some (.ref a) :: tl') H') → tb { D with nx := N, ct := N, bk := D.nx } (some (.ref a) :: tl.set j (some (.int c))) H4)
    (fin : ∀ (tl' : List (Option V)) (H' : Hp), tl'.length = m → Iv tl' H' → D.nx (some (.ref a) :: tl') H') :
    tFor (iList K (tOp rCat (tSl (rSlL K) (tVar 0) tNoPart (tPart (tC (.int n)))) (tLst (tCons (tC (.int 0)) tNil)))) (gName (j + 1)) tb D (some (.ref a) :: tl0) H := by
  obtain ⟨ys, ey, ly⟩ := cut_int ns none (some n)
  refine ⟨_, rfl, n, rfl, a, _, rfl, hS, fun p1 np1 => ⟨sz, fun p2 np2 => ?_⟩⟩
  rw [ey] at np2 ⊢
  have s2 := same_new np2 (.lst [V.int 0])
  refine ⟨p1, p2, _, _, rfl, rfl, s2 _ _ upd_same, upd_same, (by rw [List.length_map]; exact sz (by simp; omega)), fun p3 np3 => ?_⟩
  have e : (ys.map V.int) ++ [V.int 0] = (ys ++ [0]).map V.int := by rw [List.map_append]; rfl
  rw [e]
  have s1 : Same H (upd H p1 (.lst (ys.map V.int))) := same_new np1 _
  have s3 := same_new np3 (.lst ((ys ++ [0]).map V.int))
  have sA := (s1.trans s2).trans s3
  have hp3 := upd_same (H := upd (upd H p1 (.lst (ys.map V.int))) p2 (.lst [V.int 0])) (a := p3) (o := .lst ((ys ++ [0]).map V.int))
  generalize upd (upd (upd H p1 (.lst (ys.map V.int))) p2 (.lst [V.int 0])) p3 (.lst ((ys ++ [0]).map V.int)) = H3 at hp3 sA
  refine ⟨p3, rfl, ⟨_, SqL.of hp3⟩, for_list (K := K) (a := p3) (xs := (ys ++ [0]).map V.int) (fun i σ H4 => ∃ tl, σ = some (.ref a) :: tl ∧ tl.length = m ∧ Same H3 H4 ∧ Iv tl H4) ⟨tl0, rfl, hl, Same.refl _, h0 _ sA⟩ (fun i σ H4 _ ⟨tl, _, _, sm, _⟩ => SqL.of (sm _ _ hp3)) ?_ ?_⟩
  · rintro i x σ H4 hx ⟨tl, rfl, htl, sm, hI⟩
    obtain ⟨c, _, rfl⟩ := List.mem_map.mp (List.mem_of_getElem? hx)
    exact body c tl H4 _ htl hI fun tl' H' h1 h2 h3 => ⟨tl', rfl, h1, sm.trans h2, h3⟩
  · rintro σ H4 ⟨tl, rfl, htl, sm, hI⟩
    exact fin tl H4 htl hI
theorem kit_int_bool (K : PySem.W.Frag) : PySem.W.kitOne K (.type "int") (.type "bool") = some false := by
  unfold PySem.W.kitOne
  rw [if_neg (by decide)]
  unfold PySem.W.kitCls
  simp only
  rw [if_pos (by decide +kernel)]
  show Option.map (fun x => x.contains (PySem.Value.type "bool")) (PySem.fastBuiltinMro "int") = some false
  decide +kernel
abbrev rLen (K : PySem.W.Frag) : List V → Hp → VK → Prop := fun xs H Q => ∃ p ys, xs = [V.ref p] ∧ (SqL K H p ys ∨ SqT K H p ys) ∧ Q (.int ys.length) H
theorem len_ok {X : Cx} : CallR X (.builtin "len") (rLen X.K) := call_len_seq
abbrev rLstC (K : PySem.W.Frag) : List V → Hp → VK → Prop := fun xs H Q => ∃ p ys, xs = [V.ref p] ∧ (SqL K H p ys ∨ SqT K H p ys) ∧ ∀ l, H l = none → Q (.ref l) (upd H l (.lst ys))
theorem list_ok {X : Cx} : CallR X (.type "list") (rLstC X.K) := call_list_of
abbrev rTupC (K : PySem.W.Frag) : List V → Hp → VK → Prop := fun xs H Q => ∃ p ys, xs = [V.ref p] ∧ ((SqL K H p ys ∧ ∀ l, H l = none → Q (.ref l) (upd H l (.tup ys))) ∨ (SqT K H p ys ∧ Q (.ref p) H))
theorem tuple_ok {X : Cx} : CallR X (.type "tuple") (rTupC X.K) := call_tuple_of
theorem at_nx {i : Nat} {x : V} {σ : L2.St} {H : Hp} {Q b c : L2.St → Hp → Prop} {r : VK} (h : Q (σ.set i (some x)) H) : gName i x σ H (Ends.mk Q r b c).nx := h
end Nd
namespace Ts
open PySem PyProof.Rows
structure Cmp (prog : Program) (w : World) (A : Around) (s : Shared) (kd : SortKind) (Ok : Keyed → Prop) (blt : Keyed → Keyed → Bool) : Prop where
  run : ∀ (x y : Keyed) (Q : Bool → Shared → Prop) (E : Value → Shared → Prop), Ok x → Ok y → Q (blt x y) s → wpAny (model prog w) A (keyLt' kd x.1 y.1) Q E s
  irr : ∀ x, blt x x = false
  tr : ∀ x y z, blt x y = true → blt y z = true → blt x z = true
  neg : ∀ x y z, blt x z = true → blt x y = true ∨ blt y z = true
def le (blt : Keyed → Keyed → Bool) (x y : Keyed) : Prop := blt y x = false
section
variable {prog : Program} {w : World} {A : Around} {s : Shared} {kd : SortKind} {Ok : Keyed → Prop} {blt : Keyed → Keyed → Bool}
theorem Cmp.refl (C : Cmp prog w A s kd Ok blt) (x : Keyed) : le blt x x := C.irr x
theorem Cmp.trans (C : Cmp prog w A s kd Ok blt) {x y z : Keyed} (h1 : le blt x y) (h2 : le blt y z) : le blt x z := by
  unfold le at *
  cases q : blt z x with
  | false => rfl
  | true =>
    rcases C.neg _ y _ q with h | h
    · rw [h2] at h; cases h
    · rw [h1] at h; cases h
variable {E : Value → Shared → Prop}
structure Kept (st st' : SortSt) : Prop where
  kind : kindOf st' = kindOf st
  arr : arrOf st' = arrOf st
  pend : pendingOf st' = pendingOf st
  fail : failedOf st' = failedOf st
theorem Kept.refl (st : SortSt) : Kept st st := ⟨rfl, rfl, rfl, rfl⟩
theorem Kept.trans {a b c : SortSt} (h : Kept a b) (k : Kept b c) : Kept a c := ⟨k.kind.trans h.kind, k.arr.trans h.arr, k.pend.trans h.pend, k.fail.trans h.fail⟩
end
end Ts
namespace Ts
open PySem PyProof.Rows
end Ts
namespace Ts
open PySem PyProof.Rows
abbrev lst (p q out : Array Keyed) (i j : Nat) : Array Keyed := out ++ q.extract j q.size ++ p.extract i p.size
section
variable {prog : Program} {w : World} {A : Around} {s : Shared} {kd : SortKind} {Ok : Keyed → Prop} {blt : Keyed → Keyed → Bool} {E : Value → Shared → Prop}
theorem at_list {p : Array Keyed} {i : Nat} {x : Keyed} (h : p[i]? = some x) : p.toList[i]? = some x := by simpa using h
theorem mem_at {p : Array Keyed} {i : Nat} {x : Keyed} (h : p[i]? = some x) : x ∈ p.toList := List.mem_of_getElem? (at_list h)
end
end Ts
namespace Ts
open PySem PyProof.Rows
end Ts
namespace Ts
open PySem PyProof.Rows
def X (xs : Array Keyed) (i : Nat) : Keyed := xs[i]?.getD (Value.none, Value.none)
theorem X_at {xs : Array Keyed} {i : Nat} (h : i < xs.size) : xs[i]? = some (X xs i) := by
  unfold X
  rw [getElem?_pos xs i h]
  rfl
def Asc (blt : Keyed → Keyed → Bool) (xs : Array Keyed) (a b : Nat) : Prop := ∀ i j, a ≤ i → i ≤ j → j < b → le blt (X xs i) (X xs j)
structure Good (kd : SortKind) (a₀ : Array Keyed) (pend : Array (Nat × Nat × Nat)) (st : SortSt) : Prop where
  kind : kindOf st = kd
  fail : failedOf st = none
  perm : (arrOf st).Perm a₀
  pd : pendingOf st = pend
def Out (xs ys : Array Keyed) (a b : Nat) : Prop := ∀ i, (i < a ∨ b ≤ i) → X ys i = X xs i
theorem Out.refl (xs : Array Keyed) (a b : Nat) : Out xs xs a b := fun _ _ => rfl
theorem Out.trans {xs ys zs : Array Keyed} {a b : Nat} (h : Out xs ys a b) (k : Out ys zs a b) : Out xs zs a b := fun i hi => (k i hi).trans (h i hi)
section
variable {prog : Program} {w : World} {A : Around} {s : Shared} {kd : SortKind} {Ok : Keyed → Prop} {blt : Keyed → Keyed → Bool} {E : Value → Shared → Prop} {a₀ : Array Keyed} {pend : Array (Nat × Nat × Nat)}
theorem Good.size {st : SortSt} (g : Good kd a₀ pend st) : (arrOf st).size = a₀.size := g.perm.size_eq
theorem Good.okX {st : SortSt} (g : Good kd a₀ pend st) (h0 : ∀ x ∈ a₀.toList, Ok x) {i : Nat} (hi : i < a₀.size) : Ok (X (arrOf st) i) := by
  have e := X_at (xs := arrOf st) (i := i) (by rw [g.size]; exact hi)
  exact h0 _ ((Array.perm_iff_toList_perm.mp g.perm).mem_iff.mp (mem_at e))
theorem Good.set {st : SortSt} (g : Good kd a₀ pend st) {xs : Array Keyed} (h : xs.Perm (arrOf st)) : Good kd a₀ pend (setArr st xs) := ⟨g.kind, g.fail, h.trans g.perm, g.pd⟩
end
end Ts
namespace Ts
open PySem PyProof.Rows
section
variable {prog : Program} {w : World} {A : Around} {s : Shared} {kd : SortKind} {Ok : Keyed → Prop} {blt : Keyed → Keyed → Bool} {E : Value → Shared → Prop} {a₀ : Array Keyed} {pend : Array (Nat × Nat × Nat)}
structure Good0 (kd : SortKind) (a₀ : Array Keyed) (st : SortSt) : Prop where
  kind : kindOf st = kd
  fail : failedOf st = none
  perm : (arrOf st).Perm a₀
theorem Good0.size {st : SortSt} (g : Good0 kd a₀ st) : (arrOf st).size = a₀.size := g.perm.size_eq
theorem Good0.okX {st : SortSt} (g : Good0 kd a₀ st) (h0 : ∀ x ∈ a₀.toList, Ok x) {i : Nat} (hi : i < a₀.size) : Ok (X (arrOf st) i) := by
  have e := X_at (xs := arrOf st) (i := i) (by rw [g.size]; exact hi)
  exact h0 _ ((Array.perm_iff_toList_perm.mp g.perm).mem_iff.mp (mem_at e))
end
end Ts
namespace Ts
open PySem PyProof.Rows
def Runs (blt : Keyed → Keyed → Bool) (xs : Array Keyed) : List (Nat × Nat × Nat) → Nat → Nat → Prop
  | [], a, b => a = b
  | (s, n, _) :: r, a, b => s = a ∧ 1 ≤ n ∧ Asc blt xs a (a + n) ∧ Runs blt xs r (a + n) b
variable {blt : Keyed → Keyed → Bool}
theorem Runs.len {xs : Array Keyed} : ∀ {l : List (Nat × Nat × Nat)} {a b : Nat}, Runs blt xs l a b → a + l.length ≤ b
  | [], a, b, h => by
    have e : a = b := h
    rw [List.length_nil]
    omega
  | (s, n, p) :: r, a, b, h => by
    have := Runs.len h.2.2.2
    have := h.2.1
    rw [List.length_cons]
    omega
theorem Asc.out {xs ys : Array Keyed} {a b c d : Nat} (h : Asc blt xs a b) (o : Out xs ys c d) (e : b ≤ c ∨ d ≤ a) : Asc blt ys a b := fun i j i1 i2 j1 => by
  rw [o i (by omega), o j (by omega)]
  exact h i j i1 i2 j1
theorem Runs.out {xs ys : Array Keyed} {c d : Nat} (o : Out xs ys c d) : ∀ {l : List (Nat × Nat × Nat)} {a b : Nat}, (b ≤ c ∨ d ≤ a) → Runs blt xs l a b → Runs blt ys l a b
  | [], _, _, _, h => h
  | (s, n, p) :: r, a, b, e, h => by
    have hl := Runs.len h.2.2.2
    exact ⟨h.1, h.2.1, h.2.2.1.out o (by omega), Runs.out o (by omega) h.2.2.2⟩
theorem Runs.push {xs : Array Keyed} {m q : Nat} (hm : 1 ≤ m) : ∀ {l : List (Nat × Nat × Nat)} {a b : Nat}, Runs blt xs l a b → Asc blt xs b (b + m) → Runs blt xs (l ++ [(b, m, q)]) a (b + m)
  | [], a, b, h, hs => by
    have e : a = b := h
    subst e
    exact ⟨rfl, hm, hs, rfl⟩
  | (s, n, p) :: r, a, b, h, hs => ⟨h.1, h.2.1, h.2.2.1, Runs.push hm h.2.2.2 hs⟩
end Ts
namespace Ts
open PySem PyProof.Rows L2
end Ts
namespace Ts
open PySem PyProof.Rows L2
end Ts
namespace Nd
open PySem L2 Ts
def Ws (H : Hp) (ws : List (Addr × List Int)) : Prop := ∀ p ∈ ws, H p.1 = some (.tup (p.2.map V.int))
theorem Ws.same {H H' : Hp} {ws : List (Addr × List Int)} (h : Ws H ws) (s : Same H H') : Ws H' ws := fun p hp => s _ _ (h p hp)
def cOf (H : Hp) (a : Addr) : List Int := match H a with
  | some (.tup xs) => xs.filterMap fun x => match x with | .int i => some i | _ => none
  | _ => []
theorem cOf_eq {H : Hp} {a : Addr} {w : List Int} (h : H a = some (.tup (w.map V.int))) : cOf H a = w := by
  unfold cOf
  rw [h]
  show (w.map V.int).filterMap _ = w
  rw [List.filterMap_map]
  exact List.filterMap_some
theorem Ws.c {H : Hp} {ws : List (Addr × List Int)} (h : Ws H ws) : (ws.map (·.1)).map (cOf H) = ws.map (·.2) := by
  rw [List.map_map]
  exact List.map_congr_left fun p hp => cOf_eq (h p hp)
end Nd
namespace Nd
open PySem L2
def ch : Nat → Nat → Nat
  | _, 0 => 1
  | 0, _ + 1 => 0
  | n + 1, k + 1 => ch n k + ch n (k + 1)
theorem ch_zero (n : Nat) : ch n 0 = 1 := by cases n <;> rfl
theorem ch_succ (n k : Nat) : ch (n + 1) (k + 1) = ch n k + ch n (k + 1) := rfl
theorem ch_above : ∀ {n k : Nat}, n < k → ch n k = 0
  | 0, 0, h => absurd h (Nat.lt_irrefl _)
  | 0, k + 1, _ => rfl
  | n + 1, 0, h => absurd h (Nat.not_lt_zero _)
  | n + 1, k + 1, h => by rw [ch_succ, ch_above (by omega : n < k), ch_above (by omega : n < k + 1)]
theorem ch_self : ∀ n : Nat, ch n n = 1
  | 0 => rfl
  | n + 1 => by rw [ch_succ, ch_self n, ch_above (Nat.lt_succ_self n)]
theorem ch_one : ∀ n : Nat, ch n 1 = n
  | 0 => rfl
  | n + 1 => by rw [ch_succ, ch_zero, ch_one n]; omega
theorem ch_step : ∀ n k : Nat, ch n (k + 1) * (k + 1) = ch n k * (n - k)
  | 0, 0 => rfl
  | 0, k + 1 => by rw [ch_above (by omega : 0 < k + 1 + 1), ch_above (by omega : 0 < k + 1)]; simp
  | n + 1, 0 => by rw [ch_one, ch_zero]; omega
  | n + 1, k + 1 => by
    have h1 := ch_step n k
    have h2 := ch_step n (k + 1)
    rw [ch_succ, ch_succ n k]
    by_cases hk : n ≤ k
    · by_cases hk2 : n = k
      · subst hk2
        rw [ch_self, ch_above (by omega : n < n + 1), ch_above (by omega : n < n + 1 + 1)]
        simp
      · rw [ch_above (by omega : n < k + 1), ch_above (by omega : n < k + 1 + 1), ch_above (by omega : n < k)]
        simp
    · have e1 : n - k = n - (k + 1) + 1 := by omega
      have e2 : n + 1 - (k + 1) = n - (k + 1) + 1 := by omega
      rw [e1] at h1
      rw [e2]
      generalize n - (k + 1) = m at h1 h2
      generalize ch n k = A at *
      generalize ch n (k + 1) = B at *
      generalize ch n (k + 1 + 1) = C at *
      -- h1 : B * (k + 1) = A * (m + 1); h2 : C * (k + 1 + 1) = B * m
      have : (B + C) * (k + 1 + 1) = B * (k + 1) + B + C * (k + 1 + 1) := by
        rw [Nat.add_mul, Nat.mul_add B (k + 1) 1, Nat.mul_one]
      rw [this, h1, h2, Nat.add_mul, Nat.mul_add B m 1, Nat.mul_one]
      omega
theorem ch_sym : ∀ {n k : Nat}, k ≤ n → ch n k = ch n (n - k)
  | 0, k, h => by have : k = 0 := by omega
                  subst this; rfl
  | n + 1, 0, _ => by rw [ch_zero, Nat.sub_zero, ch_self]
  | n + 1, k + 1, h => by
    by_cases hk : k = n
    · subst hk; rw [Nat.sub_self, ch_self, ch_zero]
    · have e : n + 1 - (k + 1) = (n - (k + 1)) + 1 := by omega
      rw [ch_succ, e, ch_succ, ch_sym (by omega : k ≤ n), ch_sym (by omega : k + 1 ≤ n)]
      have e2 : n - k = n - (k + 1) + 1 := by omega
      rw [e2]
      omega
theorem ch_le : ∀ n k : Nat, ch n k ≤ 2 ^ n
  | n, 0 => by rw [ch_zero]; exact Nat.one_le_two_pow
  | 0, k + 1 => by rw [ch_above (by omega)]; exact Nat.zero_le _
  | n + 1, k + 1 => by
    have h1 := ch_le n k
    have h2 := ch_le n (k + 1)
    rw [ch_succ, Nat.pow_succ]
    omega
theorem ch_pos : ∀ {n k : Nat}, k ≤ n → 0 < ch n k
  | n, 0, _ => by rw [ch_zero]; exact Nat.one_pos
  | 0, k + 1, h => absurd h (Nat.not_succ_le_zero _)
  | n + 1, k + 1, h => by rw [ch_succ]; have := ch_pos (by omega : k ≤ n); omega
def cw : Nat → Int → Nat → List (List Int)
  | _, _, 0 => [[]]
  | 0, _, _ + 1 => []
  | d + 1, p, m + 1 => (cw d (p + 1) m).map (p :: ·) ++ cw d (p + 1) (m + 1)
theorem cw_zero (d : Nat) (p : Int) : cw d p 0 = [[]] := by cases d <;> rfl
theorem cw_succ (d : Nat) (p : Int) (m : Nat) : cw (d + 1) p (m + 1) = (cw d (p + 1) m).map (p :: ·) ++ cw d (p + 1) (m + 1) := rfl
theorem cw_len : ∀ (d : Nat) (p : Int) (m : Nat), (cw d p m).length = ch d m
  | d, p, 0 => by rw [cw_zero, ch_zero]; rfl
  | 0, p, m + 1 => rfl
  | d + 1, p, m + 1 => by rw [cw_succ, List.length_append, List.length_map, cw_len d (p + 1) m, cw_len d (p + 1) (m + 1), ch_succ]
def RisingAt (p : Int) (d : Nat) (w : List Int) : Prop := w.Pairwise (· < ·) ∧ ∀ x ∈ w, p ≤ x ∧ x < p + d
theorem cw_mem : ∀ {d : Nat} {p : Int} {m : Nat} {w : List Int}, w ∈ cw d p m ↔ w.length = m ∧ RisingAt p d w
  | d, p, 0, w => by
    rw [cw_zero, List.mem_singleton]
    constructor
    · rintro rfl; exact ⟨rfl, List.Pairwise.nil, fun _ h => (nomatch h)⟩
    · rintro ⟨h, _⟩; exact List.eq_nil_of_length_eq_zero h
  | 0, p, m + 1, w => by
    constructor
    · intro h; cases h
    · rintro ⟨h, _, h2⟩
      match w, h with
      | x :: w, _ => have := h2 x List.mem_cons_self; omega
  | d + 1, p, m + 1, w => by
    rw [cw_succ, List.mem_append, List.mem_map]
    constructor
    · rintro (⟨v, hv, rfl⟩ | h)
      · obtain ⟨h1, h2, h3⟩ := cw_mem.mp hv
        refine ⟨by rw [List.length_cons, h1], List.pairwise_cons.mpr ⟨fun x hx => ?_, h2⟩, fun x hx => ?_⟩
        · have := h3 x hx; omega
        · rcases List.mem_cons.mp hx with rfl | hx
          · omega
          · have := h3 x hx; omega
      · obtain ⟨h1, h2, h3⟩ := cw_mem.mp h
        exact ⟨h1, h2, fun x hx => by have := h3 x hx; omega⟩
    · rintro ⟨h1, h2, h3⟩
      match w, h1 with
      | x :: v, h1 =>
        obtain ⟨a1, a2⟩ := List.pairwise_cons.mp h2
        have hx := h3 x List.mem_cons_self
        by_cases e : x = p
        · subst e
          refine .inl ⟨v, cw_mem.mpr ⟨by simpa using h1, a2, fun y hy => ?_⟩, rfl⟩
          have := a1 y hy
          have := h3 y (List.mem_cons_of_mem _ hy)
          omega
        · refine .inr (cw_mem.mpr ⟨h1, h2, fun y hy => ?_⟩)
          rcases List.mem_cons.mp hy with rfl | hy
          · omega
          · have := a1 y hy
            have := h3 y (List.mem_cons_of_mem _ hy)
            omega
def behind (top : Int) : Nat → List Int → Nat
  | _, [] => 0
  | m, x :: w => ch (top - 1 - x).toNat m + behind top (m - 1) w
theorem cw_rank : ∀ {d : Nat} {p : Int} {m i : Nat} {w : List Int}, (cw d p m)[i]? = some w → i + 1 + behind (p + d) m w = ch d m
  | d, p, 0, i, w, h => by
    rw [cw_zero] at h
    match i, h with
    | 0, h => cases h; rw [ch_zero]; rfl
    | i + 1, h => cases h
  | 0, p, m + 1, i, w, h => by cases h
  | d + 1, p, m + 1, i, w, h => by
    rw [cw_succ] at h
    have e : p + ((d + 1 : Nat) : Int) = p + 1 + (d : Int) := by omega
    rw [e]
    by_cases hi : i < (cw d (p + 1) m).length
    · rw [List.getElem?_append_left (by rw [List.length_map]; exact hi), List.getElem?_map] at h
      cases hv : (cw d (p + 1) m)[i]? with
      | none => rw [hv] at h; cases h
      | some v =>
        rw [hv] at h
        cases h
        have ih := cw_rank hv
        show i + 1 + (ch (p + 1 + (d : Int) - 1 - p).toNat (m + 1) + behind (p + 1 + d) m v) = _
        have e2 : (p + 1 + (d : Int) - 1 - p).toNat = d := by omega
        rw [e2, ch_succ]
        omega
    · rw [List.getElem?_append_right (by rw [List.length_map]; omega), List.length_map, cw_len] at h
      have ih := cw_rank h
      rw [cw_len] at hi
      rw [ch_succ]
      omega
end Nd
namespace Nd
open PySem PySem.Spec PyProof.Rows L2
open AutoSeq1 (wpAny_loadPart')
section
variable {prog : Program} {w : World} {A : Around} {E : Value → Shared → Prop} {s : Shared}
theorem nextOf_tuple_item {it t : Addr} {i : Nat} {items : Array Value} {x : Value} {Q : Value → Shared → Prop} (hit : s.heap.IsTupleIter it t i) (ht : s.heap.IsTuple t items) (hx : items[i]? = some x)
    (hQ : ∀ h', h'.IsTupleIter it t (i + 1) → Heap.SameBut it s.heap h' → Q x { s with heap := h' }) : wpAny (model prog w) A (Builtin.SmallTypes.nextOf (.ref it)) Q E s := by
  obtain ⟨o, ho, hc, hd⟩ := id hit
  obtain ⟨ol, hol, _, nl, hdl⟩ := ht
  unfold Builtin.SmallTypes.nextOf
  refine wpAny_bind (wpAny_callSpecial?_slot (name := Str.ofString "__next__") hit.typeIs PySem.F.slot_tuple_iterator_next
    (wpAny_call_entry PySem.F.slot_tuple_iterator_next hit.typeIs PySem.F.entry_tuple_iterator_next ?_ (PySem.F.args_tuple_iterator_next_1 _)))
  show wpAny _ _ (field (.ref it) 0 >>= _) _ _ s
  refine wpAny_bind (wpAny_field ho hd (x := .ref t) rfl ?_)
  show wpAny _ _ (if (Value.ref t == Value.none) = true then _ else _) _ _ s
  rw [if_neg (show ¬ ((Value.ref t == Value.none) = true) from Bool.false_ne_true)]
  show wpAny _ _ (field (.ref it) 1 >>= _) _ _ s
  refine wpAny_bind (wpAny_field ho hd (x := .int i 0) rfl ?_)
  show wpAny _ _ (seqItems? (.ref t) >>= _) _ _ s
  refine wpAny_bind (wpAny_seqItems hol hdl ?_)
  simp only [Int.toNat_natCast, hx]
  refine wpAny_bind (wpAny_setField ho hd (by simp) (wpAny_pure ⟨x, rfl, wpAny_pure (hQ _ ?_ (Heap.SameBut.update ..))⟩))
  exact ⟨_, Heap.get?_update_self _ ho (Obj.isFreed_of_fields (Obj.data_mapFields hd _)), (Obj.cls_mapFields ..).trans hc, by
    rw [Obj.data_mapFields hd]; simp [rawInt]⟩
theorem nextOf_tuple_end {it t : Addr} {i : Nat} {items : Array Value} {Q : Value → Shared → Prop} (hh : A.handled = none) (hit : s.heap.IsTupleIter it t i) (ht : s.heap.IsTuple t items) (hx : items[i]? = none)
    (hE : ∀ h' e, Heap.ExtBut it s.heap h' → (∃ o, h'.get? e = some o ∧ o.cls = .type "StopIteration") → E (.ref e) { s with heap := h' }) :
    wpAny (model prog w) A (Builtin.SmallTypes.nextOf (.ref it)) Q E s := by
  obtain ⟨o, ho, hc, hd⟩ := id hit
  obtain ⟨ol, hol, _, nl, hdl⟩ := ht
  unfold Builtin.SmallTypes.nextOf
  refine wpAny_bind (wpAny_callSpecial?_slot (name := Str.ofString "__next__") hit.typeIs PySem.F.slot_tuple_iterator_next
    (wpAny_call_entry PySem.F.slot_tuple_iterator_next hit.typeIs PySem.F.entry_tuple_iterator_next ?_ (PySem.F.args_tuple_iterator_next_1 _)))
  show wpAny _ _ (field (.ref it) 0 >>= _) _ _ s
  refine wpAny_bind (wpAny_field ho hd (x := .ref t) rfl ?_)
  show wpAny _ _ (if (Value.ref t == Value.none) = true then _ else _) _ _ s
  rw [if_neg (show ¬ ((Value.ref t == Value.none) = true) from Bool.false_ne_true)]
  show wpAny _ _ (field (.ref it) 1 >>= _) _ _ s
  refine wpAny_bind (wpAny_field ho hd (x := .int i 0) rfl ?_)
  show wpAny _ _ (seqItems? (.ref t) >>= _) _ _ s
  refine wpAny_bind (wpAny_seqItems hol hdl ?_)
  simp only [Int.toNat_natCast, hx]
  refine wpAny_bind (wpAny_rule (wpAny_bind (wpAny_setField ho hd (by simp) ?_)))
  show wpAny _ _ (newExc (.type "StopIteration") [] >>= _) _ _ _
  refine wpAny_bind ?_
  simp only [newExc, newTuple]
  refine wpAny_bind (wpAny_newObj_type ?_ (by size_fits))
  refine wpAny_bind (m := firstArgMember _ _) (wpAny_of_eq (a := Value.none) (by first | rfl | (simp only [firstArgMember]; rfl)) ?_)
  refine wpAny_newObj_type ?_ (by size_fits)
  simp only [raiseNew]
  refine wpAny_bind (wpAny_handled ?_)
  first | rw [show A.in1.handled = none from hh] | rw [hh]
  refine wpAny_bind (wpAny_pure (wpAny_throw ?_))
  exact hE _ _ (((Heap.SameBut.update ..).extBut.push _).push _) ⟨_, Heap.get?_push_size _ rfl, rfl⟩
end
theorem drawsTuple {prog : Program} {w : World} {A : Around} (hh : A.handled = none) (it l : Addr) (hne : l ≠ it) (items : Array Value) :
    Draws prog w A it [it, l] items.size (fun i v => items[i]? = some v) (fun i h => h.IsTupleIter it l i ∧ h.IsTuple l items) where
  live := fun _ _ st => let ⟨o, ho, _⟩ := st.1; ⟨o, ho⟩
  frame := fun _ _ _ st hk => ⟨let ⟨o, ho, r⟩ := st.1; ⟨o, hk it (by simp) o ho, r⟩, let ⟨o, ho, r⟩ := st.2; ⟨o, hk l (by simp) o ho, r⟩⟩
  item := fun i s Q E hi st hQ => by
    refine nextOf_tuple_item st.1 st.2 (x := items[i]) (by simp [hi]) fun h' hit' hs' => ?_
    exact hQ _ h' s.toks (by simp [hi]) ⟨hit', st.2.extBut hs'.extBut hne⟩ hs'
  done := fun s Q E st hE => nextOf_tuple_end hh st.1 st.2 (by simp) hE
theorem meets_enumerate_newT (l : Addr) (items : Array Value) (n : Nat) (dct : Option Addr) (sl : Array (Option Value)) :
    Meets (Builtin.«enumerate.__new__» ⟨[.type "enumerate", .ref l], []⟩) (fun _ R s => s.heap.get? l = some { cls := .type "tuple", dict := dct, data := .seq items n, slots := sl } ∧
      R (.ok (.ret (.ref (s.heap.push { cls := .type "tuple_iterator", data := .fields #[.ref l, .int 0 0] }).objs.size)))
        { s with heap := (s.heap.push { cls := .type "tuple_iterator", data := .fields #[.ref l, .int 0 0] }).push { cls := .type "enumerate", data := .fields #[.none, .bool false, .ref s.heap.objs.size, rawInt 0, .none, .none] } }) :=
  .of_wp fun prog w A R s h => by
    obtain ⟨hp, g, d, tk, os⟩ := s; obtain ⟨hl, h⟩ := h
    have hsub := sub_enumerate
    have hL : Heap.IsTuple (Shared.heap ⟨hp, g, d, tk, os⟩) l items := ⟨_, hl, rfl, n, rfl⟩
    wp_walk using wpAny_loadPart' hl
    refine wpAny_stack_any fun st => wpAny_pure ?_
    split
    · rename_i c _ _ _ _ _
      cases (c == Value.type "enumerate")
      · wp_walk using wpAny_loadPart' hl, wpAny_pyIter_tuple hL
        exact ⟨_, rfl, h⟩
      · wp_walk using wpAny_loadPart' hl, wpAny_pyIter_tuple hL
        exact ⟨_, rfl, h⟩
    · wp_walk using wpAny_loadPart' hl, wpAny_pyIter_tuple hL
      exact ⟨_, rfl, h⟩
theorem call_enumerate_tuple {prog : Program} {w : World} {A : Around} {E : Value → Shared → Prop} {s : Shared} {l : Addr} {items : Array Value} {Q : Value → Shared → Prop} (hL : s.heap.IsTuple l items)
    (h : ∀ h', IsEnum h' (s.heap.objs.size + 1) s.heap.objs.size 0 .none → h'.IsTupleIter s.heap.objs.size l 0 → h'.objs.size = s.heap.objs.size + 2 →
      (∀ b o, s.heap.get? b = some o → h'.get? b = some o) → Q (.ref (s.heap.objs.size + 1)) { s with heap := h' }) :
    wpAny (model prog w) A (call (.type "enumerate") [.ref l]) Q E s := by
  obtain ⟨⟨c, dct, dt, sl⟩, hl, hc, n, hd⟩ := hL
  replace hc : c = .type "tuple" := hc
  replace hd : dt = .seq items n := hd
  subst hc hd
  refine callType_new PySem.F.called_enumerate (by decide) (PySem.F.typeCall_enumerate_1 _) (PySem.F.newCall_enumerate_1 _) (fun obj => PySem.F.args_object_init_2 obj _) PySem.F.entry_enumerate_new
    (meets_enumerate_newT l items n dct sl) ⟨hl, ?_⟩
  have hz : (s.heap.push { cls := .type "tuple_iterator", data := .fields #[.ref l, .int 0 0] }).objs.size = s.heap.objs.size + 1 := Heap.size_push ..
  show _ ∧ _
  rw [hz]
  have he : IsEnum ((s.heap.push { cls := .type "tuple_iterator", data := .fields #[.ref l, .int 0 0] }).push
      { cls := .type "enumerate", data := .fields #[.none, .bool false, .ref s.heap.objs.size, rawInt 0, .none, .none] }) (s.heap.objs.size + 1) s.heap.objs.size 0 .none := by
    have := Heap.get?_push_size (s.heap.push { cls := .type "tuple_iterator", data := .fields #[.ref l, .int 0 0] })
      (o := { cls := .type "enumerate", data := .fields #[.none, .bool false, .ref s.heap.objs.size, rawInt 0, .none, .none] }) rfl
    rw [hz] at this; exact this
  refine ⟨⟨_, he, rfl⟩, h _ he ⟨_, Heap.get?_push_of_some _ (Heap.get?_push_size _ rfl), rfl, rfl⟩ (by rw [Heap.size_push, hz]) fun b o x => Heap.get?_push_of_some _ (Heap.get?_push_of_some _ x)⟩
def IteT (K : PySem.W.Frag) (a : Addr) : It :=
  ⟨fun i H => ∃ xs x, SqT K H a xs ∧ xs[i]? = some x, fun i H x H' => ∃ p y, x = .ref p ∧ H p = none ∧ H' = upd H p (.tup [.int i, y]) ∧ ∀ xs, SqT K H a xs → xs[i]? = some y, fun i H => ∃ xs, SqT K H a xs ∧ xs.length = i⟩
theorem turn_enumT {P : Program} {w : World} {K : PySem.W.Frag} {elts : List Expr} {k : Nat} {pos : Pos} (a e it : Addr) (ne : e ≠ it) (nae : a ≠ e) (nai : a ≠ it) :
    Turn P w K (.Tuple elts k pos) (IteT K a) [e, it] e (fun i h => (∃ old, IsEnum h e it ((i : Nat) : Int) old) ∧ h.IsTupleIter it a i) where
  mem := List.mem_cons_self
  obj := fun i h st b hb => by
    obtain ⟨⟨old, he⟩, o, e1, c, d⟩ := st
    rcases List.mem_cons.mp hb with z | z
    · subst z
      exact ⟨_, he, fun v z => by cases z⟩
    · rw [List.mem_singleton.mp z]
      exact ⟨o, e1, fun v z => by rw [d] at z; cases z⟩
  keep := fun i h h' st kp => ⟨let ⟨old, he⟩ := st.1; ⟨old, kp e List.mem_cons_self _ he⟩, let ⟨o, ho, r⟩ := st.2; ⟨o, kp it (List.mem_cons_of_mem _ List.mem_cons_self) o ho, r⟩⟩
  item := by
    intro X hP hw hK hc i pins s σ H E I hf st hg
    subst hP hw hK
    obtain ⟨xs, x, hq, hx⟩ := hg
    obtain ⟨its, rv, p, hz⟩ := I.tuple hq
    obtain ⟨u, hu, ru⟩ := rv.get hx
    obtain ⟨⟨old, he⟩, hit⟩ := st
    have el : e < s.heap.objs.size := Heap.lt_size he
    have il : it < s.heap.objs.size := by obtain ⟨_, q, _⟩ := hit; exact Heap.lt_size q
    have hT : s.heap.IsTuple a its.toArray := p
    have hlt : i < its.toArray.size := by rw [List.size_toArray]; exact (List.getElem?_eq_some_iff.mp hu).1
    have hdn : X.A.in1.handled = none := I.ok.hd hc
    refine wpAny_pyNext_enum_itemD (drawsTuple hdn it a nai its.toArray) he ⟨hit, hT⟩ hlt ne (by simp only [List.mem_cons, List.not_mem_nil, or_false]; exact fun z => z.elim ne (fun q => nae q.symm)) fun u' h1 tk hu' ho hit1 hT1 hsz hk => ?_
    have eu : u' = u := by
      have : its[i]? = some u' := by simpa using hu'
      rw [hu] at this
      exact (Option.some.inj this).symm
    subst eu
    refine ⟨_, rfl, wpAny_letOwnedTupleGo_enum ho fun h2 he2 hs2 => ?_⟩
    have hs2' : Heap.SameBut e h1 h2 := hs2
    have I1 : Inv X pins σ (upd H s.heap.objs.size (.tup [.int i, x])) { s with heap := s.heap.push { cls := .type "tuple", data := .seq #[.int i tk, u'] } } :=
      I.laid (t' := s.toks) (fun b o q => Heap.get?_push_of_some _ q) (Nat.le_refl _) ⟨by show 2 ≤ sizeLine; decide, [.int i tk, u'], .cons ⟨_, rfl⟩ (.cons ru .nil), _, Heap.get?_push_size _ rfl, rfl, 0, rfl⟩
    have nT : ∀ b ∈ [e, it], b ≠ s.heap.objs.size := fun b hb => by
      rcases List.mem_cons.mp hb with z | z
      · rw [z]; exact Nat.ne_of_lt el
      · rw [List.mem_singleton.mp z]; exact Nat.ne_of_lt il
    have fr : ∀ b ∈ [e, it], (upd H s.heap.objs.size (.tup [.int i, x])) b = none := fun b hb => by rw [upd_ne (nT b hb)]; exact (hf b hb).1
    refine ⟨.ref s.heap.objs.size, _, turnedL (fp := [e, it]) (s := { s with heap := s.heap.push { cls := .type "tuple", data := .seq #[.int i tk, u'] } }) (h' := h2) (t' := tk + 1) I1 (fun b o hb q => ?_) (fun b hb => ⟨fr b hb, (hf b hb).2⟩), rfl, ⟨_, x, rfl, I.hok.fresh (Nat.le_refl _), rfl, fun ys hy => by rw [I.tuple_inj hy hq]; exact hx⟩, ⟨⟨u', ?_⟩, ?_⟩, fr⟩
    · have nbe : b ≠ e := fun z => hb (by rw [z]; exact List.mem_cons_self)
      have nbi : b ≠ it := fun z => hb (by rw [z]; exact List.mem_cons_of_mem _ List.mem_cons_self)
      refine (hs2'.2 b nbe).trans ?_
      by_cases hbT : b = s.heap.objs.size
      · subst hbT
        have q' := (Heap.get?_push_size s.heap (o := { cls := .type "tuple", data := .seq #[.int i tk, u'] }) rfl).symm.trans q
        rw [hT1]
        exact q'
      · refine hk b o nbe nbi ?_
        have q0 : (s.heap.push { cls := .type "tuple", data := .seq #[.int i tk, u'] }).get? b = some o := q
        rcases Heap.get?_push_cases q0 with z | z
        · exact absurd z.1 hbT
        · exact z
    · have : ((i + 1 : Nat) : Int) = (i : Int) + 1 := by omega
      rw [this]
      exact he2
    · obtain ⟨o, q1, r⟩ := hit1.1
      exact ⟨o, (hs2'.2 it (Ne.symm ne)).trans q1, r⟩
  done := by
    intro X hP hw hK hc i pins s σ H E I hf st hg
    subst hP hw hK
    obtain ⟨xs, hq, hx⟩ := hg
    obtain ⟨its, rv, p, hz⟩ := I.tuple hq
    obtain ⟨⟨old, he⟩, hit⟩ := st
    have hl := rv.length
    have hT : s.heap.IsTuple a its.toArray := p
    have hdn : X.A.in1.handled = none := I.ok.hd hc
    have hi : its.toArray.size = i := by rw [List.size_toArray]; omega
    exact wpAny_pyNext_enum_endD (drawsTuple hdn it a nai its.toArray) he ⟨by rw [hi]; exact hit, hT⟩ fun h1 eb => ⟨rfl, turnedL (fp := [e, it]) (t' := s.toks) I (fun b o hb q => eb b o (fun z => hb (by rw [z]; exact List.mem_cons_of_mem _ List.mem_cons_self)) q) hf⟩
  self := fun _ _ _ _ _ st h => let ⟨_, he⟩ := st.1; wpAny_pyIter_enum he h
section
variable {X : Cx}
def iEnumT (K : PySem.W.Frag) (ta : TA) : TI := fun σ H R => ta σ H fun vs H1 => ∃ a, vs = [.ref a] ∧ (∃ xs, SqT K H1 a xs) ∧ R (IteT K a) H1
theorem pi_enumT {elts : List Expr} {k : Nat} {tp : Pos} {a : Expr} {ta : TA} {p pos : Pos} (hg : Gl X "enumerate") (hm : X.mg "enumerate" = none) (ha : PA X [a] ta) (hs : starEach [a] X.env = [(false, eval a X.env)] := by rfl) :
    PI X (.Tuple elts k tp) (.Call (.Name "enumerate" p) [a] [] pos) (iEnumT X.K ta) := by
  intro pins s σ H R I h
  refine Call_ (ld_blt I hg hm (u := .type "enumerate") (by decide +kernel) (PyProof.Rows.callWith_type1 (thn (ha pos pins s σ H _ I h) fun us s1 ⟨vs, H1, I1, r1, q1⟩ => ?_) hs rfl))
  obtain ⟨l, e, ⟨xs, hq⟩, q⟩ := q1
  subst e
  obtain ⟨u, rfl, ru⟩ := vals1 r1
  cases ru
  obtain ⟨its, rv, pl, hz⟩ := I1.tuple hq
  have ll : l < s1.heap.objs.size := by obtain ⟨o, ho, _⟩ := pl; exact Heap.lt_size ho
  refine call_enumerate_tuple (show s1.heap.IsTuple l its.toArray from pl) fun h2 he hit hsz hk => wpAny_pyIter_enum he ?_
  have fr : ∀ b ∈ [s1.heap.objs.size + 1, s1.heap.objs.size], FpOk X pins H1 b := fun b hb => by
    rcases List.mem_cons.mp hb with z | z
    · rw [z]; exact I1.fpOk (Nat.le_succ _) (I1.hok.fresh (Nat.le_succ _))
    · rw [List.mem_singleton.mp z]; exact I1.fpOk (Nat.le_refl _) (I1.hok.fresh (Nat.le_refl _))
  exact ⟨s1.heap.objs.size + 1, [s1.heap.objs.size + 1, s1.heap.objs.size], _, _, H1, rfl, I1.kept (t' := s1.toks) hk, turn_enumT l _ _ (Nat.succ_ne_self _) (Nat.ne_of_lt (Nat.lt_succ_of_lt ll)) (Nat.ne_of_lt ll), ⟨⟨_, he⟩, hit⟩, fr, q⟩
end
theorem for_enumT {K : PySem.W.Frag} {a : Addr} {xs : List V} {g : TG} {tb : TS} {D : Ends} {σ : L2.St} {H : Hp} (Pv : Nat → L2.St → Hp → Prop) (h0 : Pv 0 σ H) (hl : ∀ i σ H, i ≤ xs.length → Pv i σ H → SqT K H a xs)
    (hs : ∀ i x σ H p, xs[i]? = some x → H p = none → Pv i σ H → g (.ref p) σ (upd H p (.tup [.int i, x])) fun σ2 H2 => tb { D with nx := Pv (i + 1), ct := Pv (i + 1), bk := D.nx } σ2 H2) (hd : ∀ σ H, Pv xs.length σ H → D.nx σ H) :
    ∃ W : Nat → Nat → L2.St → Hp → Prop, (∃ m, W 0 m σ H) ∧ ∀ i m σ H, W i m σ H →
      ((IteT K a).stop i H ∧ D.nx σ H) ∨ ((IteT K a).go i H ∧ ∃ N : L2.St → Hp → Prop, (∀ σ' H', N σ' H' → ∃ m', m' < m ∧ W (i + 1) m' σ' H') ∧ ∀ x H', (IteT K a).yld i H x H' → g x σ H' fun σ2 H2 => tb { D with nx := N, ct := N, bk := D.nx } σ2 H2) := by
  refine ⟨fun i m σ H => m = xs.length - i ∧ i ≤ xs.length ∧ Pv i σ H, ⟨xs.length, by simp, Nat.zero_le _, h0⟩, ?_⟩
  rintro i m σ H ⟨rfl, hi, p⟩
  have q := hl i σ H hi p
  by_cases hlt : i < xs.length
  · refine .inr ⟨⟨xs, xs[i], q, by simp [hlt]⟩, Pv (i + 1), fun σ' H' p' => ⟨xs.length - (i + 1), by omega, rfl, hlt, p'⟩, fun x H' y => ?_⟩
    obtain ⟨t, z, rfl, nt, rfl, hz⟩ := y
    exact hs i z σ H t (hz xs q) nt p
  · have e : i = xs.length := by omega
    subst e
    exact .inl ⟨⟨xs, q, rfl⟩, hd σ H p⟩
end Nd
namespace Nd
open PySem PySem.Spec PySem.Calls PyProof.Rows PyProof.V L2
def IsRng (r : Addr) (j : Int) (h : Heap) : Prop := ∃ t u v, IsRange h r 0 j 1 t u v
abbrev RngO (r : Addr) (j : Int) : HO := .ext (IsRng r j)
section
variable {prog : Program} {w : World} {A : Around} {E : Value → Shared → Prop} {s : Shared}
theorem collect_range {R : List Value → Shared → Prop} {r : Addr} {a b c : Int} {t u v : Tok} {n : Nat} (hh : A.handled = none) (hr : IsRange s.heap r a b c t u v) (hsmall : Builtin.Range.small a b c = true)
    (hn : Builtin.Range.rangeSize a b c = n) (hlen : n ≤ 2 ^ 24)
    (h : ∀ (h' : Heap) (tk : Nat) (acc : Array Value), (∀ b o, s.heap.get? b = some o → h'.get? b = some o) → ItemsOf (fun i v => ∃ t, v = .int (a + i * c) t) acc n → R acc.toList { s with heap := h', toks := tk }) :
    wpAny (model prog w) A (collect (.ref r)) R E s := by
  unfold collect
  refine wpAny_bind (wpAny_runValue (codeAny_builtin PyProof.Rows.entry_proto_collect' ?_))
  rw [Around.under_plainId PySem.F.plain_proto_collect _]
  show wpAny _ A.in1 (newList [] >>= fun l => again (.builtin "list.__iadd__" ⟨[l, .ref r], []⟩)) _ _ s
  refine wpAny_bind (wpAny_newObj_type ?_)
  refine wpAny_pure ⟨plainId_quiet PySem.F.plain_list_iadd _, codeAny_builtin PyProof.Rows.entry_list_iadd' ?_⟩
  rw [Around.under_plainId PySem.F.plain_list_iadd _]
  have hS₁ : (s.heap.push { cls := .type "list", data := .seq ([] : List Value).toArray }).get? s.heap.objs.size = some { cls := .type "list", data := .seq #[] } := Heap.get?_push_size _ rfl
  show wpAny _ A.in1 (Builtin.List.listExtendWith (.ref s.heap.objs.size) (.ref r) (.ref s.heap.objs.size)) _ _ _
  have key := wpAny_extend_range (prog := prog) (w := w) (A := A) (s := { s with heap := s.heap.push { cls := .type "list", data := .seq ([] : List Value).toArray } })
    (R := fun (q : Result) (s' : Shared) => ∃ (h' : Heap) (tk : Nat) (acc' : Array Value) (c' : Nat), q = .ok (.ret (.ref s.heap.objs.size)) ∧ s' = { s with heap := h', toks := tk } ∧
      (∀ b o, s.heap.get? b = some o → h'.get? b = some o) ∧ h'.get? s.heap.objs.size = some { cls := .type "list", dict := none, data := .seq acc' c', slots := #[] } ∧ ItemsOf (fun i v => ∃ t, v = .int (a + i * c) t) acc' n)
    hh (Heap.get?_push_of_some _ hr) hsmall hn hlen s.heap.objs.size (.ref s.heap.objs.size) 0 hS₁
    (fun h' tk acc' c' hk hS' hacc => ⟨h', tk, acc', c', rfl, rfl, fun b o e => hk b o (Nat.ne_of_lt (Heap.lt_size e)) (Heap.get?_push_of_some _ e), hS', hacc⟩)
  refine wpAny_mono key (fun fin s' x => ?_) fun e s' x => ?_
  · cases fin with
    | done f =>
      obtain ⟨h', tk, acc', c', e, rfl, hk, hS', hacc⟩ := x
      cases e
      show wpAny _ A (load s.heap.objs.size >>= _) _ _ _
      refine wpAny_bind (wpAny_load hS' ?_)
      exact wpAny_pure (h h' tk acc' hk hacc)
    | again c₁ =>
      refine ⟨x.1, codeAny_mono x.2 fun q s₂ y => ?_⟩
      obtain ⟨h', tk, acc', c', rfl, rfl, hk, hS', hacc⟩ := y
      show wpAny _ A (load s.heap.objs.size >>= _) _ _ _
      refine wpAny_bind (wpAny_load hS' ?_)
      exact wpAny_pure (h h' tk acc' hk hacc)
  · obtain ⟨_, _, _, _, e', _⟩ := x
    cases e'
theorem code_tuple_range {Q₁ : Value → Shared → Prop} {r : Addr} {a b c : Int} {t u v : Tok} {n : Nat} (hh : A.handled = none) (hr : IsRange s.heap r a b c t u v) (hsmall : Builtin.Range.small a b c = true)
    (hn : Builtin.Range.rangeSize a b c = n) (hlen : n ≤ 1000)
    (h : ∀ (h' : Heap) (tk : Nat) (acc : Array Value), (∀ b o, s.heap.get? b = some o → h'.get? b = some o) → ItemsOf (fun i v => ∃ t, v = .int (a + i * c) t) acc n → Q₁ (.ref h'.objs.size) { s with heap := h'.push { cls := .type "tuple", data := .seq acc }, toks := tk }) :
    codeAny (model prog w) A (.call (.builtin "tuple.__new__") ⟨[.type "tuple", .ref r], []⟩) (wants Q₁ E) s := by
  refine codeAny_of_tree ?_
  show wpAny _ A.in1 (do checkBuiltinCall "tuple.__new__" ⟨[.type "tuple", .ref r], []⟩; again (.builtin "tuple.__new__" ⟨[.type "tuple", .ref r], []⟩)) _ _ s
  refine wpAny_bind (wpAny_of_eq (F.newCall_tuple_1 _) (wpAny_pure ⟨plainId_quiet F.plain_tuple_new _, codeAny_builtin F.entry_tuple_new ?_⟩))
  rw [Around.under_plainId F.plain_tuple_new _]
  have hsub := sub_tuple_self
  have hinit := init_tuple_lookup
  have hmh := madeHere_tuple
  have hTI : s.TypeIs (.ref r) "range" := ⟨_, hr, rfl⟩
  have hh1 : A.in1.handled = none := hh
  wp_walk using wpAny_typeOf hTI, collect_range hh1 hr hsmall hn (by omega)
  intro h' tk acc hm hacc
  show wpAny _ _ (Builtin.Tuple.tupleExact acc.toList.toArray >>= fun v => ret v) _ _ _
  unfold Builtin.Tuple.tupleExact
  refine wpAny_bind (wpAny_newObj_type ?_ (by show acc.toList.toArray.size ≤ sizeLine; simp only [Array.toArray_toList]; rw [hacc.1, sizeLine_eq]; omega))
  refine wpAny_pure ?_
  have e : acc.toList.toArray = acc := by simp
  rw [e]
  exact h h' tk acc hm hacc
end
theorem intsAre_range : ∀ {n : Nat} {acc : Array Value}, acc.size = n → (∀ (i : Nat) v, acc[i]? = some v → ∃ t, v = Value.int (i : Int) t) → IntsAre acc.toList ((List.range n).map fun k : Nat => (k : Int)) := by
  intro n acc hs h
  have gen : ∀ (l : List Value) (m : Nat), (∀ (i : Nat) v, l[i]? = some v → ∃ t, v = Value.int ((m + i : Nat) : Int) t) → IntsAre l ((List.range' m l.length).map fun k : Nat => (k : Int)) := by
    intro l
    induction l with
    | nil => intro m _; exact .nil
    | cons x l ih =>
      intro m hx
      obtain ⟨t, e⟩ := hx 0 x rfl
      have := ih (m + 1) fun i v hv => by
        obtain ⟨t, e⟩ := hx (i + 1) v hv
        exact ⟨t, by rw [e]; congr 1; omega⟩
      rw [List.length_cons, List.range'_succ, List.map_cons]
      rw [e]
      exact .cons _ t this
  have := gen acc.toList 0 fun i v hv => by
    obtain ⟨t, e⟩ := h i v (by simpa using hv)
    exact ⟨t, by rw [e]; congr 1; omega⟩
  rw [List.range_eq_range']
  have e : acc.toList.length = n := by simpa using hs
  rw [e] at this
  exact this
section
variable {X : Cx}
def rRngV : List V → Hp → VK → Prop := fun xs H Q => ∃ j : Int, xs = [.int j] ∧ ∀ r, H r = none → Q (.ref r) (upd H r (RngO r j))
theorem call_rangeV : CallR X (.type "range") rRngV := by
  intro pins s σ H xs us Q I r h
  obtain ⟨j, rfl, q⟩ := h
  obtain ⟨u, rfl, t, rfl⟩ := vals1 r
  refine call_range_1 ⟨.ref s.heap.objs.size, _, I.laid (a := s.heap.objs.size) (o := RngO s.heap.objs.size j) (t' := s.toks + 1 + 1) (fun b o e => Heap.get?_push_of_some _ e) (Nat.le_refl _) ?_, rfl, q _ (I.hok.fresh (Nat.le_refl _))⟩
  refine ⟨⟨_, _, _, Heap.get?_push_size _ rfl⟩, ⟨_, Heap.get?_push_size _ rfl⟩, fun h1 h2 ⟨t, u, v, e⟩ k => ⟨t, u, v, k _ e⟩⟩
def rTupR : List V → Hp → VK → Prop := fun xs H Q => ∃ (r : Addr) (j : Int), xs = [.ref r] ∧ H r = some (RngO r j) ∧ 0 ≤ j ∧ j ≤ 1000 ∧ ∀ l, H l = none → Q (.ref l) (upd H l (.tup (((List.range j.toNat).map fun n : Nat => (n : Int)).map V.int)))
theorem call_tupleR (hc : X.calm = true) : CallR X (.type "tuple") rTupR := by
  intro pins s σ H xs us Q I r h
  obtain ⟨p, j, rfl, hp, j0, j1, q⟩ := h
  obtain ⟨u, rfl, ru⟩ := vals1 r
  cases ru
  obtain ⟨⟨t, u, v, hr⟩, _, _⟩ := (show ObjOk X.prog X.w H s.heap p (RngO p j) from I.hok p _ hp)
  have hn : Builtin.Range.rangeSize 0 j 1 = ((j.toNat : Nat) : Int) := by rw [rangeSize_one]; split <;> omega
  refine callType_codes (Q₁ := fun obj s₁ => s₁.TypeIs obj "tuple" ∧ EP X pins σ Q obj s₁) F.called_tuple (F.typeCall_tuple_1 _) F.entry_object_init
    (code_tuple_range (prog := X.prog) (w := X.w) (E := X.xe) (Q₁ := fun obj s₁ => s₁.TypeIs obj "tuple" ∧ EP X pins σ Q obj s₁) (A := X.A.in1) (show X.A.in1.handled = none from I.ok.hd hc) hr (small_one (by omega) (by omega) (by omega) (by omega)) hn (by omega) fun h' tk acc hk hacc => ⟨⟨_, Heap.get?_push_size _ rfl, rfl⟩, ?_⟩) fun obj s₁ h₁ => ?_
  · have I1 : Inv X pins σ H { s with heap := h', toks := tk } := I.kept hk
    have hv : Vals (((List.range j.toNat).map fun n : Nat => (n : Int)).map V.int) acc.toList := by
      refine valsI (intsAre_range ?_ ?_)
      · exact hacc.1
      · intro i v hv
        obtain ⟨t, e⟩ := hacc.2 i v hv
        exact ⟨t, by rw [e]; congr 1; omega⟩
    refine ⟨.ref h'.objs.size, _, I1.laid (a := h'.objs.size) (o := .tup (((List.range j.toNat).map fun n : Nat => (n : Int)).map V.int)) (t' := tk) (fun b o e => Heap.get?_push_of_some _ e) (Nat.le_refl _) ⟨?_, acc.toList, hv, ?_⟩, rfl, q _ (I1.hok.fresh (Nat.le_refl _))⟩
    · rw [List.length_map, List.length_map, List.length_range]; exact sz (by omega)
    · have e : acc = acc.toList.toArray := by simp
      rw [e]
      exact IsTup.new _ _
  · exact ⟨h₁.1, F.args_object_init_2 obj _, object_init_meets F.called_tuple.init.lookup F.called_tuple.made (by decide) X.prog X.w X.A.in1 _ s₁ ⟨h₁.1, rfl, h₁.2⟩⟩
end
end Nd
namespace Nd
open PySem PySem.Spec PyProof.Rows L2
section
variable {X : Cx}
def rSlTP : V → Option Int → Option Int → Hp → VK → Prop := fun x lo hi H Q => ∃ a xs, x = .ref a ∧ H a = some (.tup xs) ∧ ∀ p H', H' p = some (.tup (cutV xs lo hi)) → Same H H' → Q (.ref p) H'
theorem sl_tupP : SlR X rSlTP := by
  intro pins s σ H x v vl vu lo hi sl Q I rx hs pl pu h
  obtain ⟨a, xs, rfl, hx', q⟩ := h
  have hx : SqT X.K H a xs := SqT.of hx'
  cases rx
  by_cases hw : HT.sIx xs.length 0 lo = 0 ∧ HT.sIx xs.length xs.length hi = xs.length
  · obtain ⟨its, r, ht, hz⟩ := I.tuple hx
    have hlen : its.toArray.size = xs.length := by rw [List.size_toArray]; exact r.length.symm
    refine ⟨"tuple", _, PyProof.Rows.slot_tuple_getitem.lookup, ht.typeIs, ?_⟩
    refine getItem_tuple_whole ht hs pl pu (by rw [hlen]; exact hw) ⟨.ref a, H, I, rfl, q a H ?_ (Same.refl _)⟩
    unfold cutV
    rw [hw.1, hw.2, List.drop_zero, Nat.sub_zero, List.take_length]
    exact hx'
  · exact sl_tup pins s σ H (.ref a) (.ref a) vl vu lo hi sl Q I rfl hs pl pu ⟨a, xs, rfl, hx, hw, fun p np => q p _ upd_same (same_new np _)⟩
end
end Nd
namespace K13
open PySem L2 Nd
def spChoose : Sp := fun vs H Q _ => ∃ n k : Int, vs = [.int n, .int k] ∧ 0 ≤ n ∧ n ≤ 1000 ∧ 0 ≤ k ∧ ∀ H', Same H H' → Q (.int (ch n.toNat k.toNat)) H'
theorem ch_div (n i : Nat) (h : i ≤ n) : ((ch n i : Int) * ((n : Int) - (i : Int))) / ((i : Int) + 1) = (ch n (i + 1) : Int) := by
  have h1 := ch_step n i
  have h2 : ((ch n i : Int) * ((n : Int) - (i : Int))) = (ch n (i + 1) : Int) * ((i : Int) + 1) := by
    have : (((ch n i * (n - i) : Nat)) : Int) = ((ch n (i + 1) * (i + 1) : Nat) : Int) := by rw [h1]
    rw [Int.natCast_mul, Int.natCast_mul, Int.natCast_sub h] at this
    rw [this]
    rfl
  rw [h2, Int.mul_ediv_cancel _ (by omega)]
section
variable {P : Program} {w : World} {K : PySem.W.Frag} {mg : Str → Option Value} {base : Heap}
theorem sc_choose : FnScope ["n", "k", "many", "step"] ["n", "k"] (defScope s_choose) := ⟨rfl, rfl, rfl, by decide +kernel, rfl, by decide +kernel, by decide +kernel⟩
theorem ok_choose {f  : Addr} {fd  : FuncData} (F : Fun K "choose" "choose" s_choose f fd)
    (mz_min : mg "min" = none) (mz_range : mg "range" = none) :
    FnOk P w K mg base CX0 1 f fd ["n", "k"] (spChoose) := by
  refine F.ok sc_choose (fun vs H Q E h => ?_) (fun cdv A outer s H vs Q E hr h => ?_)
  · obtain ⟨n, k, rfl, _⟩ := h
    rfl
  obtain ⟨n, k, rfl, n0, n1, k0, q⟩ := h
  have hu := hu_of hr
  have hu64 := hr.units
  refine ⟨_, pss_cons (ps_if (pt_cmpR op_gt (pv 1) (pv 0) (nomark _))
    (pss_one (ps_ret pe_int)) pss_nil)
    (pss_cons (ps_set (i := 2) sc_choose.nd rfl (Or.inl rfl) pe_int)
    (pss_cons (ps_for PassesOwn.never rfl (pi_range1 rfl mz_range (pa_cons (pe_callB (call_min2 rfl) rfl mz_min (by decide +kernel) (pa_cons (pv 1) (pa_cons (pe_op op_sub (pv 0) (pv 1)) pa_nil))) pa_nil)) (pg_name (i := 3) sc_choose.nd rfl (Or.inl rfl))
    (pss_one (ps_set (i := 2) sc_choose.nd rfl (Or.inl rfl) (pe_op op_fdiv (pe_op op_mul (pv 2) (pe_op op_sub (pv 0) (pv 3))) (pe_op op_add (pv 3) pe_int)))))
    (pss_one (ps_ret (pv 2))))), ?_⟩
  refine ⟨_, rfl, _, rfl, _, _, rfl, rfl, _, rfl, ite2 (fun hkn => ?_) (fun hkn => ?_)⟩
  · have := q H (Same.refl _)
    rw [ch_above (by have := of_decide_eq_true hkn; omega)] at this
    exact this
  have hkn : k ≤ n := by
    have : ¬ n < k := fun z => hkn (decide_eq_true z)
    omega
  refine ⟨_, rfl, _, rfl, _, rfl, _, _, rfl, rfl, _, _, rfl, ?_⟩
  obtain ⟨t, et, ht⟩ : ∃ t : Nat, (if n - k < k then n - k else k) = (t : Int) ∧ (t = k.toNat ∨ t = n.toNat - k.toNat) := by
    by_cases h : n - k < k
    · exact ⟨(n - k).toNat, by rw [if_pos h]; omega, .inr (by omega)⟩
    · exact ⟨k.toNat, by rw [if_neg h]; omega, .inl rfl⟩
  rw [et]
  have tn : t ≤ n.toNat := by omega
  have ec : ch n.toNat t = ch n.toNat k.toNat := by
    rcases ht with rfl | rfl
    · rfl
    · exact (ch_sym (by omega)).symm
  refine ⟨t, rfl, by omega, by omega, for_range (lo := 0) (n := ((t : Nat) : Int).toNat) (fun i σ H2 => ∃ u3 : Option V, σ = [some (.int n), some (.int k), some (.int (ch n.toNat i)), u3] ∧ Same H H2) ⟨none, by rw [ch_zero]; rfl, Same.refl _⟩ ?_ ?_⟩
  · rintro i σ H2 hi ⟨u3, rfl, sm⟩
    refine ⟨_, rfl, _, rfl, _, rfl, _, _, rfl, rfl, _, _, rfl, rfl, .inr ⟨by omega, by omega⟩, _, rfl, _, _, rfl, rfl, _, _, rfl, rfl, ⟨by omega, by omega⟩, ?_⟩
    have e := ch_div n.toNat i (by omega)
    have en : ((n.toNat : Nat) : Int) = n := by omega
    rw [en] at e
    refine ⟨some (.int (0 + (i : Int))), ?_, sm⟩
    show [some (V.int n), some (V.int k), some (V.int (((ch n.toNat i : Nat) : Int) * (n - (0 + (i : Int))) / (0 + (i : Int) + 1))), some (V.int (0 + (i : Int)))] = _
    rw [Int.zero_add, e]
  · rintro σ H2 ⟨u3, rfl, sm⟩
    have := q H2 sm
    rw [← ec] at this
    exact ⟨_, rfl, this⟩
end
end K13
namespace K13
open PySem L2 Nd
def spNum (K : PySem.W.Frag) : Sp := fun vs H Q _ => ∃ (h : Int) (a : Addr) (w : List Int) (i : Nat), vs = [.int h, .ref a] ∧ 0 ≤ h ∧ h ≤ 60 ∧ SqT K H a (w.map V.int) ∧ w.length ≤ 1000 ∧ (cw h.toNat 0 w.length)[i]? = some w ∧ ∀ H', Same H H' → Q (.int i) H'
theorem drop_more {α : Type} {xs : List α} {i : Nat} {x : α} (h : xs[i]? = some x) : xs.drop i = x :: xs.drop (i + 1) := by
  obtain ⟨hi, e⟩ := List.getElem?_eq_some_iff.mp h
  rw [List.drop_eq_getElem_cons hi, e]
theorem passF {X : Cx} {P : Program} {w : World} : Passes (CXN P w) X E0 := by
  intro pins σ H1 s1 ev s' I h
  obtain ⟨e, C, t, H', B, rfl, F, q⟩ := h
  exact q.elim
def spAtX (CN : Addr) : Sp := fun vs H Q E => ∃ (h m n : Int), vs = [.int h, .int m, .int n] ∧ 0 ≤ h ∧ h ≤ 60 ∧ 0 ≤ m ∧
  (0 ≤ n → n < (ch h.toNat m.toNat : Int) → ∀ (p : Addr) (w : List Int) (H' : Hp), H' p = some (.tup (w.map V.int)) → (cw h.toNat 0 m.toNat)[n.toNat]? = some w → Same H H' → Q (.ref p) H') ∧
  (n < 0 ∨ (ch h.toNat m.toNat : Int) ≤ n → ∀ H', Same H H' → E (.ref CN) none H')
section
variable {P : Program} {w : World} {K : PySem.W.Frag} {mg : Str → Option Value} {base : Heap}
theorem sc_word_at : FnScope ["holes", "many", "number", "word", "left", "place", "having"] ["holes", "many", "number"] (defScope s_word_at) := ⟨rfl, rfl, rfl, by decide +kernel, rfl, by decide +kernel, by decide +kernel⟩
theorem ok_word_at {f f_choose CN : Addr} {fd d_choose : FuncData} (F : Fun K "word_at" "word_at" s_word_at f fd)
    (G_choose : FnOk P w K mg base CX0 1 f_choose d_choose ["n", "k"] (spChoose)) (b_choose : Binds K d_choose ["n", "k"] []) (k_choose : PySem.W.keepIn K (.ref f_choose) = true) (m_choose : mg "choose" = some (.ref f_choose))
    (mz_len : mg "len" = none)
    (m_NoCount : mg "NoCount" = some (.ref CN)) (e_NoCount : PySem.W.excIn K CN bmV "ValueError.__new__" = true) :
    FnOk P w K mg base (CXN P w) 2 f fd ["holes", "many", "number"] (spAtX CN) := by
  refine okX F sc_word_at (fun vs H Q E h => ?_) (fun cdv A outer s H vs Q E hr h => ?_)
  · obtain ⟨h, m, n, rfl, _⟩ := h
    rfl
  obtain ⟨h, m, n, rfl, h0, h1, m0, qQ, qE⟩ := h
  have hr1 : Room 1 _ := hr.mono (by decide)
  have hu := hu_of hr
  have hu64 := hr.units
  refine ⟨_, pss_cons (ps_if (PW.pt (pw_or (pt_cmpR op_lt (pv 2) pe_int (nomark _)) (pw_or1 (pt_cmpR op_ge (pv 2) (pe_call G_choose hr1 rfl m_choose k_choose b_choose .nil pass0 (pa_cons (pv 0) (pa_cons (pv 1) pa_nil))) (nomark _)))))
    (pss_one (ps_raise rfl m_NoCount e_NoCount (pa_cons pe_str pa_nil))) pss_nil)
    (PSs.nox <| pss_cons (ps_set (i := 3) sc_word_at.nd rfl (Or.inl rfl) (pe_tup pa_nil))
    (pss_cons (ps_set (i := 4) sc_word_at.nd rfl (Or.inl rfl) (pv 2))
    (pss_cons (ps_set (i := 5) sc_word_at.nd rfl (Or.inl rfl) pe_int)
    (pss_cons (ps_while PassesOwn.never (pt_cmpR op_lt (pe_callB (r := rLen K) len_ok rfl mz_len (by decide +kernel) (pa_cons (pv 3) pa_nil)) (pv 1) (nomark _))
    (pss_cons (ps_set (i := 6) sc_word_at.nd rfl (Or.inl rfl) (pe_call G_choose hr1 rfl m_choose k_choose b_choose .nil pass0 (pa_cons (pe_op op_sub (pe_op op_sub (pv 0) pe_int) (pv 5)) (pa_cons (pe_op op_sub (pe_op op_sub (pv 1) (pe_callB (r := rLen K) len_ok rfl mz_len (by decide +kernel) (pa_cons (pv 3) pa_nil))) pe_int) pa_nil))))
      (pss_cons (ps_if (pt_cmpR op_lt (pv 4) (pv 6) (nomark _))
      (pss_one (ps_set (i := 3) sc_word_at.nd rfl (Or.inl rfl) (pe_op (r := rCatX K) op_catX (pv 3) (pe_tup (pa_cons (pv 5) pa_nil))))) (pss_one (ps_aug (i := 4) sc_word_at.nd rfl (Or.inl rfl) (pv 6) ip_sub)))
      (pss_one (ps_aug (i := 5) sc_word_at.nd rfl (Or.inl rfl) pe_int ip_add)))))
    (pss_one (ps_ret (pv 3))))))), ?_⟩
  refine ⟨_, rfl, _, _, rfl, rfl, _, rfl, ?_⟩
  by_cases n0 : n < 0
  · rw [decide_eq_true n0]
    exact iteT (iteT ⟨(by show 1 ≤ sizeLine; decide), qE (.inl n0) _ (Same.refl _)⟩)
  rw [decide_eq_false n0]
  have n0 : 0 ≤ n := by omega
  refine iteF ⟨_, rfl, _, rfl, _, rfl, h, m, rfl, h0, by omega, m0, fun H1 s1 => ⟨_, _, rfl, rfl, _, rfl, ?_⟩⟩
  by_cases n1' : (ch h.toNat m.toNat : Int) ≤ n
  · rw [decide_eq_true n1']
    exact iteT ⟨(by show 1 ≤ sizeLine; decide), qE (.inr n1') _ s1⟩
  rw [decide_eq_false n1']
  have n1 : n < (ch h.toNat m.toNat : Int) := by omega
  have q := qQ n0 n1
  have mh : m.toNat ≤ h.toNat := Nat.le_of_not_lt fun z => by rw [ch_above z] at n1; omega
  refine iteF ⟨sz, fun p0 np0 => ?_⟩
  have s2 := s1.trans (same_new np0 (.tup []))
  have ep0 := upd_same (H := H1) (a := p0) (o := .tup [])
  generalize upd H1 p0 (.tup []) = H2 at s2 ep0
  obtain ⟨tg, etg⟩ : ∃ tg, (cw h.toNat 0 m.toNat)[n.toNat]? = some tg := by
    have : n.toNat < (cw h.toNat 0 m.toNat).length := by rw [cw_len]; omega
    exact ⟨_, List.getElem?_eq_getElem this⟩
  have hm : tg.length = m.toNat := (cw_mem.mp (List.mem_of_getElem? etg)).1
  refine ⟨_, rfl, ?_⟩
  refine ⟨fun μ σ H3 => ∃ (p : Addr) (w r : List Int) (lf pl : Nat) (u6 : Option V), σ = [some (.int h), some (.int m), some (.int n), some (.ref p), some (.int lf), some (.int pl), u6] ∧ H3 p = some (.tup (w.map V.int)) ∧ w ++ r = tg ∧ pl ≤ h.toNat ∧ μ = h.toNat - pl ∧ (cw (h.toNat - pl) pl r.length)[lf]? = some r ∧ Same H H3,
    ⟨_, p0, [], tg, n.toNat, 0, none, by rw [Int.toNat_of_nonneg n0]; rfl, ep0, rfl, Nat.zero_le _, rfl, by rw [hm]; exact etg, s2⟩, ?_⟩
  rintro μ σ H3 ⟨p, w, r, lf, pl, u6, rfl, ep, ew, pl0, rfl, er, sm⟩
  have lw : w.length + r.length = m.toNat := by rw [← hm, ← ew, List.length_append]
  refine ⟨_, rfl, p, _, rfl, .inr (SqT.of ep), _, rfl, _, _, rfl, rfl, _, rfl, ?_⟩
  rw [List.length_map]
  match r, lw, er, ew with
  | [], lw, er, ew =>
    rw [decide_eq_false (by simp at lw; omega)]
    refine iteF ⟨_, rfl, ?_⟩
    rw [List.append_nil] at ew
    subst ew
    exact q p w H3 ep etg sm
  | x :: r, lw, er, ew =>
    rw [List.length_cons] at lw er
    rw [decide_eq_true (by omega : (w.length : Int) < m)]
    obtain ⟨d, hd⟩ : ∃ d, h.toNat - pl = d + 1 := by
      cases hd : h.toNat - pl with
      | zero => rw [hd] at er; cases er
      | succ d => exact ⟨d, rfl⟩
    rw [hd, cw_succ] at er
    refine iteT ⟨fun σ' H' => ∃ m', m' < h.toNat - pl ∧ _, fun σ' H' z => z, ?_⟩
    refine ⟨_, rfl, _, _, rfl, rfl, _, rfl, _, _, rfl, rfl, _, rfl, _, rfl, p, _, rfl, .inr (SqT.of ep), _, _, rfl, rfl, _, _, rfl, rfl, h - 1 - pl, m - (w.map V.int).length - 1, rfl, by omega, by omega, by rw [List.length_map]; omega, fun H4 s4 => ?_⟩
    have e1 : (h - 1 - (pl : Int)).toNat = d := by omega
    have e2 : (m - ((w.map V.int).length : Int) - 1).toNat = r.length := by rw [List.length_map]; omega
    rw [e1, e2]
    have sm4 := sm.trans s4
    have ep4 := s4 _ _ ep
    refine ⟨_, rfl, _, rfl, _, _, rfl, rfl, _, rfl, ite2 (fun hl => ?_) (fun hl => ?_)⟩
    · have hl' : lf < ch d r.length := by have := of_decide_eq_true hl; omega
      rw [List.getElem?_append_left (by rw [List.length_map, cw_len]; exact hl'), List.getElem?_map] at er
      cases hv : (cw d ((pl : Int) + 1) r.length)[lf]? with
      | none => rw [hv] at er; cases er
      | some v =>
        rw [hv] at er
        have er' : (pl : Int) :: v = x :: r := Option.some.inj er
        injection er' with ex evr
        subst ex evr
        have fin : ∀ (p' : Addr) (H5 : Hp), H5 p' = some (.tup ((w ++ [(pl : Int)]).map V.int)) → Same H H5 → ∃ m', m' < h.toNat - pl ∧ ∃ (p : Addr) (w' r' : List Int) (lf' pl' : Nat) (u6 : Option V), [some (V.int h), some (.int m), some (.int n), some (.ref p'), some (.int lf), some (.int ((pl : Int) + 1)), some (.int (ch d v.length))] = [some (.int h), some (.int m), some (.int n), some (.ref p), some (.int lf'), some (.int pl'), u6] ∧ H5 p = some (.tup (w'.map V.int)) ∧ w' ++ r' = tg ∧ pl' ≤ h.toNat ∧ m' = h.toNat - pl' ∧ (cw (h.toNat - pl') pl' r'.length)[lf']? = some r' ∧ Same H H5 := fun p' H5 e5 s5 =>
          ⟨_, (by omega : h.toNat - (pl + 1) < h.toNat - pl), p', w ++ [(pl : Int)], v, lf, pl + 1, some (.int (ch d v.length)), (by rw [show ((pl + 1 : Nat) : Int) = (pl : Int) + 1 by omega]), e5, by rw [← ew, List.append_assoc]; rfl, by omega, rfl, by rw [show h.toNat - (pl + 1) = d by omega, show ((pl + 1 : Nat) : Int) = (pl : Int) + 1 by omega]; exact hv, s5⟩
        refine ⟨_, rfl, _, rfl, sz, fun p5 np5 => ?_⟩
        have s5 := same_new np5 (.tup [V.int (pl : Int)])
        refine ⟨p, p5, _, _, rfl, rfl, SqT.of (s5 _ _ ep4), SqT.of upd_same, (by rw [List.length_map]; exact sz2 (by rw [List.length_singleton]; omega)), fun hw => ?_, fun z => (nomatch z), fun p6 np6 => ?_⟩
        · have hw' : w = [] := by simpa using hw
          subst hw'
          exact ⟨_, rfl, _, _, rfl, rfl, fin p5 _ upd_same (sm4.trans s5)⟩
        · refine ⟨_, rfl, _, _, rfl, rfl, fin p6 _ (by rw [upd_same, List.map_append]; rfl) ((sm4.trans s5).trans (same_new np6 _))⟩
    · have hl' : ch d r.length ≤ lf := by
        have : ¬ (lf : Int) < (ch d r.length : Int) := fun z => hl (decide_eq_true z)
        omega
      rw [List.getElem?_append_right (by rw [List.length_map, cw_len]; exact hl'), List.length_map, cw_len] at er
      refine ⟨_, rfl, _, rfl, _, _, rfl, rfl, _, rfl, _, _, rfl, rfl, ?_⟩
      refine ⟨_, (by omega : h.toNat - (pl + 1) < h.toNat - pl), p, w, x :: r, lf - ch d r.length, pl + 1, some (.int (ch d r.length)), ?_, ep4, ew, by omega, rfl, by rw [show h.toNat - (pl + 1) = d by omega, show ((pl + 1 : Nat) : Int) = (pl : Int) + 1 by omega, List.length_cons]; exact er, sm4⟩
      have e3 : ((lf - ch d r.length : Nat) : Int) = (lf : Int) - (ch d r.length : Int) := by omega
      have e4 : ((pl + 1 : Nat) : Int) = (pl : Int) + 1 := by omega
      rw [e3, e4]
      rfl
end
section
variable {P : Program} {w : World} {K : PySem.W.Frag} {mg : Str → Option Value} {base : Heap}
theorem sc_number_of : FnScope ["holes", "word", "many", "behind", "at", "place"] ["holes", "word"] (defScope s_number_of) := ⟨rfl, rfl, rfl, by decide +kernel, rfl, by decide +kernel, by decide +kernel⟩
theorem ok_number_of {f f_choose : Addr} {fd d_choose : FuncData} (F : Fun K "number_of" "number_of" s_number_of f fd)
    (G_choose : FnOk P w K mg base CX0 1 f_choose d_choose ["n", "k"] (spChoose)) (b_choose : Binds K d_choose ["n", "k"] []) (k_choose : PySem.W.keepIn K (.ref f_choose) = true) (m_choose : mg "choose" = some (.ref f_choose))
    (mz_enumerate : mg "enumerate" = none) (mz_len : mg "len" = none) :
    FnOk P w K mg base CX0 2 f fd ["holes", "word"] (spNum K) := by
  refine F.ok sc_number_of (fun vs H Q E h => ?_) (fun cdv A outer s H vs Q E hr h => ?_)
  · obtain ⟨h, a, w, i, rfl, _⟩ := h
    rfl
  obtain ⟨h, a, w, i, rfl, h0, h1, hA, l60, hi, q⟩ := h
  have hr1 : Room 1 _ := hr.mono (by decide)
  have hu := hu_of hr
  have hu64 := hr.units
  refine ⟨_, pss_cons (ps_set (i := 2) sc_number_of.nd rfl (Or.inl rfl) (pe_callB (r := rLen K) len_ok rfl mz_len (by decide +kernel) (pa_cons (pv 1) pa_nil)))
    (pss_cons (ps_set (i := 3) sc_number_of.nd rfl (Or.inl rfl) pe_int)
    (pss_cons (ps_for PassesOwn.never rfl (pi_enumT rfl mz_enumerate (pa_cons (pv 1) pa_nil)) (pg_tup rfl (pgs_cons (pg_name (i := 4) sc_number_of.nd rfl (Or.inl rfl)) (pgs_cons (pg_name (i := 5) sc_number_of.nd rfl (Or.inl rfl)) pgs_nil)))
    (pss_one (ps_aug (i := 3) sc_number_of.nd rfl (Or.inl rfl) (pe_call G_choose hr1 rfl m_choose k_choose b_choose .nil pass0 (pa_cons (pe_op op_sub (pe_op op_sub (pv 0) pe_int) (pv 5)) (pa_cons (pe_op op_sub (pv 2) (pv 4)) pa_nil))) ip_add)))
    (pss_one (ps_ret (pe_op op_sub (pe_op op_sub (pe_call G_choose hr1 rfl m_choose k_choose b_choose .nil pass0 (pa_cons (pv 0) (pa_cons (pv 2) pa_nil))) pe_int) (pv 3)))))), ?_⟩
  have hr0 := cw_rank hi
  have hm0 := cw_mem.mp (List.mem_of_getElem? hi)
  rw [show (0 : Int) + ((h.toNat : Nat) : Int) = h by omega] at hr0
  refine ⟨_, rfl, a, _, rfl, .inr hA, ?_⟩
  rw [List.length_map]
  refine ⟨_, rfl, a, rfl, ⟨_, hA⟩, for_enumT (K := K) (a := a) (xs := w.map V.int) (fun j σ H2 => ∃ (S : Nat) (u4 u5 : Option V), σ = [some (.int h), some (.ref a), some (.int (w.length : Int)), some (.int S), u4, u5] ∧ S + behind h (w.length - j) (w.drop j) = behind h w.length w ∧ Same H H2)
    ⟨0, none, none, rfl, by rw [List.drop_zero, Nat.sub_zero, Nat.zero_add], Same.refl _⟩ (fun j σ H2 _ ⟨_, _, _, _, _, sm⟩ => Same.tup sm hA) ?_ ?_⟩
  · rintro j x σ H2 t hx nt ⟨S, u4, u5, rfl, es, sm⟩
    rw [List.getElem?_map] at hx
    cases hv : w[j]? with
    | none => rw [hv] at hx; cases hx
    | some y =>
      rw [hv] at hx
      have ex : V.int y = x := Option.some.inj hx
      subst ex
      have jl := (List.getElem?_eq_some_iff.mp hv).1
      have by_ := hm0.2.2 y (List.mem_of_getElem? hv)
      have sm1 := sm.trans (same_new nt (.tup [.int j, .int y]))
      refine ⟨t, _, rfl, SqT.of upd_same, rfl, _, _, rfl, _, _, rfl, rfl, ?_⟩
      generalize upd H2 t (.tup [.int j, .int y]) = H3 at sm1
      rw [drop_more hv] at es
      refine ⟨_, rfl, _, rfl, _, _, rfl, rfl, _, rfl, _, _, rfl, rfl, _, rfl, _, rfl, _, _, rfl, rfl, h - 1 - y, (w.length : Int) - j, rfl, by omega, by omega, by omega, fun H4 s4 => ⟨_, _, rfl, rfl, ?_⟩⟩
      refine ⟨S + ch (h - 1 - y).toNat ((w.length : Int) - j).toNat, some (.int j), some (.int y), (by
        show [some (V.int h), some (V.ref a), some (V.int (w.length : Int)), some (V.int ((S : Int) + (ch (h - 1 - y).toNat ((w.length : Int) - j).toNat : Int))), some (V.int (j : Int)), some (V.int y)] = _
        rw [Int.natCast_add]), ?_, sm1.trans s4⟩
      have e1 : ((w.length : Int) - (j : Int)).toNat = w.length - j := by omega
      have e2 : behind h (w.length - j) (y :: w.drop (j + 1)) = ch (h - 1 - y).toNat (w.length - j) + behind h (w.length - j - 1) (w.drop (j + 1)) := rfl
      rw [e2] at es
      rw [e1, show w.length - (j + 1) = w.length - j - 1 by omega]
      omega
  · rintro σ H2 ⟨S, u4, u5, rfl, es, sm⟩
    rw [List.length_map, Nat.sub_self, List.drop_length] at es
    have e0 : behind h 0 [] = 0 := rfl
    rw [e0, Nat.add_zero] at es
    refine ⟨_, rfl, _, rfl, h, (w.length : Int), rfl, h0, by omega, by omega, fun H3 s3 => ⟨_, _, rfl, rfl, _, rfl, _, _, rfl, rfl, ?_⟩⟩
    have := q H3 (sm.trans s3)
    rw [Int.toNat_natCast]
    have e : (ch h.toNat w.length : Int) - 1 - (S : Int) = (i : Int) := by omega
    show Q (.int ((ch h.toNat w.length : Int) - 1 - (S : Int))) H3
    rw [e]
    exact this
end
end K13
namespace K13
open PySem L2 Nd
def pas (n : Nat) : List Int := (List.range (n + 1)).map fun k => (ch n k : Int)
theorem pas_len (n : Nat) : (pas n).length = n + 1 := by unfold pas; rw [List.length_map, List.length_range]
theorem pas_at {n k : Nat} (h : k ≤ n) : (pas n)[k]? = some (ch n k : Int) := by
  unfold pas
  rw [List.getElem?_map, List.getElem?_range (by omega)]
  rfl
theorem pas_more (n : Nat) : [1] ++ ((List.range n).map fun j => ((ch n j : Int) + (ch n (j + 1) : Int))) ++ [1] = pas (n + 1) := by
  unfold pas
  rw [List.range_succ_eq_map, List.map_cons, List.map_map, List.range_succ, List.map_append, ch_zero]
  have e : (List.range n).map ((fun k => (ch (n + 1) k : Int)) ∘ Nat.succ) = (List.range n).map fun j => ((ch n j : Int) + (ch n (j + 1) : Int)) := by
    refine List.map_congr_left fun j _ => ?_
    show ((ch (n + 1) (j + 1) : Nat) : Int) = _
    rw [ch_succ]
    omega
  rw [e]
  show _ = (1 : Int) :: (_ ++ [((ch (n + 1) (n + 1) : Nat) : Int)])
  rw [ch_self]
  rfl
def Rows (K : PySem.W.Frag) (H : Hp) (rw : Addr) (n : Nat) : Prop := ∃ as : List Addr, SqL K H rw (as.map V.ref) ∧ as.length = n ∧ ∀ (k : Nat) (a : Addr), as[k]? = some a → H a = some (.lst ((pas k).map V.int))
theorem Rows.same {K : PySem.W.Frag} {H H' : Hp} {rw : Addr} {n : Nat} (h : Rows K H rw n) (s : Same H H') : Rows K H' rw n := let ⟨as, a, b, c⟩ := h; ⟨as, Same.seq s a, b, fun k x e => s _ _ (c k x e)⟩
def spRows (K : PySem.W.Frag) : Sp := fun vs H Q _ => ∃ z : Int, vs = [] ∧ ∀ (p : Addr) (H' : Hp), H p = none → Rows K H' p 61 → Same H H' → Q (.ref p) H'
def addJ (n : Nat) : V → V
  | .int j => .int ((ch n j.toNat : Int) + (ch n (j.toNat + 1) : Int))
  | x => x
theorem addJ_map (n : Nat) : (((List.range n).map fun i : Nat => V.int (0 + i)).filter fun _ => true).map (addJ n) = ((List.range n).map fun j => ((ch n j : Int) + (ch n (j + 1) : Int))).map V.int := by
  rw [List.filter_eq_self.mpr (fun _ _ => rfl), List.map_map, List.map_map]
  refine List.map_congr_left fun j _ => ?_
  show V.int ((ch n (0 + (j : Int)).toNat : Int) + (ch n ((0 + (j : Int)).toNat + 1) : Int)) = _
  rw [show (0 + (j : Int)).toNat = j by omega]
  rfl
section
variable {P : Program} {w : World} {K : PySem.W.Frag} {mg : Str → Option Value} {base : Heap}
theorem sc__law_rows : FnScope ["_law_rows_here", "_law_turn", "_law_row"] [] (defScope s__law_rows) := ⟨rfl, rfl, rfl, by decide +kernel, rfl, by decide +kernel, by decide +kernel⟩
theorem ok_lrows {f  : Addr} {fd  : FuncData} (F : Fun K "_law_rows" "_law_rows" s__law_rows f fd)
    (mz_len : mg "len" = none) (mz_range : mg "range" = none) :
    FnOk P w K mg base CX0 1 f fd [] (spRows K) := by
  refine F.ok sc__law_rows (fun vs H Q E h => ?_) (fun cdv A outer s H vs Q E hr h => ?_)
  · obtain ⟨z0, rfl, _⟩ := h
    rfl
  obtain ⟨z0, rfl, q⟩ := h
  have hu := hu_of hr
  have hu64 := hr.units
  have CS1 : ∀ {scope : Scope} (h : scope = { kind := .function, names := [(".0", .local), ("_law_j", .local), ("_law_row", .free)], isGenerator := false, isCoroutine := false }),
      CompScope (cxOf CX0 P w K mg base ["_law_rows_here", "_law_turn", "_law_row"] "_law_rows" (defScope s__law_rows) f cdv A outer s H E).nox scope [("_law_row", s.heap.objs.size + 1)] "_law_j" ["_law_row"] [2] := by
    rintro scope rfl
    refine ⟨by rfl, by decide +kernel, by rfl, by decide +kernel, by rfl, fun y c h => ?_, by rfl, by decide +kernel, rfl, fun k y j e1 e2 => ?_⟩
    · have z := lookup_mem h
      simp only [List.mem_cons, List.not_mem_nil, or_false, Prod.mk.injEq] at z
      obtain ⟨rfl, rfl⟩ := z; rfl
    · match k, e1, e2 with
      | 0, e1, e2 => cases e1; cases e2; exact ⟨rfl, rfl, .inl rfl⟩
      | k + 1, e1, e2 => cases e1
  refine ⟨_, pss_cons (ps_set (i := 0) sc__law_rows.nd rfl (Or.inl rfl) (pe_lst (pa_cons (pe_lst (pa_cons pe_int pa_nil)) pa_nil)))
    (pss_cons (ps_for PassesOwn.never rfl (pi_range1 rfl mz_range (pa_cons pe_int pa_nil)) (pg_name (i := 1) sc__law_rows.nd rfl (Or.inl rfl))
    (pss_cons (ps_set (i := 2) sc__law_rows.nd rfl (Or.inr rfl) (pe_ix (r := rIxL K) ix_list (pv 0) (pv 1) (fun _ _ => rfl)))
      (pss_one (ps_expr (pe_bm PySem.F.plainAttrs_list PySem.F.slot_list_append PySem.F.type_list_append mt_append (pv 0) (pa_cons (pe_op op_cat (pe_op op_cat (pe_lst (pa_cons pe_int pa_nil)) (pe_comp (CS1 rfl) rfl (pi_range1 rfl mz_range (pa_cons (pe_op op_sub (pe_callB (r := rLen K) len_ok rfl mz_len (by decide +kernel) (pa_cons (pv 2) pa_nil)) pe_int) pa_nil)) (fun _ _ _ => pts_none) (fun _ _ _ => pe_op op_add (pe_ix (r := rIxL K) ix_list (pv 1) (pv 0) (fun _ _ => rfl)) (pe_ix (r := rIxL K) ix_list (pv 1) (pe_op op_add (pv 0) pe_int) (fun _ _ => rfl))))) (pe_lst (pa_cons pe_int pa_nil))) pa_nil))))))
    (pss_one (ps_ret (pv 0)))), ?_⟩
  refine ⟨sz, fun p0 np0 => ⟨sz, fun p1 np1 => ?_⟩⟩
  have s0 := same_new np0 (.lst [V.int 1])
  have s1 := same_new np1 (.lst [V.ref p0])
  have np1H := s0.free np1
  have ep0 := s1 _ _ (upd_same (H := H) (a := p0) (o := .lst [V.int 1]))
  have ep1 := upd_same (H := upd H p0 (.lst [V.int 1])) (a := p1) (o := .lst [V.ref p0])
  have ne01 : p0 ≠ p1 := fun z => by rw [← z, upd_same] at np1; cases np1
  have sA := s0.trans s1
  generalize upd (upd H p0 (.lst [V.int 1])) p1 (.lst [V.ref p0]) = H1 at ep0 ep1 sA
  refine ⟨60, rfl, by decide, by decide, for_range (lo := 0) (n := 60) (fun i σ H2 => ∃ (as : List Addr) (u1 u2 : Option V), σ = [some (.ref p1), u1, u2] ∧ H2 p1 = some (.lst (as.map V.ref)) ∧ as.length = i + 1 ∧ (∀ (k : Nat) (a : Addr), as[k]? = some a → a ≠ p1 ∧ H2 a = some (.lst ((pas k).map V.int))) ∧ Same H H2)
    ⟨[p0], none, none, rfl, ep1, rfl, fun k a e => ?_, sA⟩ ?_ ?_⟩
  · match k, e with
    | 0, e => cases e; exact ⟨ne01, ep0⟩
    | k + 1, e => cases e
  · rintro i σ H2 hi ⟨as, u1, u2, rfl, e1, la, ha, sm⟩
    obtain ⟨a, ea⟩ : ∃ a, as[i]? = some a := ⟨as[i]'(by omega), List.getElem?_eq_getElem (by omega)⟩
    obtain ⟨nea, eha⟩ := ha i a ea
    have at1 : atI (as.map V.ref) (0 + (i : Int)) = some (.ref a) := by
      rw [Int.zero_add]
      exact atI_nat (by rw [List.getElem?_map, ea]; rfl)
    refine ⟨_, rfl, _, rfl, p1, _, _, _, rfl, rfl, SqL.of e1, at1, ?_⟩
    have eha2 : H2 a = some (.lst ((pas i).map V.int)) := eha
    refine ⟨_, rfl, .inl ⟨rfl, _, SqL.of e1⟩, sz, fun p3 np3 => ?_⟩
    have s3 := same_new np3 (.lst [V.int 1])
    have elen : ((((pas i).map V.int).length : Nat) : Int) - 1 = (i : Int) := by rw [List.length_map, pas_len]; omega
    refine ⟨_, rfl, a, _, rfl, .inl (SqL.of (s3 _ _ eha2)), _, _, rfl, rfl, ((i : Int)), congrArg (fun z => [V.int z]) elen, by omega, by omega, ?_⟩
    rw [Int.toNat_natCast]
    refine comp_pure (walked_range (lo := 0) (n := i)) (by rw [List.length_map, List.length_range]; exact sz (by omega)) (fun _ => true) (addJ i) (fun _ _ => trivial) (fun x hx H' s' Q' k => k H' (Same.refl _)) ?_ ?_
    · intro x hx _ H' s' Q' k
      obtain ⟨j, hj, rfl⟩ := List.mem_map.mp hx
      have jl := List.mem_range.mp hj
      have h1 : atI ((pas i).map V.int) (0 + (j : Int)) = some (.int (ch i j : Int)) := by
        rw [Int.zero_add]
        exact atI_nat (by rw [List.getElem?_map, pas_at (by omega)]; rfl)
      have h2 : atI ((pas i).map V.int) (0 + (j : Int) + 1) = some (.int (ch i (j + 1) : Int)) := by
        rw [Int.zero_add, show ((j : Int) + 1) = ((j + 1 : Nat) : Int) by omega]
        exact atI_nat (by rw [List.getElem?_map, pas_at (by omega)]; rfl)
      refine ⟨_, rfl, _, rfl, a, _, _, _, rfl, rfl, SqL.of (s' _ _ (s3 _ _ eha2)), h1, _, rfl, _, rfl, _, _, rfl, rfl, a, _, _, _, rfl, rfl, SqL.of (s' _ _ (s3 _ _ eha2)), h2, _, _, rfl, rfl, ?_⟩
      have := k H' (Same.refl _)
      simp only [addJ] at this
      rw [show (0 + (j : Int)).toNat = j by omega] at this
      exact this
    · intro D H4 nD eD s4
      rw [addJ_map] at eD
      have ep3 := s4 _ _ (upd_same (H := H2) (a := p3) (o := .lst [V.int 1]))
      refine ⟨p3, D, _, _, rfl, rfl, ep3, eD, (by rw [List.length_map, List.length_map, List.length_range]; exact sz (by simp; omega)), fun p5 np5 => ?_⟩
      have s5 := same_new np5 (.lst ([V.int 1] ++ ((List.range i).map fun j => ((ch i j : Int) + (ch i (j + 1) : Int))).map V.int))
      refine ⟨sz, fun p6 np6 => ?_⟩
      have s6 := same_new np6 (.lst [V.int 1])
      refine ⟨p5, p6, _, _, rfl, rfl, s6 _ _ upd_same, upd_same, (by rw [List.length_append, List.length_map, List.length_map, List.length_range]; exact sz (by simp; omega)), fun p7 np7 => ?_⟩
      have en : [V.int 1] ++ ((List.range i).map fun j => ((ch i j : Int) + (ch i (j + 1) : Int))).map V.int ++ [V.int 1] = (pas (i + 1)).map V.int := by
        rw [← pas_more]
        simp
      rw [en]
      have s7 := same_new np7 (.lst ((pas (i + 1)).map V.int))
      have sB := ((s3.trans s4).trans (s5.trans s6)).trans s7
      have e17 := sB _ _ e1
      have ep7 := upd_same (H := upd (upd H4 p5 (.lst ([V.int 1] ++ ((List.range i).map fun j => ((ch i j : Int) + (ch i (j + 1) : Int))).map V.int))) p6 (.lst [V.int 1])) (a := p7) (o := .lst ((pas (i + 1)).map V.int))
      have n71 : p7 ≠ p1 := fun z => by
        have := ((s3.trans s4).trans (s5.trans s6)) _ _ e1
        rw [← z, np7] at this
        cases this
      generalize upd (upd (upd H4 p5 (.lst ([V.int 1] ++ ((List.range i).map fun j => ((ch i j : Int) + (ch i (j + 1) : Int))).map V.int))) p6 (.lst [V.int 1])) p7 (.lst ((pas (i + 1)).map V.int)) = H7 at sB e17 ep7
      refine ⟨p1, _, _, rfl, rfl, e17, by rw [List.length_map]; exact small1000 (by omega), ?_⟩
      refine ⟨as ++ [p7], _, _, rfl, by rw [upd_same, List.map_append]; rfl, by rw [List.length_append, List.length_singleton]; omega, fun k b eb => ?_, same_upd np1H (sm.trans sB)⟩
      by_cases hk : k < as.length
      · rw [List.getElem?_append_left hk] at eb
        obtain ⟨x1, x2⟩ := ha k b eb
        exact ⟨x1, by rw [upd_ne x1]; exact sB _ _ x2⟩
      · rw [List.getElem?_append_right (by omega)] at eb
        have hk2 : k = i + 1 := by
          have := (List.getElem?_eq_some_iff.mp eb).1
          simp at this
          omega
        subst hk2
        rw [la, Nat.sub_self] at eb
        cases eb
        exact ⟨n71, by rw [upd_ne n71]; exact ep7⟩
  · rintro σ H2 ⟨as, u1, u2, rfl, e1, la, ha, sm⟩
    exact ⟨_, rfl, q p1 H2 np1H ⟨as, SqL.of e1, la, fun k a e => (ha k a e).2⟩ sm⟩
end
def spLCh (K : PySem.W.Frag) : Sp := fun vs H Q _ => ∃ (rw : Addr) (n k : Int), vs = [.ref rw, .int n, .int k] ∧ Rows K H rw 61 ∧ 0 ≤ n ∧ n ≤ 60 ∧ 0 ≤ k ∧ ∀ H', Same H H' → Q (.int (ch n.toNat k.toNat)) H'
section
variable {P : Program} {w : World} {K : PySem.W.Frag} {mg : Str → Option Value} {base : Heap}
theorem sc__law_choose : FnScope ["_law_rows_here", "_law_n", "_law_k"] ["_law_rows_here", "_law_n", "_law_k"] (defScope s__law_choose) := ⟨rfl, rfl, rfl, by decide +kernel, rfl, by decide +kernel, by decide +kernel⟩
theorem ok_lchoose {f  : Addr} {fd  : FuncData} (F : Fun K "_law_choose" "_law_choose" s__law_choose f fd)
    (mz_min : mg "min" = none) :
    FnOk P w K mg base CX0 1 f fd ["_law_rows_here", "_law_n", "_law_k"] (spLCh K) := by
  refine F.ok sc__law_choose (fun vs H Q E h => ?_) (fun cdv A outer s H vs Q E hr h => ?_)
  · obtain ⟨rw, n, k, rfl, _⟩ := h
    rfl
  obtain ⟨rw, n, k, rfl, ⟨as, hR, la, ha⟩, n0, n1, k0, q⟩ := h
  have hu := hu_of hr
  have hu64 := hr.units
  refine ⟨_, pss_one (ps_ret (pe_ix (r := rIxL K) ix_list (pe_op op_cat (pe_ix (r := rIxL K) ix_list (pv 0) (pv 1) (fun _ _ => rfl)) (pe_lst (pa_cons pe_int pa_nil))) (pe_callB (call_min2 rfl) rfl mz_min (by decide +kernel) (pa_cons (pv 2) (pa_cons (pe_op op_add (pv 1) pe_int) pa_nil))) (fun _ _ => rfl))), ?_⟩
  obtain ⟨a, ea⟩ : ∃ a, as[n.toNat]? = some a := ⟨as[n.toNat]'(by omega), List.getElem?_eq_getElem (by omega)⟩
  have eha := ha n.toNat a ea
  have at1 : atI (as.map V.ref) n = some (.ref a) := by
    rw [show n = ((n.toNat : Nat) : Int) by omega]
    exact atI_nat (by rw [List.getElem?_map, ea]; rfl)
  refine ⟨_, rfl, _, rfl, rw, _, _, _, rfl, rfl, hR, at1, sz, fun p1 np1 => ?_⟩
  have s1 := same_new np1 (.lst [V.int 0])
  refine ⟨a, p1, _, _, rfl, rfl, s1 _ _ eha, upd_same, (by rw [List.length_map, pas_len]; exact sz (by simp; omega)), fun p2 np2 => ?_⟩
  have s2 := same_new np2 (.lst ((pas n.toNat).map V.int ++ [V.int 0]))
  refine ⟨_, rfl, _, rfl, _, _, rfl, rfl, _, _, rfl, ?_⟩
  have at2 : atI ((pas n.toNat).map V.int ++ [V.int 0]) (if n + 1 < k then n + 1 else k) = some (.int (ch n.toNat k.toNat : Int)) := by
    have hl : ((pas n.toNat).map V.int).length = n.toNat + 1 := by rw [List.length_map, pas_len]
    by_cases hk : k ≤ n
    · rw [if_neg (by omega), show k = ((k.toNat : Nat) : Int) by omega]
      refine atI_nat ?_
      rw [List.getElem?_append_left (by rw [hl]; omega), List.getElem?_map, Int.toNat_natCast, pas_at (by omega)]
      rfl
    · have e : (if n + 1 < k then n + 1 else k) = ((n.toNat + 1 : Nat) : Int) := by split <;> omega
      rw [e, ch_above (by omega)]
      refine atI_nat ?_
      rw [List.getElem?_append_right (by rw [hl]; exact Nat.le_refl _), hl, Nat.sub_self]
      rfl
  exact ⟨p2, _, _, _, rfl, rfl, SqL.of upd_same, at2, q _ (s1.trans s2)⟩
end
end K13
namespace K13
open PySem L2 Nd
def aheadS (top : Int) (p : Int) (m : Nat) (n : Nat) : Nat := ((List.range n).map fun k : Nat => ch (top - (p + k) - 1).toNat m).sum
def aheadN (top : Int) : Int → List Int → Nat
  | _, [] => 0
  | p, x :: w => aheadS top p w.length (x - p).toNat + aheadN top (x + 1) w
theorem aheadS_more (top p : Int) (m n : Nat) : aheadS top p m (n + 1) = aheadS top p m n + ch (top - (p + n) - 1).toNat m := by
  unfold aheadS
  rw [List.range_succ, List.map_append, List.sum_append]
  simp
theorem aheadS_shift (top p : Int) (m : Nat) : ∀ n : Nat, aheadS top p m (n + 1) = ch (top - p - 1).toNat m + aheadS top (p + 1) m n
  | 0 => by
    rw [aheadS_more]
    show 0 + ch (top - (p + ((0 : Nat) : Int)) - 1).toNat m = _ + 0
    rw [Nat.zero_add, Nat.add_zero, show top - (p + ((0 : Nat) : Int)) - 1 = top - p - 1 by omega]
  | n + 1 => by
    rw [aheadS_more, aheadS_shift top p m n, aheadS_more, Nat.add_assoc, show top - (p + ((n + 1 : Nat) : Int)) - 1 = top - (p + 1 + (n : Int)) - 1 by omega]
theorem cw_ahead : ∀ {d : Nat} {p : Int} {m : Nat} {w : List Int}, w ∈ cw d p m → (cw d p m)[aheadN (p + d) p w]? = some w
  | d, p, 0, w, h => by
    rw [cw_zero, List.mem_singleton] at h
    subst h
    rw [cw_zero]
    rfl
  | 0, p, m + 1, w, h => by cases h
  | d + 1, p, m + 1, w, h => by
    have et : p + 1 + (d : Int) = p + ((d + 1 : Nat) : Int) := by omega
    rw [cw_succ] at h ⊢
    rcases List.mem_append.mp h with h | h
    · obtain ⟨v, hv, rfl⟩ := List.mem_map.mp h
      have ih := cw_ahead hv
      have e : aheadN (p + ((d + 1 : Nat) : Int)) p (p :: v) = aheadN (p + 1 + d) (p + 1) v := by
        rw [et]
        show aheadS _ p v.length (p - p).toNat + _ = _
        rw [show (p - p).toNat = 0 by omega]
        exact Nat.zero_add _
      have hl := (List.getElem?_eq_some_iff.mp ih).1
      rw [e, List.getElem?_append_left (by rw [List.length_map]; exact hl), List.getElem?_map, ih]
      rfl
    · have ih := cw_ahead h
      obtain ⟨h1, h2⟩ := cw_mem.mp h
      match w, h1, h2, ih with
      | x :: v, h1, h2, ih =>
        have bx := h2.2 x List.mem_cons_self
        have lv : v.length = m := by simpa using h1
        have e : aheadN (p + ((d + 1 : Nat) : Int)) p (x :: v) = ch d m + aheadN (p + 1 + d) (p + 1) (x :: v) := by
          rw [et]
          show aheadS _ p v.length (x - p).toNat + _ = _ + (aheadS _ (p + 1) v.length (x - (p + 1)).toNat + _)
          rw [show (x - p).toNat = (x - (p + 1)).toNat + 1 by omega, aheadS_shift, lv, show (p + ((d + 1 : Nat) : Int) - p - 1).toNat = d by omega, Nat.add_assoc]
        rw [e, List.getElem?_append_right (by rw [List.length_map, cw_len]; omega), List.length_map, cw_len, Nat.add_sub_cancel_left]
        exact ih
def succW (top : Int) : List Int → Option (List Int)
  | [] => none
  | x :: w => match succW top w with
    | some v => some (x :: v)
    | none => if x < top - 1 - w.length then some ((List.range (w.length + 1)).map fun n : Nat => x + 1 + n) else none
theorem succ_some {top x : Int} {w v : List Int} (h : succW top w = some v) : succW top (x :: w) = some (x :: v) := by
  simp only [succW, h]
theorem succ_yes {top x : Int} {w : List Int} (h : succW top w = none) (hc : x < top - 1 - w.length) : succW top (x :: w) = some ((List.range (w.length + 1)).map fun n : Nat => x + 1 + n) := by
  simp only [succW, h, if_pos hc]
theorem succ_nope {top x : Int} {w : List Int} (h : succW top w = none) (hc : ¬ x < top - 1 - w.length) : succW top (x :: w) = none := by
  simp only [succW, h, if_neg hc]
theorem cw_first : ∀ {d : Nat} {p : Int} {k : Nat}, k ≤ d → (cw d p k)[0]? = some ((List.range k).map fun n : Nat => p + n)
  | d, p, 0, _ => by rw [cw_zero]; rfl
  | 0, p, k + 1, h => absurd h (Nat.not_succ_le_zero _)
  | d + 1, p, k + 1, h => by
    have ih := cw_first (d := d) (p := p + 1) (k := k) (by omega)
    have hl := (List.getElem?_eq_some_iff.mp ih).1
    rw [cw_succ, List.getElem?_append_left (by rw [List.length_map]; exact hl), List.getElem?_map, ih, List.range_succ_eq_map, List.map_cons, List.map_map]
    show some (p :: _) = some ((p + ((0 : Nat) : Int)) :: _)
    rw [show p + ((0 : Nat) : Int) = p by omega]
    congr 2
    refine List.map_congr_left fun n _ => ?_
    show p + 1 + (n : Int) = p + ((n + 1 : Nat) : Int)
    omega
def NextIs (top : Int) (d : Nat) (p : Int) (m i : Nat) (w : List Int) : Prop := match succW top w with
  | some v => (cw d p m)[i + 1]? = some v
  | none => i + 1 = ch d m
theorem cw_next : ∀ {d : Nat} {p : Int} {m i : Nat} {w : List Int}, (cw d p m)[i]? = some w → NextIs (p + d) d p m i w
  | d, p, 0, i, w, h => by
    rw [cw_zero] at h
    match i, h with
    | 0, h => cases h; show 0 + 1 = ch d 0; rw [ch_zero]
    | i + 1, h => cases h
  | 0, p, m + 1, i, w, h => by cases h
  | d + 1, p, m + 1, i, w, h => by
    have et : p + 1 + (d : Int) = p + ((d + 1 : Nat) : Int) := by omega
    rw [cw_succ] at h
    have lf : ((cw d (p + 1) m).map (p :: ·)).length = ch d m := by rw [List.length_map, cw_len]
    by_cases hi : i < ch d m
    · rw [List.getElem?_append_left (by omega), List.getElem?_map] at h
      cases hv : (cw d (p + 1) m)[i]? with
      | none => rw [hv] at h; cases h
      | some v =>
        rw [hv] at h
        cases h
        have ih := cw_next hv
        have lv : v.length = m := (cw_mem.mp (List.mem_of_getElem? hv)).1
        rw [et] at ih
        unfold NextIs at ih ⊢
        cases hs : succW (p + ((d + 1 : Nat) : Int)) v with
        | some v' =>
          rw [hs] at ih
          have ih : (cw d (p + 1) m)[i + 1]? = some v' := ih
          have hl := (List.getElem?_eq_some_iff.mp ih).1
          rw [succ_some hs]
          show (cw (d + 1) p (m + 1))[i + 1]? = some (p :: v')
          rw [cw_succ, List.getElem?_append_left (by rw [List.length_map]; exact hl), List.getElem?_map, ih]
          rfl
        | none =>
          rw [hs] at ih
          have ih : i + 1 = ch d m := ih
          by_cases hc : p < p + ((d + 1 : Nat) : Int) - 1 - v.length
          · rw [succ_yes hs hc]
            show (cw (d + 1) p (m + 1))[i + 1]? = some _
            have := cw_first (d := d) (p := p + 1) (k := m + 1) (by omega)
            rw [cw_succ, List.getElem?_append_right (by omega), lf, ih, Nat.sub_self, this, lv]
          · rw [succ_nope hs hc]
            show i + 1 = ch (d + 1) (m + 1)
            rw [ch_succ, ch_above (n := d) (k := m + 1) (by omega)]
            exact ih
    · rw [List.getElem?_append_right (by omega), lf] at h
      have ih := cw_next h
      rw [et] at ih
      unfold NextIs at ih ⊢
      cases hs : succW (p + ((d + 1 : Nat) : Int)) w with
      | some v' =>
        rw [hs] at ih
        have ih : (cw d (p + 1) (m + 1))[i - ch d m + 1]? = some v' := ih
        show (cw (d + 1) p (m + 1))[i + 1]? = some v'
        rw [cw_succ, List.getElem?_append_right (by omega), lf, show i + 1 - ch d m = i - ch d m + 1 by omega]
        exact ih
      | none =>
        rw [hs] at ih
        have ih : i - ch d m + 1 = ch d (m + 1) := ih
        show i + 1 = ch (d + 1) (m + 1)
        rw [ch_succ]
        omega
theorem succ_at {top : Int} : ∀ {n : Nat} {w : List Int} {x : Int}, w[n]? = some x → succW top (w.drop (n + 1)) = none → x < top - 1 - ((w.length - n - 1 : Nat) : Int) → succW top w = some (w.take n ++ (List.range (w.length - n)).map fun k : Nat => x + 1 + k)
  | _, [], _, h, _, _ => by simp at h
  | 0, y :: w, x, h, hn, hc => by
    cases h
    have hn : succW top w = none := hn
    rw [succ_yes hn (by simpa using hc)]
    rfl
  | n + 1, y :: w, x, h, hn, hc => by
    have ih := succ_at (top := top) (n := n) (w := w) (x := x) (by simpa using h) hn (by simpa using hc)
    rw [succ_some ih, show (y :: w).length - (n + 1) = w.length - n by rw [List.length_cons]; omega]
    rfl
theorem succ_no {top : Int} {n : Nat} {w : List Int} {x : Int} (h : w[n]? = some x) (hn : succW top (w.drop (n + 1)) = none) (hc : ¬ x < top - 1 - ((w.length - n - 1 : Nat) : Int)) : succW top (w.drop n) = none := by
  have hl := (List.getElem?_eq_some_iff.mp h).1
  rw [drop_more h]
  exact succ_nope hn (by rw [List.length_drop, show w.length - (n + 1) = w.length - n - 1 by omega]; exact hc)
end K13
namespace K13
open PySem L2 Nd
def spNumber (K : PySem.W.Frag) : Sp := fun vs H Q _ => ∃ (rw : Addr) (h : Int) (a : Addr) (w : List Int), vs = [.ref rw, .int h, .ref a] ∧ Rows K H rw 61 ∧ 0 ≤ h ∧ h ≤ 60 ∧ H a = some (.tup (w.map V.int)) ∧ RisingAt 0 h.toNat w ∧ ∀ H', Same H H' → Q (.int (aheadN h 0 w)) H'
theorem int_at' {ms : List Int} {i : Nat} {x : V} (h : (ms.map V.int)[i]? = some x) : ∃ m, x = .int m ∧ ms[i]? = some m := by
  rw [List.getElem?_map] at h
  cases e : ms[i]? with
  | none => rw [e] at h; cases h
  | some m => rw [e] at h; cases h; exact ⟨m, rfl, rfl⟩
theorem risingAt_len {m : Nat} {w : List Int} (h : RisingAt 0 m w) : w.length ≤ m := by
  have h1 : w ∈ cw m 0 w.length := cw_mem.mpr ⟨rfl, h⟩
  have h2 := List.length_pos_of_mem h1
  rw [cw_len] at h2
  by_cases h3 : w.length ≤ m
  · exact h3
  · rw [ch_above (by omega)] at h2
    exact absurd h2 (Nat.lt_irrefl _)
section
variable {P : Program} {w : World} {K : PySem.W.Frag} {mg : Str → Option Value} {base : Heap}
theorem sc__law_number : FnScope ["_law_rows_here", "_law_holes", "_law_word_here", "_law_told", "_law_last", "_law_k", "_law_place", "_law_here"] ["_law_rows_here", "_law_holes", "_law_word_here"] (defScope s__law_number) := ⟨rfl, rfl, rfl, by decide +kernel, rfl, by decide +kernel, by decide +kernel⟩
theorem ok_lnumber {f f_L_choose : Addr} {fd d_L_choose : FuncData} (F : Fun K "_law_number" "_law_number" s__law_number f fd)
    (G_L_choose : FnOk P w K mg base CX0 1 f_L_choose d_L_choose ["_law_rows_here", "_law_n", "_law_k"] (spLCh K)) (b_L_choose : Binds K d_L_choose ["_law_rows_here", "_law_n", "_law_k"] []) (k_L_choose : PySem.W.keepIn K (.ref f_L_choose) = true) (m_L_choose : mg "_law_choose" = some (.ref f_L_choose))
    (mz_enumerate : mg "enumerate" = none) (mz_len : mg "len" = none) (mz_range : mg "range" = none) :
    FnOk P w K mg base CX0 2 f fd ["_law_rows_here", "_law_holes", "_law_word_here"] (spNumber K) := by
  refine F.ok sc__law_number (fun vs H Q E h => ?_) (fun cdv A outer s H vs Q E hr h => ?_)
  · obtain ⟨rw, h, a, w, rfl, _⟩ := h
    rfl
  obtain ⟨rw, h, a, w, rfl, hR, h0, h1, hA, hw, q⟩ := h
  have hr1 : Room 1 _ := hr.mono (by decide)
  have hu := hu_of hr
  have hu64 := hr.units
  refine ⟨_, pss_cons (ps_set (i := 3) sc__law_number.nd rfl (Or.inl rfl) pe_int)
    (pss_cons (ps_set (i := 4) sc__law_number.nd rfl (Or.inl rfl) (pe_un un_neg pe_int))
    (pss_cons (ps_for PassesOwn.never rfl (pi_enumT rfl mz_enumerate (pa_cons (pv 2) pa_nil)) (pg_tup rfl (pgs_cons (pg_name (i := 5) sc__law_number.nd rfl (Or.inl rfl)) (pgs_cons (pg_name (i := 6) sc__law_number.nd rfl (Or.inl rfl)) pgs_nil)))
    (pss_cons (ps_for PassesOwn.never rfl (pi_range2 rfl mz_range (pa_cons (pe_op op_add (pv 4) pe_int) (pa_cons (pv 6) pa_nil))) (pg_name (i := 7) sc__law_number.nd rfl (Or.inl rfl))
      (pss_one (ps_set (i := 3) sc__law_number.nd rfl (Or.inl rfl) (pe_op op_add (pv 3) (pe_call G_L_choose hr1 rfl m_L_choose k_L_choose b_L_choose .nil pass0 (pa_cons (pv 0) (pa_cons (pe_op op_sub (pe_op op_sub (pv 1) (pv 7)) pe_int) (pa_cons (pe_op op_sub (pe_op op_sub (pe_callB (r := rLen K) len_ok rfl mz_len (by decide +kernel) (pa_cons (pv 2) pa_nil)) (pv 5)) pe_int) pa_nil))))))))
      (pss_one (ps_set (i := 4) sc__law_number.nd rfl (Or.inl rfl) (pv 6)))))
    (pss_one (ps_ret (pv 3))))), ?_⟩
  have lw := risingAt_len hw
  refine ⟨_, rfl, _, rfl, a, rfl, ⟨_, SqT.of hA⟩, for_enumT (K := K) (a := a) (xs := w.map V.int) (fun j σ H2 => ∃ (T : Nat) (last : Int) (u5 u6 u7 : Option V), σ = [some (.ref rw), some (.int h), some (.ref a), some (.int T), some (.int last), u5, u6, u7] ∧ -1 ≤ last ∧ (∀ x ∈ w.drop j, last < x) ∧ T + aheadN h (last + 1) (w.drop j) = aheadN h 0 w ∧ Same H H2)
    ⟨0, -1, none, none, none, rfl, by decide, (fun x hx => by have := hw.2 x (List.mem_of_mem_drop hx); omega), (by rw [List.drop_zero, Nat.zero_add]; rfl), Same.refl _⟩ (fun j σ H2 _ ⟨_, _, _, _, _, _, _, _, _, sm⟩ => SqT.of (sm _ _ hA)) ?_ ?_⟩
  · rintro j x σ H2 t hx nt ⟨T, last, u5, u6, u7, rfl, l1, l2, es, sm⟩
    obtain ⟨y, rfl, hy⟩ := int_at' hx
    have jl := (List.getElem?_eq_some_iff.mp hy).1
    have by_ := hw.2 y (List.mem_of_getElem? hy)
    have ed := drop_more hy
    rw [ed] at es l2
    have ly := l2 y List.mem_cons_self
    have lv : (w.drop (j + 1)).length = w.length - j - 1 := by rw [List.length_drop]; omega
    have sm1 := sm.trans (same_new nt (.tup [.int j, .int y]))
    refine ⟨t, _, rfl, SqT.of upd_same, rfl, _, _, rfl, _, _, rfl, rfl, ?_⟩
    generalize upd H2 t (.tup [.int j, .int y]) = H3 at sm1
    have pwd : (w.drop j).Pairwise (· < ·) := hw.1.sublist (List.drop_sublist _ _)
    rw [ed] at pwd
    refine ⟨_, rfl, _, _, rfl, rfl, _, rfl, last + 1, y, rfl, ⟨by omega, by omega, by omega, by omega⟩, for_range (lo := last + 1) (n := (y - (last + 1)).toNat) (fun i σ H4 => ∃ (u7 : Option V), σ = [some (.ref rw), some (.int h), some (.ref a), some (.int ((T + aheadS h (last + 1) (w.length - j - 1) i : Nat) : Int)), some (.int last), some (.int j), some (.int y), u7] ∧ Same H H4)
      ⟨u7, rfl, sm1⟩ ?_ ?_⟩
    · rintro i σ H4 hi ⟨u7, rfl, sm4⟩
      refine ⟨_, rfl, _, rfl, _, rfl, _, rfl, _, _, rfl, rfl, _, _, rfl, rfl, _, rfl, a, _, rfl, .inr (SqT.of (sm4 _ _ hA)), _, rfl, _, _, rfl, rfl, _, _, rfl, rfl, rw, h - (last + 1 + i) - 1, ((w.map V.int).length : Int) - j - 1, rfl, hR.same sm4, by omega, by omega, by rw [List.length_map]; omega, fun H5 s5 => ⟨_, _, rfl, rfl, ?_⟩⟩
      refine ⟨some (.int (last + 1 + i)), ?_, sm4.trans s5⟩
      have e1 : (((w.map V.int).length : Int) - (j : Int) - 1).toNat = w.length - j - 1 := by rw [List.length_map]; omega
      have e2 : ((T + aheadS h (last + 1) (w.length - j - 1) (i + 1) : Nat) : Int) = ((T + aheadS h (last + 1) (w.length - j - 1) i : Nat) : Int) + (ch (h - (last + 1 + (i : Int)) - 1).toNat (((w.map V.int).length : Int) - (j : Int) - 1).toNat : Int) := by
        rw [e1, aheadS_more]
        omega
      rw [e2]
      rfl
    · rintro σ H4 ⟨u7, rfl, sm4⟩
      refine ⟨_, rfl, T + aheadS h (last + 1) (w.length - j - 1) (y - (last + 1)).toNat, y, _, _, _, rfl, by omega, (List.pairwise_cons.mp pwd).1, ?_, sm4⟩
      have e3 : aheadN h (last + 1) (y :: w.drop (j + 1)) = aheadS h (last + 1) (w.drop (j + 1)).length (y - (last + 1)).toNat + aheadN h (y + 1) (w.drop (j + 1)) := rfl
      rw [e3, lv] at es
      omega
  · rintro σ H2 ⟨T, last, u5, u6, u7, rfl, l1, l2, es, sm⟩
    rw [List.length_map, List.drop_length] at es
    have e0 : aheadN h (last + 1) [] = 0 := rfl
    rw [e0, Nat.add_zero] at es
    refine ⟨_, rfl, ?_⟩
    rw [es]
    exact q H2 sm
end
theorem cut_head {ns : List Int} {u : Int} (h0 : 0 ≤ u) : cutV (ns.map V.int) none (some u) = (ns.take u.toNat).map V.int := by
  unfold cutV
  obtain ⟨n, rfl⟩ : ∃ n : Nat, u = n := ⟨u.toNat, by omega⟩
  rw [HT.sIx_nat, HT.sIx_none, List.drop_zero, Nat.sub_zero, List.length_map, Int.toNat_natCast, List.map_take]
  by_cases h : n ≤ ns.length
  · rw [Nat.min_eq_left h]
  · rw [Nat.min_eq_right (by omega), List.take_of_length_le (by rw [List.length_map]; exact Nat.le_refl _), List.take_of_length_le (by rw [List.length_map]; omega)]
def plusJ (f : Int) : V → V
  | .int j => .int (f + j)
  | x => x
theorem plusJ_map (f : Int) (n : Nat) : (((List.range n).map fun i : Nat => V.int (0 + i)).filter fun _ => true).map (plusJ f) = ((List.range n).map fun k : Nat => f + (k : Int)).map V.int := by
  rw [List.filter_eq_self.mpr (fun _ _ => rfl), List.map_map, List.map_map]
  refine List.map_congr_left fun j _ => ?_
  show V.int (f + (0 + (j : Int))) = V.int (f + (j : Int))
  rw [Int.zero_add]
def spNextW : Sp := fun vs H Q _ => ∃ (h : Int) (a : Addr) (w : List Int), vs = [.int h, .ref a] ∧ 0 ≤ h ∧ h ≤ 60 ∧ H a = some (.tup (w.map V.int)) ∧ w.length ≤ 60 ∧
  (∀ (p : Addr) (v : List Int) (H' : Hp), succW h w = some v → H' p = some (.tup (v.map V.int)) → Same H H' → Q (.ref p) H') ∧ (∀ H', succW h w = none → Same H H' → Q .non H')
section
variable {P : Program} {w : World} {K : PySem.W.Frag} {mg : Str → Option Value} {base : Heap}
theorem sc__law_next_word : FnScope ["_law_holes", "_law_word_here", "_law_left", "_law_k", "_law_at", "_law_first"] ["_law_holes", "_law_word_here"] (defScope s__law_next_word) := ⟨rfl, rfl, rfl, by decide +kernel, rfl, by decide +kernel, by decide +kernel⟩
theorem ok_lnext_word {f  : Addr} {fd  : FuncData} (F : Fun K "_law_next_word" "_law_next_word" s__law_next_word f fd)
    (mz_len : mg "len" = none) (mz_list : mg "list" = none) (mz_range : mg "range" = none) (mz_tuple : mg "tuple" = none) :
    FnOk P w K mg base CX0 1 f fd ["_law_holes", "_law_word_here"] (spNextW) := by
  refine F.ok sc__law_next_word (fun vs H Q E h => ?_) (fun cdv A outer s H vs Q E hr h => ?_)
  · obtain ⟨h, a, ws, rfl, _⟩ := h
    rfl
  obtain ⟨h, a, ws, rfl, h0, h1, hA, lw, qy, qn⟩ := h
  have hu := hu_of hr
  have hu64 := hr.units
  have CS1 : ∀ {scope : Scope} (h : scope = { kind := .function, names := [(".0", .local), ("_law_j", .local), ("_law_first", .free)], isGenerator := false, isCoroutine := false }),
      CompScope (cxOf CX0 P w K mg base ["_law_holes", "_law_word_here", "_law_left", "_law_k", "_law_at", "_law_first"] "_law_next_word" (defScope s__law_next_word) f cdv A outer s H E).nox scope [("_law_first", s.heap.objs.size + 1)] "_law_j" ["_law_first"] [5] := by
    rintro scope rfl
    refine ⟨by rfl, by decide +kernel, by rfl, by decide +kernel, by rfl, fun y c h => ?_, by rfl, by decide +kernel, rfl, fun k y j e1 e2 => ?_⟩
    · have z := lookup_mem h
      simp only [List.mem_cons, List.not_mem_nil, or_false, Prod.mk.injEq] at z
      obtain ⟨rfl, rfl⟩ := z; rfl
    · match k, e1, e2 with
      | 0, e1, e2 => cases e1; cases e2; exact ⟨rfl, rfl, .inl rfl⟩
      | k + 1, e1, e2 => cases e1
  refine ⟨_, pss_cons (ps_set (i := 2) sc__law_next_word.nd rfl (Or.inl rfl) (pe_callTy (r := rLstC K) list_ok rfl mz_list (by decide +kernel) (pa_cons (pv 1) pa_nil)))
    (pss_cons (ps_for PassesOwn.never rfl (pi_range1 rfl mz_range (pa_cons (pe_callB (r := rLen K) len_ok rfl mz_len (by decide +kernel) (pa_cons (pv 2) pa_nil)) pa_nil)) (pg_name (i := 3) sc__law_next_word.nd rfl (Or.inl rfl))
    (pss_cons (ps_set (i := 4) sc__law_next_word.nd rfl (Or.inl rfl) (pe_op op_sub (pe_op op_sub (pe_callB (r := rLen K) len_ok rfl mz_len (by decide +kernel) (pa_cons (pv 2) pa_nil)) pe_int) (pv 3)))
      (pss_one (ps_if (pt_cmpR op_lt (pe_ix (r := rIxL K) ix_list (pv 2) (pv 4) (fun _ _ => rfl)) (pe_op op_sub (pe_op op_sub (pv 0) pe_int) (pv 3)) (nomark _))
      (pss_cons (ps_set (i := 5) sc__law_next_word.nd rfl (Or.inr rfl) (pe_op op_add (pe_ix (r := rIxL K) ix_list (pv 2) (pv 4) (fun _ _ => rfl)) pe_int))
        (pss_one (ps_ret (pe_callTy (r := rTupC K) tuple_ok rfl mz_tuple (by decide +kernel) (pa_cons (pe_op op_cat (pe_slice (r := rSlL K) sl_list (pv 2) po_none (po_some (pv 4))) (pe_comp (CS1 rfl) rfl (pi_range1 rfl mz_range (pa_cons (pe_op op_sub (pe_callB (r := rLen K) len_ok rfl mz_len (by decide +kernel) (pa_cons (pv 2) pa_nil)) (pv 4)) pa_nil)) (fun _ _ _ => pts_none) (fun _ _ _ => pe_op op_add (pv 1) (pv 0)))) pa_nil))))) pss_nil))))
    (pss_one (ps_ret pe_non))), ?_⟩
  refine ⟨_, rfl, a, _, rfl, .inr (SqT.of hA), fun l nl => ?_⟩
  have s1 := same_new nl (.lst (ws.map V.int))
  have el := upd_same (H := H) (a := l) (o := .lst (ws.map V.int))
  generalize upd H l (.lst (ws.map V.int)) = H1 at s1 el
  refine ⟨_, rfl, l, _, rfl, .inl (SqL.of el), _, rfl, by omega, by rw [List.length_map]; omega, ?_⟩
  rw [List.length_map, Int.toNat_natCast]
  refine for_range (lo := 0) (n := ws.length) (fun i σ H2 => ∃ (u3 u4 u5 : Option V), σ = [some (.int h), some (.ref a), some (.ref l), u3, u4, u5] ∧ succW h (ws.drop (ws.length - i)) = none ∧ Same H1 H2)
    ⟨none, none, none, rfl, (by rw [Nat.sub_zero, List.drop_length]; rfl), Same.refl _⟩ ?_ ?_
  · rintro i σ H2 hi ⟨u3, u4, u5, rfl, hn, sm⟩
    have el2 := sm _ _ el
    refine ⟨_, rfl, l, _, rfl, .inl (SqL.of el2), _, _, rfl, rfl, _, rfl, _, _, rfl, rfl, ?_⟩
    obtain ⟨n, en⟩ : ∃ n, ws.length = n + i + 1 := ⟨ws.length - i - 1, by omega⟩
    have eat : ((ws.map V.int).length : Int) - 1 - (0 + (i : Int)) = (n : Int) := by rw [List.length_map]; omega
    obtain ⟨x, hx⟩ : ∃ x, ws[n]? = some x := ⟨ws[n]'(by omega), List.getElem?_eq_getElem (by omega)⟩
    have hat : atI (ws.map V.int) (n : Int) = some (.int x) := atI_nat (by rw [List.getElem?_map, hx]; rfl)
    have hat' : atI (ws.map V.int) (((ws.map V.int).length : Int) - 1 - (0 + (i : Int))) = some (.int x) := by rw [eat]; exact hat
    have hn' : succW h (ws.drop (n + 1)) = none := by rw [show n + 1 = ws.length - i by omega]; exact hn
    refine ⟨_, rfl, _, rfl, l, _, _, _, rfl, rfl, SqL.of el2, hat', _, rfl, _, _, rfl, rfl, _, rfl, _, _, rfl, rfl, _, _, rfl, rfl, _, rfl, ?_⟩
    by_cases hc : x < h - 1 - (0 + (i : Int))
    · rw [decide_eq_true hc]
      refine iteT ⟨_, rfl, _, rfl, l, _, _, _, rfl, rfl, SqL.of el2, hat', _, _, rfl, rfl, ?_⟩
      refine ⟨_, rfl, _, rfl, _, rfl, l, _, rfl, SqL.of el2, fun p3 np3 => ?_⟩
      rw [cut_head (by omega)]
      have et : (((ws.map V.int).length : Int) - 1 - (0 + (i : Int))).toNat = n := by omega
      rw [et]
      have s3 := same_new np3 (.lst ((ws.take n).map V.int))
      have ep3 := upd_same (H := H2) (a := p3) (o := .lst ((ws.take n).map V.int))
      generalize upd H2 p3 (.lst ((ws.take n).map V.int)) = H3 at s3 ep3
      refine ⟨_, rfl, l, _, rfl, .inl (SqL.of (s3 _ _ el2)), _, rfl, _, _, rfl, rfl, ((ws.map V.int).length : Int) - (((ws.map V.int).length : Int) - 1 - (0 + (i : Int))), rfl, by rw [List.length_map]; omega, by rw [List.length_map]; omega, ?_⟩
      rw [show (((ws.map V.int).length : Int) - (((ws.map V.int).length : Int) - 1 - (0 + (i : Int)))).toNat = ws.length - n by rw [List.length_map]; omega]
      refine comp_pure (walked_range (lo := 0) (n := ws.length - n)) (by rw [List.length_map, List.length_range]; exact sz (by omega)) (fun _ => true) (plusJ (x + 1)) (fun _ _ => trivial) (fun y hy H' s' Q' k => k H' (Same.refl _)) ?_ ?_
      · intro y hy _ H' s' Q' k
        obtain ⟨j, hj, rfl⟩ := List.mem_map.mp hy
        exact ⟨_, rfl, _, rfl, _, _, rfl, rfl, k H' (Same.refl _)⟩
      · intro D H4 nD eD s4
        rw [plusJ_map] at eD
        refine ⟨p3, D, _, _, rfl, rfl, s4 _ _ ep3, eD, (by rw [List.length_map, List.length_map, List.length_map, List.length_range, List.length_take]; exact sz (by omega)), fun p5 np5 => ?_⟩
        have s5 := same_new np5 (.lst ((ws.take n).map V.int ++ ((List.range (ws.length - n)).map fun k : Nat => x + 1 + (k : Int)).map V.int))
        refine ⟨p5, _, rfl, .inl ⟨SqL.of upd_same, fun p6 np6 => ?_⟩⟩
        have s6 := same_new np6 (.tup ((ws.take n).map V.int ++ ((List.range (ws.length - n)).map fun k : Nat => x + 1 + (k : Int)).map V.int))
        refine qy p6 (ws.take n ++ (List.range (ws.length - n)).map fun k : Nat => x + 1 + (k : Int)) _ (succ_at hx hn' (by rw [show ws.length - n - 1 = i by omega]; omega)) (by rw [upd_same, List.map_append]) ((s1.trans sm).trans ((s3.trans s4).trans (s5.trans s6)))
    · rw [decide_eq_false hc]
      refine iteF ⟨_, _, _, rfl, ?_, sm⟩
      rw [show ws.length - (i + 1) = n by omega]
      exact succ_no hx hn' (by rw [show ws.length - n - 1 = i by omega]; omega)
  · rintro σ H2 ⟨u3, u4, u5, rfl, hn, sm⟩
    rw [Nat.sub_self, List.drop_zero] at hn
    exact qn H2 hn (s1.trans sm)
end
end K13
namespace K13
open PySem L2 Nd
structure KX (K : PySem.W.Frag) (NE CN : Addr) (os : List Addr) : Prop where
  ek : ExcK K CN
  v : PySem.W.kitOne K (.ref CN) (.type "ValueError") = some true
  o : PySem.W.kitAny K (.ref CN) (os.map Value.ref) = some false
  c : PySem.W.kitOne K (.ref CN) (.ref CN) = some true
  n : PySem.W.subIn K (.ref CN) (.ref NE) = some true
def spRef : Sp := fun vs H Q _ => ∃ (h m n : Int), vs = [.int h, .int m, .int n] ∧ 0 ≤ h ∧ h ≤ 60 ∧ 0 ≤ m ∧ (n < 0 ∨ (ch h.toNat m.toNat : Int) ≤ n) ∧ ∀ H', Same H H' → Q (.bl true) H'
section
variable {P : Program} {w : World} {K : PySem.W.Frag} {mg : Str → Option Value} {base : Heap}
theorem sc__law_refused : FnScope ["_law_holes", "_law_many", "_law_number_here", "_law_caught", "_law_told", "e"] ["_law_holes", "_law_many", "_law_number_here"] (defScope s__law_refused) := ⟨rfl, rfl, rfl, by decide +kernel, rfl, by decide +kernel, by decide +kernel⟩
theorem ok_lrefused {f f_word_at CN NE c_NoBack c_NoHoles c_NoLine c_NoName c_NoSide c_NoText c_NoValue c_NoWord : Addr} {fd d_word_at : FuncData} (F : Fun K "_law_refused" "_law_refused" s__law_refused f fd)
    (G_word_at : FnOk P w K mg base (CXN P w) 2 f_word_at d_word_at ["holes", "many", "number"] (spAtX CN)) (b_word_at : Binds K d_word_at ["holes", "many", "number"] []) (k_word_at : PySem.W.keepIn K (.ref f_word_at) = true) (m_word_at : mg "word_at" = some (.ref f_word_at))
    (mz_ValueError : mg "ValueError" = none) (mz_isinstance : mg "isinstance" = none)
    (m_NoCount : mg "NoCount" = some (.ref CN)) (m_NeedleError : mg "NeedleError" = some (.ref NE)) (e_NeedleError : PySem.W.excIn K NE bmV "ValueError.__new__" = true) (m_NoBack : mg "NoBack" = some (.ref c_NoBack)) (m_NoHoles : mg "NoHoles" = some (.ref c_NoHoles)) (m_NoLine : mg "NoLine" = some (.ref c_NoLine)) (m_NoName : mg "NoName" = some (.ref c_NoName)) (m_NoSide : mg "NoSide" = some (.ref c_NoSide)) (m_NoText : mg "NoText" = some (.ref c_NoText)) (m_NoValue : mg "NoValue" = some (.ref c_NoValue)) (m_NoWord : mg "NoWord" = some (.ref c_NoWord)) (T : KX K NE CN [c_NoBack, c_NoHoles, c_NoLine, c_NoName, c_NoSide, c_NoText, c_NoValue, c_NoWord]) :
    FnOk P w K mg base CX0 3 f fd ["_law_holes", "_law_many", "_law_number_here"] (spRef) := by
  refine F.ok sc__law_refused (fun vs H Q E h => ?_) (fun cdv A outer s H vs Q E hr h => ?_)
  · obtain ⟨h, m, n, rfl, _⟩ := h
    rfl
  obtain ⟨h, m, n, rfl, h0, h1, m0, hn, q⟩ := h
  have hr1 : Room 1 _ := hr.mono (by decide)
  have hr2 : Room 2 _ := hr.mono (by decide)
  have hu := hu_of hr
  have hu64 := hr.units
  refine ⟨_, pss_cons (ps_set (i := 3) sc__law_refused.nd rfl (Or.inl rfl) pe_non)
    (pss_cons (ps_set (i := 4) sc__law_refused.nd rfl (Or.inl rfl) pe_non)
    (pss_cons (ps_tryA (i := 4) (k := 5) (j := 3) rfl rfl sc__law_refused.nd rfl rfl rfl rfl rfl rfl rfl m_NeedleError e_NeedleError G_word_at hr2 rfl m_word_at k_word_at b_word_at (pa_cons (pv 0) (pa_cons (pv 1) (pa_cons (pv 2) pa_nil))))
    (pss_cons (ps_if (PW.pt (pw_or (pt_cmpR op_notN (pv 4) pe_non (nomark _)) (pw_or (pt_not (pt_val (pe_callB (r := rIsx K) call_isx rfl mz_isinstance (by decide +kernel) (pa_cons (pv 3) (pa_cons (pe_glob (v := .ref CN) rfl m_NoCount rfl) pa_nil))))) (pw_or1 (pt_not (pt_val (pe_callB (r := rIsx K) call_isx rfl mz_isinstance (by decide +kernel) (pa_cons (pv 3) (pa_cons (pe_bltn (v := .ty "ValueError") rfl mz_ValueError (by decide +kernel) rfl) pa_nil)))))))))
    (pss_one (ps_ret pe_bl)) pss_nil)
    (pss_one (ps_ret (pe_not (pe_callB (r := rIsxT K) call_isxT rfl mz_isinstance (by decide +kernel) (pa_cons (pv 3) (pa_cons (pe_tup (pa_cons (pe_glob (v := .ref c_NoBack) rfl m_NoBack rfl) (pa_cons (pe_glob (v := .ref c_NoHoles) rfl m_NoHoles rfl) (pa_cons (pe_glob (v := .ref c_NoLine) rfl m_NoLine rfl) (pa_cons (pe_glob (v := .ref c_NoName) rfl m_NoName rfl) (pa_cons (pe_glob (v := .ref c_NoSide) rfl m_NoSide rfl) (pa_cons (pe_glob (v := .ref c_NoText) rfl m_NoText rfl) (pa_cons (pe_glob (v := .ref c_NoValue) rfl m_NoValue rfl) (pa_cons (pe_glob (v := .ref c_NoWord) rfl m_NoWord rfl) pa_nil))))))))) pa_nil))))))))), ?_⟩
  refine ⟨_, rfl, _, rfl, _, rfl, h, m, n, rfl, h0, h1, m0, (fun a b => by omega), fun _ H1 s1 => ⟨CN, rfl, T.n, fun y ny => ?_⟩⟩
  have s2 := same_new ny (ExO y CN)
  have ey := upd_same (H := H1) (a := y) (o := ExO y CN)
  generalize upd H1 y (ExO y CN) = H2 at s2 ey
  refine ⟨_, rfl, rfl, _, rfl, ?_⟩
  rw [show (!decide (V.non = V.non)) = false from by simp]
  refine iteF ⟨_, rfl, y, CN, .ref CN, true, rfl, ey, T.ek, rfl, T.c, _, rfl, iteF ⟨_, rfl, y, CN, .ty "ValueError", true, rfl, ey, T.ek, rfl, T.v, _, rfl, iteF ?_⟩⟩
  refine ⟨_, rfl, (by show 8 ≤ sizeLine; decide), fun p np => ?_⟩
  have s3 := same_new np (.tup [V.ref c_NoBack, V.ref c_NoHoles, V.ref c_NoLine, V.ref c_NoName, V.ref c_NoSide, V.ref c_NoText, V.ref c_NoValue, V.ref c_NoWord])
  exact ⟨y, CN, p, [c_NoBack, c_NoHoles, c_NoLine, c_NoName, c_NoSide, c_NoText, c_NoValue, c_NoWord], false, rfl, s3 _ _ ey, T.ek, SqT.of upd_same, T.o, _, rfl, q _ ((s1.trans s2).trans s3)⟩
end
def spRight (K : PySem.W.Frag) : Sp := fun vs H Q _ => ∃ (rw : Addr) (h : Int) (a : Addr) (w : List Int), vs = [.ref rw, .int h, .ref a] ∧ Rows K H rw 61 ∧ 0 ≤ h ∧ h ≤ 60 ∧ H a = some (.tup (w.map V.int)) ∧ RisingAt 0 h.toNat w ∧ ∀ H', Same H H' → Q (.bl true) H'
section
variable {P : Program} {w : World} {K : PySem.W.Frag} {mg : Str → Option Value} {base : Heap}
theorem sc__law_right : FnScope ["_law_rows_here", "_law_holes", "_law_word_here", "_law_number_here", "_law_other"] ["_law_rows_here", "_law_holes", "_law_word_here"] (defScope s__law_right) := ⟨rfl, rfl, rfl, by decide +kernel, rfl, by decide +kernel, by decide +kernel⟩
theorem ok_lright {f f_choose f_number_of f_word_at f_L_number f_L_next_word f_L_refused CN : Addr} {fd d_choose d_number_of d_word_at d_L_number d_L_next_word d_L_refused : FuncData} (F : Fun K "_law_right" "_law_right" s__law_right f fd)
    (G_choose : FnOk P w K mg base CX0 1 f_choose d_choose ["n", "k"] (spChoose)) (b_choose : Binds K d_choose ["n", "k"] []) (k_choose : PySem.W.keepIn K (.ref f_choose) = true) (m_choose : mg "choose" = some (.ref f_choose))
    (G_number_of : FnOk P w K mg base CX0 2 f_number_of d_number_of ["holes", "word"] (spNum K)) (b_number_of : Binds K d_number_of ["holes", "word"] []) (k_number_of : PySem.W.keepIn K (.ref f_number_of) = true) (m_number_of : mg "number_of" = some (.ref f_number_of))
    (G_word_at : FnOk P w K mg base (CXN P w) 2 f_word_at d_word_at ["holes", "many", "number"] (spAtX CN)) (b_word_at : Binds K d_word_at ["holes", "many", "number"] []) (k_word_at : PySem.W.keepIn K (.ref f_word_at) = true) (m_word_at : mg "word_at" = some (.ref f_word_at))
    (G_L_number : FnOk P w K mg base CX0 2 f_L_number d_L_number ["_law_rows_here", "_law_holes", "_law_word_here"] (spNumber K)) (b_L_number : Binds K d_L_number ["_law_rows_here", "_law_holes", "_law_word_here"] []) (k_L_number : PySem.W.keepIn K (.ref f_L_number) = true) (m_L_number : mg "_law_number" = some (.ref f_L_number))
    (G_L_next_word : FnOk P w K mg base CX0 1 f_L_next_word d_L_next_word ["_law_holes", "_law_word_here"] (spNextW)) (b_L_next_word : Binds K d_L_next_word ["_law_holes", "_law_word_here"] []) (k_L_next_word : PySem.W.keepIn K (.ref f_L_next_word) = true) (m_L_next_word : mg "_law_next_word" = some (.ref f_L_next_word))
    (G_L_refused : FnOk P w K mg base CX0 3 f_L_refused d_L_refused ["_law_holes", "_law_many", "_law_number_here"] (spRef)) (b_L_refused : Binds K d_L_refused ["_law_holes", "_law_many", "_law_number_here"] []) (k_L_refused : PySem.W.keepIn K (.ref f_L_refused) = true) (m_L_refused : mg "_law_refused" = some (.ref f_L_refused))
    (mz_bool : mg "bool" = none) (mz_int : mg "int" = none) (mz_isinstance : mg "isinstance" = none) (mz_len : mg "len" = none) :
    FnOk P w K mg base CX0 4 f fd ["_law_rows_here", "_law_holes", "_law_word_here"] (spRight K) := by
  refine F.ok sc__law_right (fun vs H Q E h => ?_) (fun cdv A outer s H vs Q E hr h => ?_)
  · obtain ⟨rw, h, a, w, rfl, _⟩ := h
    rfl
  obtain ⟨rw, h, a, w, rfl, hR, h0, h1, hA, hw, q⟩ := h
  have hr1 : Room 1 _ := hr.mono (by decide)
  have hr2 : Room 2 _ := hr.mono (by decide)
  have hr3 : Room 3 _ := hr.mono (by decide)
  have hu := hu_of hr
  have hu64 := hr.units
  refine ⟨_, pss_cons (ps_set (i := 3) sc__law_right.nd rfl (Or.inl rfl) (pe_call G_number_of hr2 rfl m_number_of k_number_of b_number_of .nil pass0 (pa_cons (pv 1) (pa_cons (pv 2) pa_nil))))
    (pss_cons (ps_if (PW.pt (pw_or (pt_val (pe_callB (r := rIs K) isi_ok rfl mz_isinstance (by decide +kernel) (pa_cons (pv 3) (pa_cons (pe_bltn (v := .ty "bool") rfl mz_bool (by decide +kernel) rfl) pa_nil)))) (pw_or (pt_not (pt_val (pe_callB (r := rIs K) isi_ok rfl mz_isinstance (by decide +kernel) (pa_cons (pv 3) (pa_cons (pe_bltn (v := .ty "int") rfl mz_int (by decide +kernel) rfl) pa_nil))))) (pw_or1 (pt_cmpR op_ne (pv 3) (pe_call G_L_number hr2 rfl m_L_number k_L_number b_L_number .nil pass0 (pa_cons (pv 0) (pa_cons (pv 1) (pa_cons (pv 2) pa_nil)))) (nomark _))))))
    (pss_one (ps_ret pe_bl)) pss_nil)
    (pss_cons (ps_if (pt_cmpR (r := rNeD K) (op_neD hu64) (pe_call G_word_at hr2 rfl m_word_at k_word_at b_word_at .nil passF (pa_cons (pv 1) (pa_cons (pe_callB (r := rLen K) len_ok rfl mz_len (by decide +kernel) (pa_cons (pv 2) pa_nil)) (pa_cons (pv 3) pa_nil)))) (pv 2) (nomark _))
    (pss_one (ps_ret pe_bl)) pss_nil)
    (pss_cons (ps_set (i := 4) sc__law_right.nd rfl (Or.inl rfl) (pe_call G_L_next_word hr1 rfl m_L_next_word k_L_next_word b_L_next_word .nil pass0 (pa_cons (pv 1) (pa_cons (pv 2) pa_nil))))
    (pss_cons (ps_if (pt_cmpR op_isN (pv 4) pe_non (nomark _))
    (pss_one (ps_ret (pe_and (pe_cmpR op_eq (pv 3) (pe_op op_sub (pe_call G_choose hr1 rfl m_choose k_choose b_choose .nil pass0 (pa_cons (pv 1) (pa_cons (pe_callB (r := rLen K) len_ok rfl mz_len (by decide +kernel) (pa_cons (pv 2) pa_nil)) pa_nil))) pe_int) (nomark _)) (pe_one (pe_call G_L_refused hr3 rfl m_L_refused k_L_refused b_L_refused .nil pass0 (pa_cons (pv 1) (pa_cons (pe_callB (r := rLen K) len_ok rfl mz_len (by decide +kernel) (pa_cons (pv 2) pa_nil)) (pa_cons (pe_op op_add (pv 3) pe_int) pa_nil)))))))) pss_nil)
    (pss_one (ps_ret (pe_and (pe_cmpR op_eq (pe_call G_number_of hr2 rfl m_number_of k_number_of b_number_of .nil pass0 (pa_cons (pv 1) (pa_cons (pv 4) pa_nil))) (pe_op op_add (pv 3) pe_int) (nomark _)) (pe_one (pe_cmpR (r := rEqD K) (op_eqD hu64) (pe_call G_word_at hr2 rfl m_word_at k_word_at b_word_at .nil passF (pa_cons (pv 1) (pa_cons (pe_callB (r := rLen K) len_ok rfl mz_len (by decide +kernel) (pa_cons (pv 2) pa_nil)) (pa_cons (pe_op op_add (pv 3) pe_int) pa_nil)))) (pv 4) (nomark _)))))))))), ?_⟩
  have lw := risingAt_len hw
  have hi : (cw h.toNat 0 w.length)[aheadN h 0 w]? = some w := by
    have := cw_ahead (cw_mem.mpr ⟨rfl, hw⟩)
    rw [show (0 : Int) + ((h.toNat : Nat) : Int) = h by omega] at this
    exact this
  have il : aheadN h 0 w < ch h.toNat w.length := by have := (List.getElem?_eq_some_iff.mp hi).1; rwa [cw_len] at this
  have nxt := cw_next hi
  rw [show (0 : Int) + ((h.toNat : Nat) : Int) = h by omega] at nxt
  refine ⟨_, rfl, _, rfl, h, a, w, aheadN h 0 w, rfl, h0, h1, SqT.of hA, by omega, hi, fun H1 s1 => ?_⟩
  refine ⟨_, rfl, .int _, "bool", _, false, rfl, .int _, kit_int_bool K, _, rfl, iteF ⟨_, rfl, .int _, "int", _, true, rfl, .int _, kit_eq, _, rfl, iteF ⟨_, rfl, _, rfl, _, rfl, _, rfl, rw, h, a, w, rfl, hR.same s1, h0, h1, s1 _ _ hA, hw, fun H2 s2 => ⟨rfl, _, rfl, iteNS rfl ?_⟩⟩⟩⟩
  have s12 := s1.trans s2
  have em : (((w.map V.int).length : Nat) : Int).toNat = w.length := by rw [List.length_map, Int.toNat_natCast]
  refine ⟨_, rfl, _, rfl, a, _, rfl, .inr (SqT.of (s12 _ _ hA)), _, rfl, h, _, _, rfl, h0, h1, by omega, (fun _ _ p w' H3 ep e s3 => ?_), (fun z => absurd z (by rw [em]; omega))⟩
  rw [em, Int.toNat_natCast, hi] at e
  cases e
  have s13 := s12.trans s3
  have rdp : RdV K H3 (.ref p) (wordD w) := .tup (SqT.of ep) (RdVs.ints _)
  refine ⟨_, rfl, wordD w, wordD w, rdp, .tup (SqT.of (s13 _ _ hA)) (RdVs.ints _), Nat.le_trans (depth_word _) (by decide), _, rfl, ?_⟩
  rw [rdp.eqD_self]
  refine iteF ⟨_, rfl, _, rfl, h, a, w, rfl, h0, h1, s13 _ _ hA, by omega, (fun p4 v H4 es ep4 s4 => ?_), (fun H4 es s4 => ?_)⟩
  · unfold NextIs at nxt
    rw [es] at nxt
    have nxt : (cw h.toNat 0 w.length)[aheadN h 0 w + 1]? = some v := nxt
    have lv : v.length = w.length := (cw_mem.mp (List.mem_of_getElem? nxt)).1
    have il2 : aheadN h 0 w + 1 < ch h.toNat w.length := by have := (List.getElem?_eq_some_iff.mp nxt).1; rwa [cw_len] at this
    have s14 := s13.trans s4
    refine ⟨_, rfl, rfl, _, rfl, ?_⟩
    rw [show decide (V.ref p4 = V.non) = false from by simp]
    refine iteF ⟨_, rfl, _, rfl, h, p4, v, aheadN h 0 w + 1, rfl, h0, h1, SqT.of ep4, by omega, by rw [lv]; exact nxt, fun H5 s5 => ⟨_, rfl, _, _, rfl, rfl, rfl, _, rfl, ?_⟩⟩
    rw [decide_eq_true (show V.int ((aheadN h 0 w + 1 : Nat) : Int) = V.int (((aheadN h 0 w : Nat) : Int) + 1) by rw [Int.natCast_add]; rfl)]
    have s15 := s14.trans s5
    refine iteT ⟨_, rfl, _, rfl, a, _, rfl, .inr (SqT.of (s15 _ _ hA)), _, rfl, _, _, rfl, rfl, h, _, _, rfl, h0, h1, by omega, (fun _ _ p6 w6 H6 ep6 e6 s6 => ?_), (fun z => absurd z (by rw [em]; omega))⟩
    rw [em, show (((aheadN h 0 w : Nat) : Int) + 1).toNat = aheadN h 0 w + 1 by omega, nxt] at e6
    cases e6
    have rd6 : RdV K H6 (.ref p6) (wordD v) := .tup (SqT.of ep6) (RdVs.ints _)
    refine ⟨_, rfl, wordD v, wordD v, rd6, .tup (SqT.of ((s5.trans s6) _ _ ep4)) (RdVs.ints _), Nat.le_trans (depth_word _) (by decide), ?_⟩
    rw [rd6.eqD_self]
    exact q _ (s15.trans s6)
  · unfold NextIs at nxt
    rw [es] at nxt
    have nxt : aheadN h 0 w + 1 = ch h.toNat w.length := nxt
    have s14 := s13.trans s4
    refine ⟨_, rfl, rfl, _, rfl, ?_⟩
    rw [show decide (V.non = V.non) = true from by simp]
    refine iteT ⟨_, rfl, _, rfl, _, rfl, a, _, rfl, .inr (SqT.of (s14 _ _ hA)), h, _, rfl, h0, by omega, by omega, fun H5 s5 => ⟨_, _, rfl, rfl, rfl, _, rfl, ?_⟩⟩
    rw [decide_eq_true (show V.int ((aheadN h 0 w : Nat) : Int) = V.int ((ch h.toNat (((w.map V.int).length : Nat) : Int).toNat : Int) - 1) by rw [em]; congr 1; omega)]
    have s15 := s14.trans s5
    exact iteT ⟨_, rfl, _, rfl, a, _, rfl, .inr (SqT.of (s15 _ _ hA)), _, rfl, _, _, rfl, rfl, h, _, _, rfl, h0, h1, by omega, .inr (by rw [em]; omega), fun H6 s6 => q _ (s15.trans s6)⟩
end
end K13
namespace K13
open PySem L2 Nd
theorem risingAt_of {h : Int} {w : List Int} (r : Rising h w) : RisingAt 0 h.toNat w := ⟨r.1, fun x hx => by have := r.2 x hx; omega⟩
theorem risingAt_range {n m : Nat} (h : n ≤ m) : RisingAt 0 m ((List.range n).map fun k : Nat => (k : Int)) := ⟨List.pairwise_map.mpr (List.pairwise_lt_range.imp fun {a b} h => by omega), fun x hx => by
  obtain ⟨k, hk, rfl⟩ := List.mem_map.mp hx
  have := List.mem_range.mp hk
  omega⟩
def Iv (K : PySem.W.Frag) (tl : List (Option V)) (H : Hp) : Prop := ∃ rw, tl[0]? = some (some (V.ref rw)) ∧ Rows K H rw 61
section
variable {P : Program} {w : World} {K : PySem.W.Frag} {mg : Str → Option Value} {base : Heap}
theorem sc_law : FnScope ["_law_script", "_law_rows_here", "_law_cell", "_law_draws_here", "_law_holes", "_law_many", "_law_there", "_law_number_here", "_law_turn", "_law_word_here", "_law_here"] ["_law_script"] (defScope sLaw) := ⟨rfl, rfl, rfl, by decide +kernel, rfl, by decide +kernel, by decide +kernel⟩
theorem ok_law {f f_number_of f_word_at f_L_draws f_L_next f_L_word f_L_rows f_L_choose f_L_refused f_L_right CN : Addr} {fd d_number_of d_word_at d_L_draws d_L_next d_L_word d_L_rows d_L_choose d_L_refused d_L_right : FuncData} (F : Fun K "law" "law" sLaw f fd)
    (G_number_of : FnOk P w K mg base CX0 2 f_number_of d_number_of ["holes", "word"] (spNum K)) (b_number_of : Binds K d_number_of ["holes", "word"] []) (k_number_of : PySem.W.keepIn K (.ref f_number_of) = true) (m_number_of : mg "number_of" = some (.ref f_number_of))
    (G_word_at : FnOk P w K mg base (CXN P w) 2 f_word_at d_word_at ["holes", "many", "number"] (spAtX CN)) (b_word_at : Binds K d_word_at ["holes", "many", "number"] []) (k_word_at : PySem.W.keepIn K (.ref f_word_at) = true) (m_word_at : mg "word_at" = some (.ref f_word_at))
    (G_L_draws : FnOk P w K mg base CX0 1 f_L_draws d_L_draws ["_law_cell"] (spDraws)) (b_L_draws : Binds K d_L_draws ["_law_cell"] []) (k_L_draws : PySem.W.keepIn K (.ref f_L_draws) = true) (m_L_draws : mg "_law_draws" = some (.ref f_L_draws))
    (G_L_next : FnOk P w K mg base CX0 1 f_L_next d_L_next ["_law_draws_here"] (spNext)) (b_L_next : Binds K d_L_next ["_law_draws_here"] []) (k_L_next : PySem.W.keepIn K (.ref f_L_next) = true) (m_L_next : mg "_law_next" = some (.ref f_L_next))
    (G_L_word : FnOk P w K mg base CX0 2 f_L_word d_L_word ["_law_draws_here", "_law_holes"] (spWord)) (b_L_word : Binds K d_L_word ["_law_draws_here", "_law_holes"] []) (k_L_word : PySem.W.keepIn K (.ref f_L_word) = true) (m_L_word : mg "_law_word" = some (.ref f_L_word))
    (G_L_rows : FnOk P w K mg base CX0 1 f_L_rows d_L_rows [] (spRows K)) (b_L_rows : Binds K d_L_rows [] []) (k_L_rows : PySem.W.keepIn K (.ref f_L_rows) = true) (m_L_rows : mg "_law_rows" = some (.ref f_L_rows))
    (G_L_choose : FnOk P w K mg base CX0 1 f_L_choose d_L_choose ["_law_rows_here", "_law_n", "_law_k"] (spLCh K)) (b_L_choose : Binds K d_L_choose ["_law_rows_here", "_law_n", "_law_k"] []) (k_L_choose : PySem.W.keepIn K (.ref f_L_choose) = true) (m_L_choose : mg "_law_choose" = some (.ref f_L_choose))
    (G_L_refused : FnOk P w K mg base CX0 3 f_L_refused d_L_refused ["_law_holes", "_law_many", "_law_number_here"] (spRef)) (b_L_refused : Binds K d_L_refused ["_law_holes", "_law_many", "_law_number_here"] []) (k_L_refused : PySem.W.keepIn K (.ref f_L_refused) = true) (m_L_refused : mg "_law_refused" = some (.ref f_L_refused))
    (G_L_right : FnOk P w K mg base CX0 4 f_L_right d_L_right ["_law_rows_here", "_law_holes", "_law_word_here"] (spRight K)) (b_L_right : Binds K d_L_right ["_law_rows_here", "_law_holes", "_law_word_here"] []) (k_L_right : PySem.W.keepIn K (.ref f_L_right) = true) (m_L_right : mg "_law_right" = some (.ref f_L_right))
    (mz_bool : mg "bool" = none) (mz_isinstance : mg "isinstance" = none) (mz_len : mg "len" = none) (mz_range : mg "range" = none) (mz_tuple : mg "tuple" = none) :
    FnOk P w K mg base CX0 5 f fd ["_law_script"] (spLaw K) := by
  refine F.ok sc_law (fun vs H Q E h => ?_) (fun cdv A outer s H vs Q E hr h => ?_)
  · obtain ⟨a, ns, rfl, _⟩ := h
    rfl
  obtain ⟨a, ns, rfl, hS, h63, q⟩ := h
  have hr1 : Room 1 _ := hr.mono (by decide)
  have hr2 : Room 2 _ := hr.mono (by decide)
  have hr3 : Room 3 _ := hr.mono (by decide)
  have hr4 : Room 4 _ := hr.mono (by decide)
  have hu := hu_of hr
  have hu64 := hr.units
  have CS1 : ∀ {scope : Scope} (h : scope = { kind := .function, names := [(".0", .local), ("_law_p", .local), ("isinstance", .globalImplicit), ("bool", .globalImplicit), ("_law_holes", .free)], isGenerator := false, isCoroutine := false }),
      CompScope (cxOf CX0 P w K mg base ["_law_script", "_law_rows_here", "_law_cell", "_law_draws_here", "_law_holes", "_law_many", "_law_there", "_law_number_here", "_law_turn", "_law_word_here", "_law_here"] "law" (defScope sLaw) f cdv A outer s H E).nox scope [("_law_holes", s.heap.objs.size + 1)] "_law_p" ["_law_holes"] [4] := by
    rintro scope rfl
    refine ⟨by rfl, by decide +kernel, by rfl, by decide +kernel, by rfl, fun y c h => ?_, by rfl, by decide +kernel, rfl, fun k y j e1 e2 => ?_⟩
    · have z := lookup_mem h
      simp only [List.mem_cons, List.not_mem_nil, or_false, Prod.mk.injEq] at z
      obtain ⟨rfl, rfl⟩ := z; rfl
    · match k, e1, e2 with
      | 0, e1, e2 => cases e1; cases e2; exact ⟨rfl, rfl, .inl rfl⟩
      | k + 1, e1, e2 => cases e1
  refine ⟨_, pss_cons (ps_set (i := 1) sc_law.nd rfl (Or.inl rfl) (pe_call0 G_L_rows hr1 rfl m_L_rows k_L_rows b_L_rows .nil pass0))
    (pss_cons (ps_for PassesOwn.never rfl (pi_list (pe_op op_cat (pe_slice (r := rSlL K) sl_list (pv 0) po_none (po_some pe_int)) (pe_lst (pa_cons pe_int pa_nil)))) (pg_name (i := 2) sc_law.nd rfl (Or.inl rfl))
    (pss_cons (ps_set (i := 3) sc_law.nd rfl (Or.inl rfl) (pe_call G_L_draws hr1 rfl m_L_draws k_L_draws b_L_draws .nil pass0 (pa_cons (pv 2) pa_nil)))
      (pss_cons (ps_set (i := 4) sc_law.nd rfl (Or.inr rfl) (pe_op op_add pe_int (pe_op op_mod (pe_call G_L_next hr1 rfl m_L_next k_L_next b_L_next .nil pass0 (pa_cons (pv 3) pa_nil)) pe_int)))
      (pss_cons (ps_set (i := 5) sc_law.nd rfl (Or.inl rfl) (pe_op op_mod (pe_call G_L_next hr1 rfl m_L_next k_L_next b_L_next .nil pass0 (pa_cons (pv 3) pa_nil)) (pe_op op_add (pv 4) pe_int)))
      (pss_cons (ps_set (i := 6) sc_law.nd rfl (Or.inl rfl) (pe_call G_L_choose hr1 rfl m_L_choose k_L_choose b_L_choose .nil pass0 (pa_cons (pv 1) (pa_cons (pv 4) (pa_cons (pv 5) pa_nil)))))
      (pss_cons (ps_set (i := 7) sc_law.nd rfl (Or.inl rfl) (pe_call G_L_next hr1 rfl m_L_next k_L_next b_L_next .nil pass0 (pa_cons (pv 3) pa_nil)))
      (pss_cons (ps_for PassesOwn.never rfl (pi_range1 rfl mz_range (pa_cons pe_int pa_nil)) (pg_name (i := 8) sc_law.nd rfl (Or.inl rfl))
      (pss_one (ps_set (i := 7) sc_law.nd rfl (Or.inl rfl) (pe_op op_add (pe_op op_mul (pv 7) (pe_op op_pow pe_int pe_int)) (pe_call G_L_next hr1 rfl m_L_next k_L_next b_L_next .nil pass0 (pa_cons (pv 3) pa_nil))))))
      (pss_cons (ps_set (i := 7) sc_law.nd rfl (Or.inl rfl) (pe_op op_mod (pv 7) (pv 6)))
      (pss_cons (ps_for PassesOwn.never rfl (pi_list (pe_lst (pa_cons (pe_call G_L_word hr2 rfl m_L_word k_L_word b_L_word .nil pass0 (pa_cons (pv 3) (pa_cons (pv 4) pa_nil))) (pa_cons (pe_slice (r := rSlTP) sl_tupP (pe_call G_L_word hr2 rfl m_L_word k_L_word b_L_word .nil pass0 (pa_cons (pv 3) (pa_cons (pv 4) pa_nil))) po_none (po_some pe_int)) (pa_cons (pe_callTy (r := rTupR) (call_tupleR rfl) rfl mz_tuple (by decide +kernel) (pa_cons (pe_callTy (r := rRngV) call_rangeV rfl mz_range (by decide +kernel) (pa_cons (pv 5) pa_nil)) pa_nil)) pa_nil))))) (pg_name (i := 9) sc_law.nd rfl (Or.inl rfl))
      (pss_one (ps_if (pt_not (pt_val (pe_call G_L_right hr4 rfl m_L_right k_L_right b_L_right .nil pass0 (pa_cons (pv 1) (pa_cons (pv 4) (pa_cons (pv 9) pa_nil))))))
        (pss_one (ps_ret pe_bl)) pss_nil)))
      (pss_cons (ps_for PassesOwn.never rfl (pi_list (pe_lst (pa_cons (pv 7) (pa_cons pe_int (pa_cons (pe_op op_sub (pv 6) pe_int) pa_nil))))) (pg_name (i := 10) sc_law.nd rfl (Or.inl rfl))
      (pss_cons (ps_set (i := 9) sc_law.nd rfl (Or.inl rfl) (pe_call G_word_at hr2 rfl m_word_at k_word_at b_word_at .nil passF (pa_cons (pv 4) (pa_cons (pv 5) (pa_cons (pv 10) pa_nil)))))
        (pss_cons (ps_if (PW.pt (pw_or (pt_not (pt_val (pe_callB (r := rIs K) isi_ok rfl mz_isinstance (by decide +kernel) (pa_cons (pv 9) (pa_cons (pe_bltn (v := .ty "tuple") rfl mz_tuple (by decide +kernel) rfl) pa_nil))))) (pw_or1 (pt_cmpR op_ne (pe_callB (r := rLen K) len_ok rfl mz_len (by decide +kernel) (pa_cons (pv 9) pa_nil)) (pv 5) (nomark _)))))
        (pss_one (ps_ret pe_bl)) pss_nil)
        (pss_cons (ps_if (pt_not (pt_val (pe_call G_L_right hr4 rfl m_L_right k_L_right b_L_right .nil pass0 (pa_cons (pv 1) (pa_cons (pv 4) (pa_cons (pv 9) pa_nil))))))
        (pss_one (ps_ret pe_bl)) pss_nil)
        (pss_cons (ps_if (pt_cmpR op_ne (pe_call G_number_of hr2 rfl m_number_of k_number_of b_number_of .nil pass0 (pa_cons (pv 4) (pa_cons (pv 9) pa_nil))) (pv 10) (nomark _))
        (pss_one (ps_ret pe_bl)) pss_nil)
        (pss_one (ps_if (pt_cmpR (r := rNeD K) (op_neD hu64) (pe_comp (CS1 rfl) rfl (pi_tup (pv 9)) (fun _ _ _ => pts_one (PW.pt (pw_or (pt_val (pe_callB (r := rIs K) isi_ok rfl mz_isinstance (by decide +kernel) (pa_cons (pv 0) (pa_cons (pe_bltn (v := .ty "bool") rfl mz_bool (by decide +kernel) rfl) pa_nil)))) (pw_or (pt_cmpR op_lt (pv 0) pe_int (nomark _)) (pw_or1 (pt_cmpR op_ge (pv 0) (pv 1) (nomark _))))))) (fun _ _ _ => pv 0)) (pe_lst pa_nil) (nomark _))
        (pss_one (ps_ret pe_bl)) pss_nil)))))))
      (pss_cons (ps_for PassesOwn.never rfl (pi_list (pe_lst (pa_cons (pe_un un_neg pe_int) (pa_cons (pv 6) (pa_cons (pe_op op_add (pe_op op_add (pv 6) pe_int) (pv 7)) (pa_cons (pe_op op_sub (pe_op op_pow pe_int pe_int) pe_int) (pa_cons (pe_op op_sub (pe_op op_sub pe_int (pv 7)) pe_int) pa_nil))))))) (pg_name (i := 10) sc_law.nd rfl (Or.inl rfl))
      (pss_one (ps_if (pt_not (pt_val (pe_call G_L_refused hr3 rfl m_L_refused k_L_refused b_L_refused .nil pass0 (pa_cons (pv 4) (pa_cons (pv 5) (pa_cons (pv 10) pa_nil))))))
        (pss_one (ps_ret pe_bl)) pss_nil)))
      (pss_one (ps_if (pt_not (pt_val (pe_call G_L_refused hr3 rfl m_L_refused k_L_refused b_L_refused .nil pass0 (pa_cons (pv 4) (pa_cons (pe_op op_add (pe_op op_add (pv 4) pe_int) (pe_op op_mod (pv 7) pe_int)) (pa_cons pe_int pa_nil))))))
      (pss_one (ps_ret pe_bl)) pss_nil)))))))))))))
    (pss_one (ps_ret pe_bl))), ?_⟩
  refine ⟨0, rfl, fun rw H0 nrw hrw s0 => ?_⟩
  refine at_nx ?_
  refine for_cellsI (K := K) (j := 1) (m := 10) (tl0 := [some (.ref rw), none, none, none, none, none, none, none, none, none]) (Iv K) (Same.seq s0 hS) h63 rfl (fun H3 s3 => ⟨rw, rfl, hrw.same s3⟩) (fun c tl H4 N htl hI nx => ?_) (fun tl' H' _ _ => q H')
  obtain ⟨rw, e0, hR⟩ := hI
  match tl, htl, e0 with
  | [v1, v2, v3, v4, v5, v6, v7, v8, v9, v10], _, e0 => ?_
  have e0 : v1 = some (.ref rw) := Option.some.inj e0
  subst e0
  refine ⟨_, rfl, c, rfl, fun d fl H5 nd5 d5 s5 => ?_⟩
  have fin : ∀ {H' : Hp} (tl' : List (Option V)), tl'.length = 10 → SameB d H5 H' → tl'[0]? = some (some (.ref rw)) → N (some (.ref a) :: tl') H' := fun {H'} tl' hl z e => by
    have sm : Same H4 H' := fun b o e => z b o (ne_of_none e nd5) (s5 _ _ e)
    exact nx tl' H' hl sm ⟨rw, e, hR.same sm⟩
  have RB : ∀ {H' : Hp}, SameB d H5 H' → Rows K H' rw 61 := fun z => hR.same fun b o e => z b o (ne_of_none e nd5) (s5 _ _ e)
  -- holes, many
  refine ⟨_, rfl, d, c, 0, fl, rfl, d5, by decide, by decide, fun r6 c6 H6 d6 s6 => ⟨_, _, rfl, rfl, (by show (0 : Int) < 60; decide), _, _, rfl, rfl, ?_⟩⟩
  have b6 := emod_in r6 60 (by decide)
  refine ⟨_, rfl, d, c6, 0 + 1, fl, rfl, d6, by decide, by decide, fun r7 c7 H7 d7 s7 => ⟨_, rfl, _, _, rfl, rfl, _, _, rfl, rfl, (by show (0 : Int) < 1 + r6 % 60 + 1; omega), ?_⟩⟩
  have b7 := emod_in r7 (1 + r6 % 60 + 1) (by omega)
  obtain ⟨hv, ehv⟩ : ∃ hv : Int, 1 + r6 % 60 = hv := ⟨_, rfl⟩
  rw [ehv] at b7
  have hv1 : 1 ≤ hv := by omega
  have hv60 : hv ≤ 60 := by omega
  obtain ⟨mv, emv⟩ : ∃ mv : Int, r7 % (hv + 1) = mv := ⟨_, rfl⟩
  rw [emv] at b7
  have σe : ([some (V.ref a), some (V.ref rw), some (V.int c), some (V.ref d), some (V.int (1 + r6 % 60)), some (V.int (r7 % (1 + r6 % 60 + 1))), v6, v7, v8, v9, v10] : List (Option V)) = [some (V.ref a), some (V.ref rw), some (V.int c), some (V.ref d), some (V.int hv), some (V.int mv), v6, v7, v8, v9, v10] := by rw [ehv, emv]
  have s57 := s6.trans s7
  refine at_nx ?_
  show tSeq _ _ _ [some (V.ref a), some (V.ref rw), some (V.int c), some (V.ref d), some (V.int (1 + r6 % 60)), some (V.int (r7 % (1 + r6 % 60 + 1))), v6, v7, v8, v9, v10] H7
  rw [σe]
  -- there
  refine ⟨_, rfl, _, rfl, _, rfl, rw, hv, mv, rfl, RB s57, by omega, hv60, b7.1, fun H8 s8 => ?_⟩
  have cpos : 0 < ch hv.toNat mv.toNat := ch_pos (by omega)
  have cbig : (ch hv.toNat mv.toNat : Int) ≤ 10 ^ 19 := by
    have h1 := ch_le hv.toNat mv.toNat
    have h2 : 2 ^ hv.toNat ≤ 2 ^ 60 := Nat.pow_le_pow_right (by decide) (by omega)
    have h3 : (2 : Nat) ^ 60 ≤ 10 ^ 19 := by decide
    have h4 : ((10 ^ 19 : Nat) : Int) = 10 ^ 19 := by decide
    omega
  have s58 := s57.trans (SameB.of s8)
  have d8 := d7.same s8
  -- number
  refine ⟨_, rfl, d, c7, 0 + 1 + 1, fl, rfl, d8, by decide, by decide, fun r9 c9 H9 d9 s9 => ?_⟩
  refine ⟨2, rfl, by decide, by decide, for_range (lo := 0) (n := 2) (fun j σ G => ∃ (nb c' : Int) (u8 : Option V), σ = [some (.ref a), some (.ref rw), some (.int c), some (.ref d), some (.int hv), some (.int mv), some (.int (ch hv.toNat mv.toNat)), some (.int nb), u8, v9, v10] ∧ Draw G d c' (3 + j) fl ∧ j ≤ 2 ∧ SameB d H5 G)
    ⟨r9, c9, v8, rfl, (by rw [show (3 : Int) + ((0 : Nat) : Int) = 0 + 1 + 1 + 1 by decide]; exact d9), by decide, s58.trans s9⟩ ?_ ?_⟩
  · rintro j σ G hj ⟨nb, c', u8, rfl, dG, j2, sG⟩
    refine ⟨_, rfl, 10, 6, rfl, rfl, ⟨by decide, by decide, by decide⟩, _, _, rfl, rfl, .inr ⟨by decide, by decide⟩, _, rfl, d, c', 3 + j, fl, rfl, dG, by omega, by omega, fun r10 c10 G2 d10 s10 => ⟨_, _, rfl, rfl, ?_⟩⟩
    exact ⟨_, c10, _, rfl, by rw [show (3 : Int) + ((j + 1 : Nat) : Int) = 3 + (j : Int) + 1 by omega]; exact d10, by omega, sG.trans s10⟩
  rintro σ G ⟨nb, c', u8, rfl, dG, _, sG⟩
  refine ⟨_, rfl, _, rfl, _, _, rfl, rfl, (by show (0 : Int) < (ch hv.toNat mv.toNat : Int); omega), ?_⟩
  have bn := emod_in nb (ch hv.toNat mv.toNat : Int) (by omega)
  obtain ⟨nv, env⟩ : ∃ nv : Int, nb % (ch hv.toNat mv.toNat : Int) = nv := ⟨_, rfl⟩
  rw [env] at bn
  refine at_nx ?_
  show tSeq _ _ _ [some (V.ref a), some (V.ref rw), some (V.int c), some (V.ref d), some (V.int hv), some (V.int mv), some (V.int (ch hv.toNat mv.toNat)), some (V.int (nb % (ch hv.toNat mv.toNat : Int))), u8, v9, v10] G
  rw [env]
  -- the words
  refine ⟨_, rfl, _, rfl, d, hv, c', _, fl, rfl, dG, by omega, by omega, by omega, hv60, fun w1 n1 c1 k1 G1 nw1 ew1 lw1 rw1 d1 k11 k12 s1 => ?_⟩
  refine ⟨_, rfl, _, rfl, d, hv, c1, k1, fl, rfl, d1, by omega, by omega, by omega, hv60, fun w2 n2 c2 k2 G2 nw2 ew2 lw2 rw2 d2 k21 k22 s2 => ?_⟩
  refine ⟨3, rfl, w2, _, rfl, ew2, fun p3 G3 ep3 s3 => ?_⟩
  rw [cut_head (by decide)] at ep3
  refine ⟨_, rfl, mv, rfl, fun r nr => ⟨r, mv, rfl, upd_same, b7.1, by omega, fun p4 np4 => ⟨sz, fun p5 np5 => ?_⟩⟩⟩
  have s4 := same_new nr (RngO r mv)
  have s5' := same_new np4 (.tup (((List.range mv.toNat).map fun n : Nat => (n : Int)).map V.int))
  have s6' := same_new np5 (.lst [V.ref w1, V.ref p3, V.ref p4])
  have ep4 := s6' _ _ (upd_same (H := upd G3 r (RngO r mv)) (a := p4) (o := .tup (((List.range mv.toNat).map fun n : Nat => (n : Int)).map V.int)))
  have ep5 := upd_same (H := upd (upd G3 r (RngO r mv)) p4 (.tup (((List.range mv.toNat).map fun n : Nat => (n : Int)).map V.int))) (a := p5) (o := .lst [V.ref w1, V.ref p3, V.ref p4])
  have s3A := (s4.trans s5').trans s6'
  have ep3A := s3A _ _ ep3
  have w1d : w1 ≠ d := draw_ne dG nw1
  have ew1A := s3A _ _ (s3 _ _ (s2 _ _ w1d ew1))
  have sA : SameB d H5 _ := ((sG.trans s1).trans s2).trans (SameB.of (s3.trans s3A))
  generalize upd (upd (upd G3 r (RngO r mv)) p4 (.tup (((List.range mv.toNat).map fun n : Nat => (n : Int)).map V.int))) p5 (.lst [V.ref w1, V.ref p3, V.ref p4]) = HA at ep4 ep5 ep3A ew1A sA
  have cards : ∀ x ∈ [V.ref w1, V.ref p3, V.ref p4], ∃ (p : Addr) (v : List Int), x = .ref p ∧ HA p = some (.tup (v.map V.int)) ∧ RisingAt 0 hv.toNat v := fun x hx => by
    simp only [List.mem_cons, List.not_mem_nil, or_false] at hx
    rcases hx with rfl | rfl | rfl
    · exact ⟨_, _, rfl, ew1A, risingAt_of rw1⟩
    · have r2 := risingAt_of rw2
      exact ⟨_, _, rfl, ep3A, r2.1.sublist (List.take_sublist _ _), fun x hx => r2.2 x (List.mem_of_mem_take hx)⟩
    · exact ⟨_, _, rfl, ep4, risingAt_range (by omega)⟩
  have RA := RB sA
  refine ⟨p5, rfl, ⟨_, SqL.of ep5⟩, for_list (K := K) (a := p5) (xs := [V.ref w1, V.ref p3, V.ref p4]) (fun j σ H2 => ∃ (u9 : Option V), σ = [some (.ref a), some (.ref rw), some (.int c), some (.ref d), some (.int hv), some (.int mv), some (.int (ch hv.toNat mv.toNat)), some (.int nv), u8, u9, v10] ∧ Same HA H2)
    ⟨v9, rfl, Same.refl _⟩ (fun j σ H2 _ ⟨_, _, sm⟩ => SqL.of (sm _ _ ep5)) ?_ ?_⟩
  · rintro j x σ H2 hx ⟨u9, rfl, sm⟩
    obtain ⟨p, v, rfl, ep, rv⟩ := cards x (List.mem_of_getElem? hx)
    exact ⟨_, rfl, _, rfl, _, rfl, rw, hv, p, v, rfl, RA.same sm, by omega, hv60, sm _ _ ep, rv, fun H3 s3 => ⟨_, rfl, iteF ⟨_, rfl, sm.trans s3⟩⟩⟩
  rintro σ HB ⟨u9, rfl, smB⟩
  -- the numbers
  refine ⟨_, rfl, _, rfl, _, _, rfl, rfl, sz, fun p6 np6 => ?_⟩
  have s7' := same_new np6 (.lst [V.int nv, V.int 0, V.int ((ch hv.toNat mv.toNat : Int) - 1)])
  have ep6 := upd_same (H := HB) (a := p6) (o := .lst [V.int nv, V.int 0, V.int ((ch hv.toNat mv.toNat : Int) - 1)])
  have smC := smB.trans s7'
  generalize upd HB p6 (.lst [V.int nv, V.int 0, V.int ((ch hv.toNat mv.toNat : Int) - 1)]) = HC at ep6 smC
  have nums : ∀ x ∈ [V.int nv, V.int 0, V.int ((ch hv.toNat mv.toNat : Int) - 1)], ∃ n : Int, x = .int n ∧ 0 ≤ n ∧ n < (ch hv.toNat mv.toNat : Int) := fun x hx => by
    simp only [List.mem_cons, List.not_mem_nil, or_false] at hx
    rcases hx with rfl | rfl | rfl
    · exact ⟨_, rfl, by omega, by omega⟩
    · exact ⟨_, rfl, by omega, by omega⟩
    · exact ⟨_, rfl, by omega, by omega⟩
  refine ⟨p6, rfl, ⟨_, SqL.of ep6⟩, for_list (K := K) (a := p6) (xs := [V.int nv, V.int 0, V.int ((ch hv.toNat mv.toNat : Int) - 1)]) (fun j σ H2 => ∃ (u9 u10 : Option V), σ = [some (.ref a), some (.ref rw), some (.int c), some (.ref d), some (.int hv), some (.int mv), some (.int (ch hv.toNat mv.toNat)), some (.int nv), u8, u9, u10] ∧ Same HC H2)
    ⟨u9, v10, rfl, Same.refl _⟩ (fun j σ H2 _ ⟨_, _, _, sm⟩ => SqL.of (sm _ _ ep6)) ?_ ?_⟩
  · rintro j x σ H2 hx ⟨u9, u10, rfl, sm⟩
    obtain ⟨n, rfl, n0, n1⟩ := nums x (List.mem_of_getElem? hx)
    refine ⟨_, rfl, _, rfl, _, rfl, hv, mv, n, rfl, by omega, hv60, b7.1, (fun _ _ p ws H3 ep e s3 => ?_), (fun z => absurd z (by omega))⟩
    obtain ⟨lws, rws⟩ := cw_mem.mp (List.mem_of_getElem? e)
    have l60 := risingAt_len rws
    refine ⟨_, rfl, .ref p, "tuple", _, true, rfl, .tup ep, kit_eq, _, rfl, iteF ⟨_, rfl, p, _, rfl, .inr (SqT.of ep), _, rfl, rfl, _, rfl, iteNS (by rw [List.length_map, lws]; congr 1; omega) ?_⟩⟩
    refine ⟨_, rfl, _, rfl, _, rfl, rw, hv, p, ws, rfl, RA.same ((smC.trans sm).trans s3), by omega, hv60, ep, rws, fun H4' s4' => ⟨_, rfl, iteF ?_⟩⟩
    refine ⟨_, rfl, _, rfl, hv, p, ws, n.toNat, rfl, by omega, hv60, SqT.of (s4' _ _ ep), by omega, by rw [lws]; exact e, fun H5' s5'' => ⟨_, rfl, rfl, _, rfl, iteNS (by congr 1; omega) ?_⟩⟩
    have ep5' := (s4'.trans s5'') _ _ ep
    refine ⟨_, rfl, p, rfl, ⟨_, SqT.of ep5'⟩, ?_⟩
    refine comp_pure (walked_tup (xs := ws.map V.int)) (by rw [List.length_map]; exact sz (by omega)) (fun _ => false) (fun x => x) (fun H' s' => SqT.of (s' _ _ ep5')) ?_ (fun x _ hf => absurd hf Bool.false_ne_true) ?_
    · intro y hy H' s' Q' kk
      obtain ⟨jj, hjj, rfl⟩ := mem_int hy
      have bj := rws.2 jj hjj
      refine ⟨_, rfl, .int _, "bool", _, false, rfl, .int _, kit_int_bool K, _, rfl, iteF ⟨_, rfl, _, _, rfl, rfl, _, rfl, ?_⟩⟩
      rw [decide_eq_false (show ¬ jj < 0 by omega)]
      refine iteF ⟨_, rfl, _, rfl, _, _, rfl, rfl, _, rfl, ?_⟩
      rw [decide_eq_false (show ¬ hv ≤ jj by omega)]
      exact kk H' (Same.refl _)
    · intro D H6' nD eD s6''
      have eD' : H6' D = some (.lst []) := by
        rw [eD]
        congr 2
        rw [List.map_id', List.filter_eq_nil_iff.mpr (fun _ _ => Bool.false_ne_true)]
      refine ⟨sz, fun p7 np7 => ?_⟩
      have s7'' := same_new np7 (.lst [])
      refine ⟨.list [], .list [], .lst (SqL.of (s7'' _ _ eD')) .nil, .lst (SqL.of upd_same) .nil, (by simp [PyData.depth, PyData.depthAll]), _, rfl, ?_⟩
      rw [eqD_nil]
      exact iteF ⟨_, _, rfl, (sm.trans s3).trans ((s4'.trans s5'').trans (s6''.trans s7''))⟩
  rintro σ HD ⟨u9, u10, rfl, smD⟩
  -- the numbers that are none
  refine ⟨_, rfl, _, rfl, _, rfl, _, _, rfl, rfl, _, rfl, _, _, rfl, rfl, 10, 20, rfl, rfl, ⟨by decide, by decide, by decide⟩, _, _, rfl, rfl, _, rfl, _, _, rfl, rfl, _, _, rfl, rfl, sz, fun p8 np8 => ?_⟩
  have p20 : (10 : Int) ^ (20 : Int).toNat = 100000000000000000000 := by decide
  have p19 : (10 : Int) ^ 19 = 10000000000000000000 := by decide
  have bad : ∀ x ∈ [V.int (-1), V.int (ch hv.toNat mv.toNat), V.int ((ch hv.toNat mv.toNat : Int) + 1 + nv), V.int (10 ^ (20 : Int).toNat - 1), V.int (0 - nv - 1)], ∃ n : Int, x = .int n ∧ (n < 0 ∨ (ch hv.toNat mv.toNat : Int) ≤ n) := fun x hx => by
    simp only [List.mem_cons, List.not_mem_nil, or_false] at hx
    rcases hx with rfl | rfl | rfl | rfl | rfl
    · exact ⟨_, rfl, .inl (by decide)⟩
    · exact ⟨_, rfl, .inr (Int.le_refl _)⟩
    · exact ⟨_, rfl, .inr (by omega)⟩
    · exact ⟨_, rfl, .inr (by rw [p20]; omega)⟩
    · exact ⟨_, rfl, .inl (by omega)⟩
  have ep8 := upd_same (H := HD) (a := p8) (o := .lst [V.int (-1), V.int (ch hv.toNat mv.toNat), V.int ((ch hv.toNat mv.toNat : Int) + 1 + nv), V.int (10 ^ (20 : Int).toNat - 1), V.int (0 - nv - 1)])
  have s8' := same_new np8 (.lst [V.int (-1), V.int (ch hv.toNat mv.toNat), V.int ((ch hv.toNat mv.toNat : Int) + 1 + nv), V.int (10 ^ (20 : Int).toNat - 1), V.int (0 - nv - 1)])
  have smE := (smC.trans smD).trans s8'
  show ∃ _, _
  refine ⟨p8, rfl, ⟨_, SqL.of ep8⟩, for_list (K := K) (a := p8) (xs := [V.int (-1), V.int (ch hv.toNat mv.toNat), V.int ((ch hv.toNat mv.toNat : Int) + 1 + nv), V.int (10 ^ (20 : Int).toNat - 1), V.int (0 - nv - 1)]) (fun j σ H2 => ∃ (u10 : Option V), σ = [some (.ref a), some (.ref rw), some (.int c), some (.ref d), some (.int hv), some (.int mv), some (.int (ch hv.toNat mv.toNat)), some (.int nv), u8, u9, u10] ∧ Same (upd HD p8 (.lst [V.int (-1), V.int (ch hv.toNat mv.toNat), V.int ((ch hv.toNat mv.toNat : Int) + 1 + nv), V.int (10 ^ (20 : Int).toNat - 1), V.int (0 - nv - 1)])) H2)
    ⟨u10, rfl, Same.refl _⟩ (fun j σ H2 _ ⟨_, _, sm⟩ => SqL.of (sm _ _ ep8)) ?_ ?_⟩
  · rintro j x σ H2 hx ⟨u10, rfl, sm⟩
    obtain ⟨n, rfl, hn⟩ := bad x (List.mem_of_getElem? hx)
    exact ⟨_, rfl, _, rfl, _, rfl, hv, mv, n, rfl, by omega, hv60, b7.1, hn, fun H3 s3 => ⟨_, rfl, iteF ⟨_, rfl, sm.trans s3⟩⟩⟩
  rintro σ HF ⟨u10, rfl, smF⟩
  have b5 := emod_in nv 5 (by decide)
  refine ⟨_, rfl, _, rfl, _, _, rfl, rfl, _, rfl, _, _, rfl, rfl, (by show (0 : Int) < 5; decide), _, _, rfl, rfl, hv, hv + 1 + nv % 5, 0, rfl, by omega, hv60, by omega, .inr (by rw [ch_above (by omega)]; decide), fun H3 s3 => ⟨_, rfl, iteF ?_⟩⟩
  exact fin _ rfl (sA.trans (SameB.of (smE.trans (smF.trans s3)))) rfl
end
end K13
namespace K13
open PySem L2 Nd
structure Def (K : PySem.W.Frag) (x : Str) (st : Stmt) (f : Addr) (fd : FuncData) : Prop where
  nm : PySem.W.nsIn K mainGlobals x = some (some (.ref f))
  fn : Fun K x x st f fd
theorem def_mk {K : PySem.W.Frag} {x : Str} {st : Stmt} {f : Addr} {od an : Option Addr} {sl : Array (Option Value)} {oc kV dc pm cd ct : Value}
    (a : PySem.W.nsIn K mainGlobals x = some (some (.ref f))) (l : K.lookup f = some ⟨oc, od, .func (PySem.W.fnOf x x (defArgs st) (defBody st) (defScope st) .none kV dc pm an cd ct), sl⟩) (c : PySem.W.codeIn K cd x = true) (k : PySem.W.keepIn K (.ref f) = true) :
    Def K x st f (PySem.W.fnOf x x (defArgs st) (defBody st) (defScope st) .none kV dc pm an cd ct) := ⟨a, fun_mk l c k⟩
theorem cls_ok {K : PySem.W.Frag} {D : Addr} {cd : ClassData} (h : PySem.W.clsIn K D = some cd) : ∃ cd, PySem.W.clsIn K D = some cd := ⟨cd, h⟩
structure Oth (K : PySem.W.Frag) (C D : Addr) : Prop where
  cls : ∃ cd, PySem.W.clsIn K D = some cd
  ty : PySem.W.typeIn K (.ref D) = some (.type "type")
  sub : PySem.W.subIn K (.ref C) (.ref D) = some false
  ne : C ≠ D
theorem Oth.kit {K : PySem.W.Frag} {C D : Addr} (h : Oth K C D) : PySem.W.kitOne K (.ref C) (.ref D) = some false := let ⟨_, e⟩ := h.cls; kit_ref e h.ty h.sub h.ne
theorem kitAny_no {K : PySem.W.Frag} {t : Value} : ∀ {cs : List Value}, (∀ c ∈ cs, PySem.W.kitOne K t c = some false) → PySem.W.kitAny K t cs = some false
  | [], _ => rfl
  | c :: cs, h => by
    unfold PySem.W.kitAny
    rw [h c List.mem_cons_self]
    exact kitAny_no fun x hx => h x (List.mem_cons_of_mem _ hx)
theorem oths {K : PySem.W.Frag} {C c_NoBack c_NoHoles c_NoLine c_NoName c_NoSide c_NoText c_NoValue c_NoWord : Addr} (o1 : Oth K C c_NoBack) (o2 : Oth K C c_NoHoles) (o3 : Oth K C c_NoLine) (o4 : Oth K C c_NoName) (o5 : Oth K C c_NoSide) (o6 : Oth K C c_NoText) (o7 : Oth K C c_NoValue) (o8 : Oth K C c_NoWord) : PySem.W.kitAny K (.ref C) ([c_NoBack, c_NoHoles, c_NoLine, c_NoName, c_NoSide, c_NoText, c_NoValue, c_NoWord].map Value.ref) = some false :=
  kitAny_no fun c hc => by
    simp only [List.map_cons, List.map_nil, List.mem_cons, List.not_mem_nil, or_false] at hc
    rcases hc with rfl | rfl | rfl | rfl | rfl | rfl | rfl | rfl
    · exact o1.kit
    · exact o2.kit
    · exact o3.kit
    · exact o4.kit
    · exact o5.kit
    · exact o6.kit
    · exact o7.kit
    · exact o8.kit
theorem all_mk {l : PySem.W.OpenLaw} {w : World} {K : PySem.W.Frag} {h : Heap} {mg : Str → Option Value} {fa f1 f2 f3 f4 f5 f6 f7 f8 f9 f10 f11 f12 f13 : Addr} {d1 d2 d3 d4 d5 d6 d7 d8 d9 d10 d11 d12 : FuncData} {NE CN c_NoBack c_NoHoles c_NoLine c_NoName c_NoSide c_NoText c_NoValue c_NoWord : Addr} (X : K.In h) (G : h.Ns mainGlobals mg) (hfa : mg "law" = some (.ref fa))
    {od an : Option Addr} {sl : Array (Option Value)} {oc kV dc pm cd ct : Value}
    (D1 : Def K "_law_draws" sDraws f1 d1) (D2 : Def K "_law_next" sNext f2 d2) (D3 : Def K "_law_word" sWord f3 d3) (D4 : Def K "choose" s_choose f4 d4) (D5 : Def K "word_at" s_word_at f5 d5) (D6 : Def K "number_of" s_number_of f6 d6) (D7 : Def K "_law_rows" s__law_rows f7 d7) (D8 : Def K "_law_choose" s__law_choose f8 d8) (D9 : Def K "_law_number" s__law_number f9 d9) (D10 : Def K "_law_next_word" s__law_next_word f10 d10) (D11 : Def K "_law_refused" s__law_refused f11 d11) (D12 : Def K "_law_right" s__law_right f12 d12)
    (aL : PySem.W.nsIn K mainGlobals "law" = some (some (.ref f13))) (lL : K.lookup f13 = some ⟨oc, od, .func (PySem.W.fnOf "law" "law" (defArgs sLaw) (defBody sLaw) (defScope sLaw) .none kV dc pm an cd ct), sl⟩) (cL : PySem.W.codeIn K cd "law" = true) (kL : PySem.W.keepIn K (.ref f13) = true)
    (z1 : PySem.W.nsIn K mainGlobals "range" = some none) (z2 : PySem.W.nsIn K mainGlobals "tuple" = some none) (z3 : PySem.W.nsIn K mainGlobals "min" = some none) (z4 : PySem.W.nsIn K mainGlobals "len" = some none) (z5 : PySem.W.nsIn K mainGlobals "enumerate" = some none) (z6 : PySem.W.nsIn K mainGlobals "list" = some none) (z7 : PySem.W.nsIn K mainGlobals "ValueError" = some none) (z8 : PySem.W.nsIn K mainGlobals "isinstance" = some none) (z9 : PySem.W.nsIn K mainGlobals "bool" = some none) (z10 : PySem.W.nsIn K mainGlobals "int" = some none)
    (q1 : PySem.W.nsIn K mainGlobals "NeedleError" = some (some (.ref NE))) (q2 : PySem.W.nsIn K mainGlobals "NoCount" = some (some (.ref CN))) (q3 : PySem.W.nsIn K mainGlobals "NoBack" = some (some (.ref c_NoBack))) (q4 : PySem.W.nsIn K mainGlobals "NoHoles" = some (some (.ref c_NoHoles))) (q5 : PySem.W.nsIn K mainGlobals "NoLine" = some (some (.ref c_NoLine))) (q6 : PySem.W.nsIn K mainGlobals "NoName" = some (some (.ref c_NoName))) (q7 : PySem.W.nsIn K mainGlobals "NoSide" = some (some (.ref c_NoSide))) (q8 : PySem.W.nsIn K mainGlobals "NoText" = some (some (.ref c_NoText))) (q9 : PySem.W.nsIn K mainGlobals "NoValue" = some (some (.ref c_NoValue))) (q10 : PySem.W.nsIn K mainGlobals "NoWord" = some (some (.ref c_NoWord)))
    (xE : PySem.W.excIn K NE bmV "ValueError.__new__" = true) (xC : PySem.W.excIn K CN bmV "ValueError.__new__" = true) (TX : KX K NE CN [c_NoBack, c_NoHoles, c_NoLine, c_NoName, c_NoSide, c_NoText, c_NoValue, c_NoWord]) :
    ∃ fd : FuncData, (∀ (s : Shared) (v : Value), BindsTo s fd ⟨[v], []⟩ [("_law_script", v)]) ∧ ∀ base : Heap, K.In base → base.Ns mainGlobals mg → FnOk l.prog w K mg base CX0 5 fa fd ["_law_script"] (spLaw K) := by
  have e := hfa.symm.trans (PySem.W.mg_of X G aL)
  cases e
  have FL := fun_mk (st := sLaw) lL cL kL
  have b1 := D1.fn.binds (ps := ["_law_cell"]) fun _ _ _ _ _ _ us hl => match us, hl with | [_], _ => rfl
  have b2 := D2.fn.binds (ps := ["_law_draws_here"]) fun _ _ _ _ _ _ us hl => match us, hl with | [_], _ => rfl
  have b3 := D3.fn.binds (ps := ["_law_draws_here", "_law_holes"]) fun _ _ _ _ _ _ us hl => match us, hl with | [_, _], _ => rfl
  have b4 := D4.fn.binds (ps := ["n", "k"]) fun _ _ _ _ _ _ us hl => match us, hl with | [_, _], _ => rfl
  have b5 := D5.fn.binds (ps := ["holes", "many", "number"]) fun _ _ _ _ _ _ us hl => match us, hl with | [_, _, _], _ => rfl
  have b6 := D6.fn.binds (ps := ["holes", "word"]) fun _ _ _ _ _ _ us hl => match us, hl with | [_, _], _ => rfl
  have b7 := D7.fn.binds (ps := []) fun _ _ _ _ _ _ us hl => match us, hl with | [], _ => rfl
  have b8 := D8.fn.binds (ps := ["_law_rows_here", "_law_n", "_law_k"]) fun _ _ _ _ _ _ us hl => match us, hl with | [_, _, _], _ => rfl
  have b9 := D9.fn.binds (ps := ["_law_rows_here", "_law_holes", "_law_word_here"]) fun _ _ _ _ _ _ us hl => match us, hl with | [_, _, _], _ => rfl
  have b10 := D10.fn.binds (ps := ["_law_holes", "_law_word_here"]) fun _ _ _ _ _ _ us hl => match us, hl with | [_, _], _ => rfl
  have b11 := D11.fn.binds (ps := ["_law_holes", "_law_many", "_law_number_here"]) fun _ _ _ _ _ _ us hl => match us, hl with | [_, _, _], _ => rfl
  have b12 := D12.fn.binds (ps := ["_law_rows_here", "_law_holes", "_law_word_here"]) fun _ _ _ _ _ _ us hl => match us, hl with | [_, _, _], _ => rfl
  have m1 := PySem.W.mg_of X G D1.nm
  have m2 := PySem.W.mg_of X G D2.nm
  have m3 := PySem.W.mg_of X G D3.nm
  have m4 := PySem.W.mg_of X G D4.nm
  have m5 := PySem.W.mg_of X G D5.nm
  have m6 := PySem.W.mg_of X G D6.nm
  have m7 := PySem.W.mg_of X G D7.nm
  have m8 := PySem.W.mg_of X G D8.nm
  have m9 := PySem.W.mg_of X G D9.nm
  have m10 := PySem.W.mg_of X G D10.nm
  have m11 := PySem.W.mg_of X G D11.nm
  have m12 := PySem.W.mg_of X G D12.nm
  have y1 := PySem.W.mg_none_of X G z1
  have y2 := PySem.W.mg_none_of X G z2
  have y3 := PySem.W.mg_none_of X G z3
  have y4 := PySem.W.mg_none_of X G z4
  have y5 := PySem.W.mg_none_of X G z5
  have y6 := PySem.W.mg_none_of X G z6
  have y7 := PySem.W.mg_none_of X G z7
  have y8 := PySem.W.mg_none_of X G z8
  have y9 := PySem.W.mg_none_of X G z9
  have y10 := PySem.W.mg_none_of X G z10
  have n1 := PySem.W.mg_of X G q1
  have n2 := PySem.W.mg_of X G q2
  have n3 := PySem.W.mg_of X G q3
  have n4 := PySem.W.mg_of X G q4
  have n5 := PySem.W.mg_of X G q5
  have n6 := PySem.W.mg_of X G q6
  have n7 := PySem.W.mg_of X G q7
  have n8 := PySem.W.mg_of X G q8
  have n9 := PySem.W.mg_of X G q9
  have n10 := PySem.W.mg_of X G q10
  refine ⟨PySem.W.fnOf "law" "law" (defArgs sLaw) (defBody sLaw) (defScope sLaw) .none kV dc pm an cd ct, fun s v => .of_eq rfl, fun base _ _ => ?_⟩
  have g1 := ok_draws (P := l.prog) (w := w) (mg := mg) (base := base) D1.fn 
  have g2 := ok_next (P := l.prog) (w := w) (mg := mg) (base := base) D2.fn 
  have g3 := ok_word (P := l.prog) (w := w) (mg := mg) (base := base) D3.fn g2 b2 D2.fn.kp m2 y1 y2
  have g4 := ok_choose (P := l.prog) (w := w) (mg := mg) (base := base) D4.fn y3 y1
  have g5 := ok_word_at (P := l.prog) (w := w) (mg := mg) (base := base) D5.fn g4 b4 D4.fn.kp m4 y4 n2 xC
  have g6 := ok_number_of (P := l.prog) (w := w) (mg := mg) (base := base) D6.fn g4 b4 D4.fn.kp m4 y5 y4
  have g7 := ok_lrows (P := l.prog) (w := w) (mg := mg) (base := base) D7.fn y4 y1
  have g8 := ok_lchoose (P := l.prog) (w := w) (mg := mg) (base := base) D8.fn y3
  have g9 := ok_lnumber (P := l.prog) (w := w) (mg := mg) (base := base) D9.fn g8 b8 D8.fn.kp m8 y5 y4 y1
  have g10 := ok_lnext_word (P := l.prog) (w := w) (mg := mg) (base := base) D10.fn y4 y6 y1 y2
  have g11 := ok_lrefused (P := l.prog) (w := w) (mg := mg) (base := base) D11.fn g5 b5 D5.fn.kp m5 y7 y8 n2 n1 xE n3 n4 n5 n6 n7 n8 n9 n10 TX
  have g12 := ok_lright (P := l.prog) (w := w) (mg := mg) (base := base) D12.fn g4 b4 D4.fn.kp m4 g6 b6 D6.fn.kp m6 g5 b5 D5.fn.kp m5 g9 b9 D9.fn.kp m9 g10 b10 D10.fn.kp m10 g11 b11 D11.fn.kp m11 y9 y10 y8 y4
  exact ok_law FL g6 b6 D6.fn.kp m6 g5 b5 D5.fn.kp m5 g1 b1 D1.fn.kp m1 g2 b2 D2.fn.kp m2 g3 b3 D3.fn.kp m3 g7 b7 D7.fn.kp m7 g8 b8 D8.fn.kp m8 g11 b11 D11.fn.kp m11 g12 b12 D12.fn.kp m12 y9 y8 y4 y1 y2
theorem walk {l : PySem.W.OpenLaw} {q : Program} {loose : List Str} {XP : (Str → Option Value) → Heap → Prop} {YP : World → Heap → Prop} {d : DefRec} {K : Params → PySem.W.Frag} (hn : l.most = some 63) (hdf : d.params.defaults = [])
    (hY : ∀ (w : World) (h : Heap), YP w h → (K w.params).In h)
    (F : ∀ (w : World) (mg : Str → Option Value) (fa : Addr) (h : Heap), (K w.params).In h → h.Ns mainGlobals mg → mg d.name = some (.ref fa) →
      ∃ fd : FuncData, (∀ (s : Shared) (u : Value), BindsTo s fd ⟨[u], []⟩ [("_law_script", u)]) ∧ ∀ base : Heap, (K w.params).In base → base.Ns mainGlobals mg → FnOk l.prog w (K w.params) mg base CX0 5 fa fd ["_law_script"] (spLaw (K w.params))) :
    PySem.W.WalkO q loose XP YP l.row.toRowW d [] (fun f vs => PySem.call f vs) :=
  L2.walk_of (n := 63) (k := 5) (x := "_law_script") (CX := fun _ => CX0) (sp := fun w => spLaw (K w.params)) hn (by decide) hdf ⟨rfl, by decide, by decide, rfl⟩ hY F (fun _ _ a ns hl _ hS => ⟨a, ns, rfl, hS, hl, fun _ => rfl⟩) fun _ _ _ _ _ z => z
end K13
open PySem PySem.W PyProof.Rows
set_option maxRecDepth 100000 in
set_option maxHeartbeats 0 in
theorem PySem.Challenge.cw_needledeck_k13_numbers_of_words_holds : PySem.Challenge.rw_needledeck_k13_numbers_of_words.Holds := by
  w_on; o_law; k_head; (case hw => w_witness2)
  k_fill
  refine K13.walk (l := PySem.Challenge.rw_needledeck_k13_numbers_of_words) rfl rfl (fun w h Y => PySem.W.kIn_of Y) ?F
  case F =>
    intro w mg fa h KX G hmg
    refine' K13.all_mk KX G hmg (K13.def_mk ?a1 ?l1 ?c1 ?k1) (K13.def_mk ?a2 ?l2 ?c2 ?k2) (K13.def_mk ?a3 ?l3 ?c3 ?k3) (K13.def_mk ?a4 ?l4 ?c4 ?k4) (K13.def_mk ?a5 ?l5 ?c5 ?k5) (K13.def_mk ?a6 ?l6 ?c6 ?k6) (K13.def_mk ?a7 ?l7 ?c7 ?k7) (K13.def_mk ?a8 ?l8 ?c8 ?k8) (K13.def_mk ?a9 ?l9 ?c9 ?k9) (K13.def_mk ?a10 ?l10 ?c10 ?k10) (K13.def_mk ?a11 ?l11 ?c11 ?k11) (K13.def_mk ?a12 ?l12 ?c12 ?k12) ?aL ?lL ?cL ?kL ?z1 ?z2 ?z3 ?z4 ?z5 ?z6 ?z7 ?z8 ?z9 ?z10 ?q1 ?q2 ?q3 ?q4 ?q5 ?q6 ?q7 ?q8 ?q9 ?q10 ?xE ?xC ⟨⟨K13.cls_ok ?e1, ?e2, ?e3, ?e4, ?e5, ?e6⟩, Nd.kit_ty (by decide +kernel) ?xv, K13.oths ⟨K13.cls_ok ?oc1, ?ot1, ?os1, ?on1⟩ ⟨K13.cls_ok ?oc2, ?ot2, ?os2, ?on2⟩ ⟨K13.cls_ok ?oc3, ?ot3, ?os3, ?on3⟩ ⟨K13.cls_ok ?oc4, ?ot4, ?os4, ?on4⟩ ⟨K13.cls_ok ?oc5, ?ot5, ?os5, ?on5⟩ ⟨K13.cls_ok ?oc6, ?ot6, ?os6, ?on6⟩ ⟨K13.cls_ok ?oc7, ?ot7, ?os7, ?on7⟩ ⟨K13.cls_ok ?oc8, ?ot8, ?os8, ?on8⟩, Nd.kit_self, ?xb⟩
    (case a1 => k_is); (case l1 => k_is); (case c1 => k_is); (case k1 => k_is)
    (case a2 => k_is); (case l2 => k_is); (case c2 => k_is); (case k2 => k_is)
    (case a3 => k_is); (case l3 => k_is); (case c3 => k_is); (case k3 => k_is)
    (case a4 => k_is); (case l4 => k_is); (case c4 => k_is); (case k4 => k_is)
    (case a5 => k_is); (case l5 => k_is); (case c5 => k_is); (case k5 => k_is)
    (case a6 => k_is); (case l6 => k_is); (case c6 => k_is); (case k6 => k_is)
    (case a7 => k_is); (case l7 => k_is); (case c7 => k_is); (case k7 => k_is)
    (case a8 => k_is); (case l8 => k_is); (case c8 => k_is); (case k8 => k_is)
    (case a9 => k_is); (case l9 => k_is); (case c9 => k_is); (case k9 => k_is)
    (case a10 => k_is); (case l10 => k_is); (case c10 => k_is); (case k10 => k_is)
    (case a11 => k_is); (case l11 => k_is); (case c11 => k_is); (case k11 => k_is)
    (case a12 => k_is); (case l12 => k_is); (case c12 => k_is); (case k12 => k_is)
    (case aL => k_is); (case lL => k_is); (case cL => k_is); (case kL => k_is)
    (case z1 => k_is); (case z2 => k_is); (case z3 => k_is); (case z4 => k_is); (case z5 => k_is); (case z6 => k_is); (case z7 => k_is); (case z8 => k_is); (case z9 => k_is); (case z10 => k_is)
    (case q1 => k_is); (case q2 => k_is); (case q3 => k_is); (case q4 => k_is); (case q5 => k_is); (case q6 => k_is); (case q7 => k_is); (case q8 => k_is); (case q9 => k_is); (case q10 => k_is)
    (case xE => k_exc); (case xC => k_exc)
    (case e1 => k_is); (case e2 => k_is); (case e3 => k_is); (case e4 => k_is); (case e5 => k_is); (case e6 => k_is); (case xv => k_is); (case xb => k_is)
    (case oc1 => k_is); (case ot1 => k_is); (case os1 => k_is); (case on1 => decide)
    (case oc2 => k_is); (case ot2 => k_is); (case os2 => k_is); (case on2 => decide)
    (case oc3 => k_is); (case ot3 => k_is); (case os3 => k_is); (case on3 => decide)
    (case oc4 => k_is); (case ot4 => k_is); (case os4 => k_is); (case on4 => decide)
    (case oc5 => k_is); (case ot5 => k_is); (case os5 => k_is); (case on5 => decide)
    (case oc6 => k_is); (case ot6 => k_is); (case os6 => k_is); (case on6 => decide)
    (case oc7 => k_is); (case ot7 => k_is); (case os7 => k_is); (case on7 => decide)
    (case oc8 => k_is); (case ot8 => k_is); (case os8 => k_is); (case on8 => decide)
