import PyProof.Rows.All
import Wide.All
import OpenK.AllK
import Wide.FinOn
import Lean
import PyProof.EqAt
import PyProof.EqKinds
import PyProof.TupleCall
import PyProof.FactsAll.set
import PyProof.FactsAll.subtypes
import PySem.Challenge.RW_needledeck_k01_words_looked_at
set_option Elab.async false
set_option linter.all false
set_option maxRecDepth 100000
set_option maxHeartbeats 4000000
namespace L2
open PySem PySem.Spec PyProof.Rows
abbrev Key := Sum Int Str
def keyIs : Key → Value → Bool
  | .inl k, v => Value.isInt k v
  | .inr x, v => Value.isStrOf x v
def keyH (w : World) : Key → Int
  | .inl k => hashInt k
  | .inr x => hashStr w x
theorem keyIs_shape : ∀ {k : Key} {v : Value}, keyIs k v = true → (∃ i t, k = Sum.inl i ∧ v = Value.int i t) ∨ (∃ x t, k = Sum.inr x ∧ v = Value.str x t)
  | .inl i, v, h => by
    obtain ⟨t, e⟩ := Value.isInt_shape (k := i) (v := v) h
    exact .inl ⟨i, t, rfl, e⟩
  | .inr x, v, h => by
    obtain ⟨t, e⟩ := Value.isStrOf_shape (x := x) (v := v) h
    exact .inr ⟨x, t, rfl, e⟩
theorem key_ll (a b : Int) : decide ((Sum.inl a : Key) = Sum.inl b) = (a == b) := by
  by_cases e : a = b
  · subst e; simp
  · have h : ¬ (Sum.inl a : Key) = Sum.inl b := fun q => e (Sum.inl.inj q)
    rw [decide_eq_false h]
    exact (beq_eq_false_iff_ne.mpr e).symm
theorem key_rr (a b : Str) : decide ((Sum.inr a : Key) = Sum.inr b) = decide (a = b) := by
  by_cases e : a = b
  · subst e; simp
  · have h : ¬ (Sum.inr a : Key) = Sum.inr b := fun q => e (Sum.inr.inj q)
    rw [decide_eq_false h, decide_eq_false e]
theorem key_lr (a : Int) (b : Str) : decide ((Sum.inl a : Key) = Sum.inr b) = false := decide_eq_false (fun q => nomatch q)
theorem key_rl (a : Str) (b : Int) : decide ((Sum.inr a : Key) = Sum.inl b) = false := decide_eq_false (fun q => nomatch q)
def mixKind (prog : Program) (w : World) : PySem.KeyKind prog w Key where
  is := keyIs
  hash := keyH w
  inj := fun v a b ha hb => by
    rcases keyIs_shape ha with ⟨i, t, rfl, rfl⟩ | ⟨x, t, rfl, rfl⟩
    · rcases keyIs_shape hb with ⟨j, u, rfl, e⟩ | ⟨y, u, rfl, e⟩
      · injection e with e1 _; rw [e1]
      · exact nomatch e
    · rcases keyIs_shape hb with ⟨j, u, rfl, e⟩ | ⟨y, u, rfl, e⟩
      · exact nomatch e
      · injection e with e1 _; rw [e1]
  byValue := fun k v h => by
    rcases keyIs_shape h with ⟨i, t, rfl, rfl⟩ | ⟨x, t, rfl, rfl⟩ <;> rfl
  pyHash := fun hv h => by
    rcases keyIs_shape hv with ⟨i, t, rfl, rfl⟩ | ⟨x, t, rfl, rfl⟩
    · exact wpAny_pyHash_int h
    · exact wpAny_pyHash_str h
  eqBool := fun hu hv h => by
    rcases keyIs_shape hu with ⟨i, t, rfl, rfl⟩ | ⟨x, t, rfl, rfl⟩
    · rcases keyIs_shape hv with ⟨j, u, rfl, rfl⟩ | ⟨y, u, rfl, rfl⟩
      · rw [key_ll] at h; exact wpAny_eqBool_int h
      · rw [key_lr] at h; exact SeqAt.EqAt.int_str i t y u _ _ _ _ h
    · rcases keyIs_shape hv with ⟨j, u, rfl, rfl⟩ | ⟨y, u, rfl, rfl⟩
      · rw [key_rl] at h; exact SeqAt.EqAt.str_int x t j u _ _ _ _ h
      · rw [key_rr] at h; exact wpAny_eqBool_str h
  «strs» := fun k x t v h => by
    rcases keyIs_shape h with ⟨i, u, rfl, e⟩ | ⟨y, u, rfl, e⟩
    · exact nomatch e
    · injection e with e1 _
      subst e1
      cases v <;> rfl
end L2
namespace L2
open PySem PySem.Spec PyProof.Rows
inductive V where
  | non | bl (b : Bool) | int (i : Int) | str (x : Str) | byt (b : Array UInt8) | flt (b : UInt64) | ref (a : Addr) | ty (n : String)
  deriving DecidableEq
def RelV : V → Value → Prop
  | .non, u => u = Value.none
  | .bl b, u => u = Value.bool b
  | .int i, u => ∃ t, u = Value.int i t
  | .str x, u => ∃ t, u = Value.str x t
  | .byt b, u => ∃ t, u = Value.bytes b t
  | .flt b, u => ∃ t, u = Value.float b t
  | .ref a, u => u = Value.ref a
  | .ty n, u => u = Value.type n
abbrev Vals : List V → List Value → Prop := Paired RelV
theorem Vals.length {xs : List V} {us : List Value} (r : Vals xs us) : xs.length = us.length := Paired.length r
theorem Vals.get : ∀ {xs : List V} {us : List Value} {i : Nat} {x : V}, Vals xs us → xs[i]? = some x → ∃ u, us[i]? = some u ∧ RelV x u
  | _, _, _, _, .nil, e => by simp at e
  | _, _, 0, _, .cons r _, e => by simp at e; subst e; exact ⟨_, rfl, r⟩
  | _, _, i + 1, x, .cons _ t, e => by
    obtain ⟨u, h1, h2⟩ := Vals.get (i := i) (x := x) t (by simpa using e)
    exact ⟨u, by simpa using h1, h2⟩
theorem Vals.set {x : V} {u : Value} (r : RelV x u) : ∀ {xs : List V} {us : List Value} (i : Nat), Vals xs us → Vals (xs.set i x) (us.set i u)
  | _, _, _, .nil => .nil
  | _, _, 0, .cons _ t => .cons r t
  | _, _, i + 1, .cons q t => .cons q (Vals.set r i t)
theorem Vals.append : ∀ {xs ys : List V} {us ws : List Value}, Vals xs us → Vals ys ws → Vals (xs ++ ys) (us ++ ws)
  | _, _, _, _, .nil, s => s
  | _, _, _, _, .cons r t, s => .cons r (Vals.append t s)
theorem Vals.take : ∀ {xs : List V} {us : List Value} (n : Nat), Vals xs us → Vals (xs.take n) (us.take n)
  | _, _, 0, _ => .nil
  | _, _, _ + 1, .nil => .nil
  | _, _, n + 1, .cons r t => .cons r (Vals.take n t)
theorem Vals.drop : ∀ {xs : List V} {us : List Value} (n : Nat), Vals xs us → Vals (xs.drop n) (us.drop n)
  | _, _, 0, r => r
  | _, _, _ + 1, .nil => .nil
  | _, _, n + 1, .cons _ t => Vals.drop n t
def RelO : Option V → Option Value → Prop
  | some v, some u => RelV v u
  | none, none => True
  | _, _ => False
def KV {κ : Type} : List (κ × V) → List (κ × Value) → Prop := Paired fun (p : κ × V) (q : κ × Value) => p.1 = q.1 ∧ RelV p.2 q.2
def kV : Key → V
  | .inl i => .int i
  | .inr x => .str x
inductive HO where
  /-- a list -/
  | lst (xs : List V)
  /-- a tuple (never changes) -/
  | tup (xs : List V)
  /-- a dict whose keys are ints and texts; one whose keys are tuples of ints and texts (the empty one is both) -/
  | dK (kvs : List (Key × V)) | dT (kvs : List (List Key × V))
  /-- a set of ints: its members, its size -/
  | set (S : Int → Bool) (n : Nat)
  /-- an instance of the class at C, its dict at dx, its attributes -/
  | ins (C dx : Addr) (fs : List (Str × V))
  /-- the dict of the instance at x -/
  | own (x : Addr)
  /-- the dict of an exception -/
  | xd (fs : List (Str × V))
  /-- a bound method, f of x -/
  | met (f x : Addr)
  /-- a range object lo, lo + 1, .. below hi -/
  | rng (lo hi : Int)
  /-- a thing that is known to the object (the script; a dict while a loop walks it): read, never written while it is so -/
  | frz (o : Obj) (u : HO)
  /-- a code object's table -/
  | tbl (ps : Array Value)
  /-- any other thing, by what is true of its one object (a def of one's own: SetO a S n := HO.ext fun h => ..) -/
  | ext (φ : Heap → Prop)
abbrev Hp := Addr → Option HO
def upd (H : Hp) (a : Addr) (o : HO) : Hp := fun b => if b = a then some o else H b
theorem upd_same {H : Hp} {a : Addr} {o : HO} : upd H a o a = some o := by unfold upd; rw [if_pos rfl]
theorem upd_ne {H : Hp} {a b : Addr} {o : HO} (h : b ≠ a) : upd H a o b = H b := by unfold upd; rw [if_neg h]
theorem ne_of {H : Hp} {a b : Addr} {o u : HO} (h : H a = some o) (h' : H b = some u) (d : o ≠ u) : a ≠ b := by
  intro e; subst e; rw [h] at h'; exact d (Option.some.inj h')
theorem ne_of_none {H : Hp} {a b : Addr} {o : HO} (h : H a = some o) (h' : H b = none) : a ≠ b := by
  intro e; subst e; rw [h] at h'; cases h'
section
variable (P : Program) (w : World)
def ObjOk (H : Hp) (h : Heap) (a : Addr) : HO → Prop
  | .lst xs => xs.length ≤ sizeLine ∧ ∃ (its : List Value) (n : Nat), Vals xs its ∧ h.get? a = some { cls := .type "list", data := .seq its.toArray n }
  | .tup xs => xs.length ≤ sizeLine ∧ ∃ its : List Value, Vals xs its ∧ IsTup h a its.toArray
  | .dK kvs => kvs.length ≤ sizeLine ∧ (a == sysModules) = false ∧ ∃ vs, KV kvs vs ∧ h.DictOf (mixKind P w) a vs
  | .dT kvs => kvs.length ≤ sizeLine ∧ (a == sysModules) = false ∧ ∃ xs : List (List Key × Addr × Value),
      Paired (fun (p : List Key × V) (q : List Key × Addr × Value) => p.1 = q.1 ∧ H q.2.1 = some (.tup (p.1.map kV)) ∧ RelV p.2 q.2.2) kvs xs ∧
      ∃ o es ep, h.get? a = some o ∧ o.ExactDict ∧ o.data = .dict es ep ∧ es.toList = xs.map (entryOfKey (tupleKind (mixKind P w))) ∧ (xs.map (·.1)).Nodup
  | .set S n => h.SetOf (intKind P w) a S n
  | .ins C dx fs => H dx = some (.own a) ∧ fs.length ≤ 1000 ∧ dx ≠ a ∧ h.get? a = some (PySem.W.instObj C dx) ∧
      ∃ mA, h.Ns1 dx mA ∧ (∀ f, RelO (fs.lookup f) (mA f)) ∧ PySem.Within mA (fs.map (·.1))
  | .own _ => ∃ o, h.get? a = some o
  | .xd fs => ∃ mA, h.Ns1 a mA ∧ ∀ f, RelO (fs.lookup f) (mA f)
  | .rng lo hi => ∃ t u v, h.get? a = some { cls := .type "range", data := .fields #[.int lo t, .int hi u, .int 1 v] }
  | .frz o u => h.get? a = some o ∧ ObjOk H h a u
  | .tbl ps => h.get? a = some { cls := .none, data := .fields ps }
  | .met f x => h.get? a = some (PySem.W.methodObj (.ref f) (.ref x))
  | .ext φ => φ h ∧ (∃ o, h.get? a = some o) ∧ ∀ h1 h2 : Heap, φ h1 → (∀ o, h1.get? a = some o → h2.get? a = some o) → φ h2
def HOk (H : Hp) (h : Heap) : Prop := ∀ a o, H a = some o → ObjOk P w H h a o
end
section
variable {P : Program} {w : World} {H H' : Hp} {h h' : Heap} {a : Addr} {o : HO}
theorem ObjOk.lt (x : ObjOk P w H h a o) : a < h.objs.size := by
  cases o with
  | lst xs => obtain ⟨_, _, _, _, e⟩ := x; exact Heap.lt_size e
  | tup xs => obtain ⟨_, _, _, p⟩ := x; exact p.lt
  | dK kvs => obtain ⟨_, _, _, _, o, _, _, e, _⟩ := x; exact Heap.lt_size e
  | dT kvs => obtain ⟨_, _, _, _, o, _, _, e, _⟩ := x; exact Heap.lt_size e
  | set S n => obtain ⟨o, _, _, _, e, _⟩ := x; exact Heap.lt_size e
  | ins C dx fs => obtain ⟨_, _, _, e, _⟩ := x; exact Heap.lt_size e
  | own y => obtain ⟨_, e⟩ := x; exact Heap.lt_size e
  | xd fs => obtain ⟨_, ⟨_, _, _, e, _⟩, _⟩ := x; exact Heap.lt_size e
  | rng lo hi => obtain ⟨_, _, _, e⟩ := x; exact Heap.lt_size e
  | frz ob u => obtain ⟨e, _⟩ := x; exact Heap.lt_size e
  | tbl ps => exact Heap.lt_size (show h.get? a = some _ from x)
  | met f y => exact Heap.lt_size (show h.get? a = some _ from x)
  | ext φ => obtain ⟨_, ⟨_, e⟩, _⟩ := x; exact Heap.lt_size e
theorem Paired.mapP {α β : Type} {F G : α → β → Prop} : ∀ {l₁ : List α} {l₂ : List β}, Paired F l₁ l₂ → (∀ a b, F a b → G a b) → Paired G l₁ l₂
  | _, _, .nil, _ => .nil
  | _, _, .cons r t, f => .cons (f _ _ r) (Paired.mapP t f)
theorem ObjOk.stay (x : ObjOk P w H h a o) (k : ∀ b u, (b = a ∨ H b = some (.own a)) → h.get? b = some u → h'.get? b = some u)
    (ho : ∀ b, H b = some (.own a) → H' b = some (.own a)) (ht : ∀ b xs, H b = some (.tup xs) → H' b = some (.tup xs)) : ObjOk P w H' h' a o := by
  induction o with
  | lst xs => obtain ⟨z, its, n, r, e⟩ := x; exact ⟨z, its, n, r, k _ _ (.inl rfl) e⟩
  | tup xs => obtain ⟨z, its, r, ob, e, c⟩ := x; exact ⟨z, its, r, ob, k _ _ (.inl rfl) e, c⟩
  | dK kvs => obtain ⟨z, y, vs, r, ob, es, ep, e, c⟩ := x; exact ⟨z, y, vs, r, ob, es, ep, k _ _ (.inl rfl) e, c⟩
  | dT kvs =>
    obtain ⟨z, y, xs, r, ob, es, ep, e, c⟩ := x
    exact ⟨z, y, xs, Paired.mapP r fun p q z => ⟨z.1, ht _ _ z.2.1, z.2.2⟩, ob, es, ep, k _ _ (.inl rfl) e, c⟩
  | set S n => obtain ⟨ob, es, ep, t, e, c⟩ := x; exact ⟨ob, es, ep, t, k _ _ (.inl rfl) e, c⟩
  | ins C dx fs =>
    obtain ⟨d, z, ne, e, mA, ⟨od, es, ep, e2, c⟩, r⟩ := x
    exact ⟨ho _ d, z, ne, k _ _ (.inl rfl) e, mA, ⟨od, es, ep, k _ _ (.inr d) e2, c⟩, r⟩
  | own y => obtain ⟨ob, e⟩ := x; exact ⟨ob, k _ _ (.inl rfl) e⟩
  | xd fs => obtain ⟨mA, ⟨od, es, ep, e, c⟩, r⟩ := x; exact ⟨mA, ⟨od, es, ep, k _ _ (.inl rfl) e, c⟩, r⟩
  | rng lo hi => obtain ⟨t, u, v, e⟩ := x; exact ⟨t, u, v, k _ _ (.inl rfl) e⟩
  | frz ob u ih => obtain ⟨e, q⟩ := x; exact ⟨k _ _ (.inl rfl) e, ih q⟩
  | tbl ps =>
    have e : h.get? a = some { cls := .none, data := .fields ps } := x
    show h'.get? a = some { cls := .none, data := .fields ps }
    exact k a _ (.inl rfl) e
  | met f y =>
    have e : h.get? a = some (PySem.W.methodObj (.ref f) (.ref y)) := x
    show h'.get? a = some (PySem.W.methodObj (.ref f) (.ref y))
    exact k a _ (.inl rfl) e
  | ext φ => obtain ⟨p, ⟨o, e⟩, st⟩ := x; exact ⟨st _ _ p fun o q => k _ _ (.inl rfl) q, ⟨o, k _ _ (.inl rfl) e⟩, st⟩
theorem HOk.lt (x : HOk P w H h) (e : H a = some o) : a < h.objs.size := (x a o e).lt
theorem HOk.fresh (x : HOk P w H h) (e : h.objs.size ≤ a) : H a = none := by
  cases q : H a with
  | none => rfl
  | some u => exact absurd (Nat.lt_of_lt_of_le (x.lt q) e) (Nat.lt_irrefl _)
theorem HOk.kept (x : HOk P w H h) (k : ∀ b u, h.get? b = some u → h'.get? b = some u) : HOk P w H h' := fun a o e =>
  (x a o e).stay (fun b u _ q => k b u q) (fun _ q => q) fun _ _ q => q
theorem HOk.laid (x : HOk P w H h) (k : ∀ b u, h.get? b = some u → h'.get? b = some u) (hp : h.objs.size ≤ a) (new : ObjOk P w (upd H a o) h' a o) : HOk P w (upd H a o) h' := fun b u e => by
  have hn := x.fresh hp
  by_cases hb : b = a
  · subst hb; rw [upd_same] at e; cases e; exact new
  · rw [upd_ne hb] at e
    exact (x b u e).stay (fun c v _ q => k c v q) (fun c q => by rw [upd_ne (ne_of_none q hn)]; exact q) fun c xs q => by rw [upd_ne (ne_of_none q hn)]; exact q
end
def Rd (H : Hp) (a : Addr) (u : HO) : Prop := H a = some u ∨ ∃ o, H a = some (.frz o u)
theorem Rd.of {H : Hp} {a : Addr} {u : HO} (h : H a = some u) : Rd H a u := .inl h
theorem Rd.ok {P : Program} {w : World} {H : Hp} {h : Heap} {a : Addr} {u : HO} (r : Rd H a u) (x : HOk P w H h) : ObjOk P w H h a u := by
  rcases r with r | ⟨o, r⟩
  · exact x a u r
  · obtain ⟨_, q⟩ := x a _ r
    exact q
def Mut : Option HO → Prop
  | some (.lst _) => True
  | some (.dK _) => True
  | some (.dT _) => True
  | some (.set _ _) => True
  | some (.ins _ _ _) => True
  | some (.ext _) => True
  | _ => False
section
variable {P : Program} {w : World} {H : Hp} {h h' : Heap} {x e : Addr} {o' : HO}
theorem HOk.write (ok : HOk P w H h) (mu : Mut (H x)) (he : e = x ∨ H e = some (.own x)) (k : ∀ b u, b ≠ e → h.get? b = some u → h'.get? b = some u) (heo : ∃ u, h'.get? e = some u)
    (new : ObjOk P w (upd H x o') h' x o') : HOk P w (upd H x o') h' := fun b u q => by
  have nown : ∀ c y, H c = some (.own y) → c ≠ x := fun c y r z => by subst z; rw [r] at mu; exact mu
  have ntup : ∀ c xs, H c = some (.tup xs) → c ≠ x := fun c xs r z => by subst z; rw [r] at mu; exact mu
  by_cases hb : b = x
  · subst hb; rw [upd_same] at q; cases q; exact new
  · rw [upd_ne hb] at q
    by_cases hbe : b = e
    · have q' : H b = some (.own x) := by
        rcases he with z | z
        · exact absurd (hbe.trans z) hb
        · rw [hbe]; exact z
      rw [q] at q'; cases q'
      obtain ⟨v, hv⟩ := heo
      exact ⟨v, by rw [hbe]; exact hv⟩
    · refine (ok b u q).stay (fun c v hc r => k c v ?_ r) (fun c r => by rw [upd_ne (nown c b r)]; exact r) fun c xs r => by rw [upd_ne (ntup c xs r)]; exact r
      rcases hc with rfl | hc
      · exact hbe
      · rintro rfl
        rcases he with z | z
        · exact nown c b hc z
        · rw [hc] at z; cases z; exact hb rfl
end
structure Un (fs ex : List Addr) (H H' : Hp) (h h' : Heap) : Prop where
  keep : ∀ b o, h.get? b = some o → H b = none → b ∉ fs → b ∉ ex → h'.get? b = some o
  slot : ∀ b o, h.get? b = some o → H b = none → b ∈ fs → b ∉ ex → ∃ sl, h'.get? b = some { o with slots := sl }
  free : ∀ b o, h.get? b = some o → H b = none → b ∉ ex → H' b = none
  there : ∀ b o, h.get? b = some o → b ∉ ex → ∃ o', h'.get? b = some o'
  tups : ∀ b xs, H b = some (.tup xs) → H' b = some (.tup xs)
  frzs : ∀ b o u, H b = some (.frz o u) → H' b = some (.frz o u)
  tbls : ∀ b ps, H b = some (.tbl ps) → ∃ more, H' b = some (.tbl (ps ++ more))
section
variable {fs fs' ex ex' : List Addr} {H H1 H2 : Hp} {h h1 h2 h' : Heap} {a x e : Addr} {o : HO}
theorem Un.any (u : Un fs ex H H1 h h1) {b : Addr} {ob : Obj} (q : h.get? b = some ob) (n : H b = none) (hx : b ∉ ex) : ∃ sl, h1.get? b = some { ob with slots := sl } := by
  by_cases hb : b ∈ fs
  · exact u.slot b ob q n hb hx
  · exact ⟨ob.slots, u.keep b ob q n hb hx⟩
theorem Un.trans (a : Un fs ex H H1 h h1) (b : Un fs ex H1 H2 h1 h2) : Un fs ex H H2 h h2 where
  keep := fun c ob q n hc hx => b.keep c ob (a.keep c ob q n hc hx) (a.free c ob q n hx) hc hx
  slot := fun c ob q n hc hx => by
    obtain ⟨sl, e1⟩ := a.slot c ob q n hc hx
    obtain ⟨sl', e2⟩ := b.slot c _ e1 (a.free c ob q n hx) hc hx
    exact ⟨sl', e2⟩
  free := fun c ob q n hx => by
    obtain ⟨o', e1⟩ := a.there c ob q hx
    exact b.free c o' e1 (a.free c ob q n hx) hx
  there := fun c ob q hx => by
    obtain ⟨o', e1⟩ := a.there c ob q hx
    exact b.there c o' e1 hx
  tups := fun c xs q => b.tups c xs (a.tups c xs q)
  frzs := fun c ob xs q => b.frzs c ob xs (a.frzs c ob xs q)
  tbls := fun c ps q => by
    obtain ⟨m1, e1⟩ := a.tbls c ps q
    obtain ⟨m2, e2⟩ := b.tbls c _ e1
    exact ⟨m1 ++ m2, by rw [e2, Array.append_assoc]⟩
theorem Un.kept (k : ∀ b u, h.get? b = some u → h'.get? b = some u) : Un fs ex H H h h' :=
  ⟨fun b ob q _ _ _ => k b ob q, fun b ob q _ _ _ => ⟨ob.slots, k b ob q⟩, fun _ _ _ n _ => n, fun b ob q _ => ⟨ob, k b ob q⟩, fun _ _ q => q, fun _ _ _ q => q, fun _ ps q => ⟨#[], by rw [q]; simp⟩⟩
theorem Un.refl : Un fs ex H H h h := Un.kept fun _ _ q => q
theorem Un.laid (k : ∀ b u, h.get? b = some u → h'.get? b = some u) (hp : h.objs.size ≤ a) (hn : H a = none) : Un fs ex H (upd H a o) h h' where
  keep := fun b u q _ _ _ => k b u q
  slot := fun b u q _ _ _ => ⟨u.slots, k b u q⟩
  free := fun b u q n _ => by rw [upd_ne (Nat.ne_of_lt (Nat.lt_of_lt_of_le (Heap.lt_size q) hp))]; exact n
  there := fun b u q _ => ⟨u, k b u q⟩
  tups := fun b xs q => by rw [upd_ne (ne_of_none q hn)]; exact q
  frzs := fun b u xs q => by rw [upd_ne (ne_of_none q hn)]; exact q
  tbls := fun b ps q => ⟨#[], by rw [upd_ne (ne_of_none q hn), q]; simp⟩
theorem Un.write (mu : Mut (H x)) (he : e = x ∨ H e = some (.own x)) (k : ∀ b u, b ≠ e → h.get? b = some u → h'.get? b = some u) (heo : ∃ u, h'.get? e = some u) : Un fs ex H (upd H x o) h h' := by
  have hx : ∀ b, H b = none → b ≠ x := fun b n z => by subst z; rw [n] at mu; exact mu
  have hb : ∀ b, H b = none → b ≠ e := fun b n z => by
    subst z
    rcases he with r | r
    · exact hx b n r
    · rw [n] at r; cases r
  have hm : ∀ b u, H b = some u → ¬ Mut (some u) → b ≠ x := fun b u q nm z => by subst z; rw [q] at mu; exact nm mu
  refine ⟨fun b u q n _ _ => k b u (hb b n) q, fun b u q n _ _ => ⟨u.slots, k b u (hb b n) q⟩, fun b u q n _ => by rw [upd_ne (hx b n)]; exact n, fun b u q _ => ?_,
    fun b xs q => by rw [upd_ne (hm b _ q fun z => z)]; exact q, fun b u xs q => by rw [upd_ne (hm b _ q fun z => z)]; exact q, fun b ps q => ⟨#[], by rw [upd_ne (hm b _ q fun z => z), q]; simp⟩⟩
  by_cases hbe : b = e
  · subst hbe; exact heo
  · exact ⟨u, k b u hbe q⟩
theorem Un.mono (u : Un fs ex H H1 h h1) (hs : ∀ b ∈ fs, b ∈ fs') (hx : ∀ b ∈ ex, b ∈ ex') : Un fs' ex' H H1 h h1 :=
  ⟨fun b ob q n hb he => u.keep b ob q n (fun z => hb (hs b z)) fun z => he (hx b z), fun _ _ q n _ he => u.any q n fun z => he (hx _ z), fun b ob q n he => u.free b ob q n fun z => he (hx b z), fun b ob q he => u.there b ob q fun z => he (hx b z), u.tups, u.frzs, u.tbls⟩
end
def trk (h : Heap) (H : Hp) : List Addr := (List.range h.objs.size).filter fun a => (H a).isSome
def hidT (h : Heap) (H : Hp) : Heap := PySem.W.hideAll h (trk h H)
theorem hidT_size (h : Heap) (H : Hp) : (hidT h H).objs.size = h.objs.size := PySem.W.hideAll_size _ _
theorem hidT_get {h : Heap} {H : Hp} {b : Addr} {o : Obj} (e : h.get? b = some o) (n : H b = none) : (hidT h H).get? b = some o :=
  PySem.W.hideAll_get _ e fun hm => by
    have q : (H b).isSome = true := (List.mem_filter.mp hm).2
    rw [n] at q; simp at q
theorem of_hidT {h : Heap} {H : Hp} {b : Addr} {o : Obj} (e : (hidT h H).get? b = some o) : h.get? b = some o ∧ H b = none := by
  have e' : h.get? b = some o := PySem.W.of_hideAll (trk h H) e
  refine ⟨e', ?_⟩
  cases q : H b with
  | none => rfl
  | some x =>
    have hm : b ∈ trk h H := List.mem_filter.mpr ⟨List.mem_range.mpr (Heap.lt_size e'), by simp [q]⟩
    have z : (hidT h H).get? b = none := PySem.W.hideAll_none (trk h H) hm
    rw [z] at e; cases e
def allNews (g h : Heap) (L : Addr) : List (Addr × Obj) := (List.range h.objs.size).filterMap fun a => if a = L ∨ (g.get? a).isSome = true then none else (h.get? a).map fun o => (a, o)
def rest (g h : Heap) (L d : Addr) : List (Addr × Obj) := (allNews g h L).filter fun p => decide (p.1 ≠ d)
end L2
namespace L2
open PySem PySem.Spec PyProof.Rows
structure Mod (K : PySem.W.Frag) (mg : Str → Option Value) (base : Heap) : Prop where
  kin : K.In base
  glob : base.Ns mainGlobals mg
  blt : ∃ mb, base.Ns builtinsNs mb ∧ ∀ x : Str, x ≠ "__name__" → mb x = bootBuiltins x
  nolimit : base.NoLimit
structure Cx where
  prog : Program
  w : World
  K : PySem.W.Frag
  mg : Str → Option Value
  base : Heap
  A : Around
  N : List Str
  s₀ : Shared
  H₀ : Hp
  env : Env
  outer : List Env
  stack : List Env
  ex : List Addr
  fn : Str → Bool
  calm : Bool
  pn : List (Addr × Obj)
  xe : Value → Shared → Prop
def frs (l : List Env) : List Addr := l.filterMap (·.frame)
abbrev Cx.fs (X : Cx) : List Addr := frs X.outer
def Vis (sc : Scope) (x : Str) : Prop := sc.names.lookup x = some .local ∨ sc.names.lookup x = some .cell ∨ sc.names.lookup x = some .free
def Loc (sc : Scope) (x : Str) : Prop := sc.names.lookup x = some .local ∨ sc.names.lookup x = some .cell
def Look (env : Env) (h : Heap) (m : Str → Option Value) (x : Str) (u : Value) : Prop :=
  (env.kindOf x = some .local ∧ m x = some u) ∨ ((env.kindOf x = some .cell ∨ env.kindOf x = some .free) ∧ ∃ c, env.cells.lookup x = some c ∧ h.IsCell c (some u))
structure Cx.Ok (X : Cx) : Prop where
  mod : Mod X.K X.mg X.base
  kind : X.env.scope.kind = .function
  glob : X.env.globals = mainGlobals
  blt : X.env.builtins = builtinsNs
  above : X.s₀.heap.objs.size ≤ X.env.locals
  inj : ∀ x y c, X.env.cells.lookup x = some c → X.env.cells.lookup y = some c → x = y
  has : ∀ x, (X.env.kindOf x = some .cell ∨ X.env.kindOf x = some .free) → ∃ c, X.env.cells.lookup x = some c
  cab : ∀ x c, X.fn x = true → X.env.cells.lookup x = some c → X.s₀.heap.objs.size ≤ c
  hd : X.calm = true → X.A.handled = none
  frames : X.A.frames = some X.stack
  stk : X.stack = X.outer ∨ (X.stack = X.env :: X.outer ∧ X.env.frame = some X.env.locals)
  exf : ∀ b ∈ X.ex, b ≠ X.env.locals ∧ ∀ x c, X.env.cells.lookup x = some c → c ≠ b
  bs : ∀ b o, X.base.get? b = some o → X.s₀.heap.get? b = some o ∧ X.H₀ b = none
  bsz : X.base.objs.size ≤ X.s₀.heap.objs.size
  noex : ∀ b o, X.base.get? b = some o → b ∉ X.ex
  exfs : ∀ b ∈ X.ex, b ∉ X.fs
  funs : X.s₀.heap.FunFrames X.base X.outer
  frf : ∀ b ∈ X.fs, X.H₀ b = none
structure Inv (X : Cx) (pins : List (Addr × Obj)) (σ : List (Option V)) (H : Hp) (s : Shared) : Prop where
  ok : X.Ok
  os : s.os = X.s₀.os
  bare : AllBare s.gens
  base : Un X.fs X.ex X.H₀ H X.s₀.heap s.heap
  loc : ∃ m, s.heap.Ns X.env.locals m ∧ ∀ (i : Nat) (x : Str) (v : V), X.N[i]? = some x → σ[i]? = some (some v) → Vis X.env.scope x → ∃ u, RelV v u ∧ Look X.env s.heap m x u
  cell : ∀ x c, X.env.cells.lookup x = some c → ∃ v, s.heap.IsCell c v
  free : H X.env.locals = none
  freeC : ∀ x c, X.env.cells.lookup x = some c → H c = none
  pin : ∀ p ∈ X.pn ++ pins, s.heap.get? p.1 = some p.2 ∧ H p.1 = none ∧ p.1 ≠ X.env.locals ∧ p.1 ∉ X.fs ∧ ∀ v, p.2.data ≠ .cell v
  hok : HOk X.prog X.w H s.heap
  len : σ.length = X.N.length
section
variable {X : Cx} {pins : List (Addr × Obj)} {σ : List (Option V)} {H H' : Hp} {s : Shared} {h' : Heap}
theorem Cx.Ok.nofr (ok : X.Ok) {b : Addr} {o : Obj} (e : X.base.get? b = some o) : b ∉ X.fs := fun hb => by
  have := (ok.funs.mem hb).1
  rw [e] at this; cases this
theorem Inv.bs (I : Inv X pins σ H s) : ∀ b o, X.base.get? b = some o → s.heap.get? b = some o ∧ H b = none := fun b o e =>
  ⟨I.base.keep b o (I.ok.bs b o e).1 (I.ok.bs b o e).2 (I.ok.nofr e) (I.ok.noex b o e), I.base.free b o (I.ok.bs b o e).1 (I.ok.bs b o e).2 (I.ok.noex b o e)⟩
theorem Inv.bk (I : Inv X pins σ H s) : ∀ b o, X.base.get? b = some o → s.heap.get? b = some o := fun b o e => (I.bs b o e).1
theorem Inv.mod (I : Inv X pins σ H s) : Mod X.K X.mg X.base := I.ok.mod
theorem Inv.kIn (I : Inv X pins σ H s) : X.K.In s.heap := I.ok.mod.kin.keeps I.bk
theorem Inv.nolimit (I : Inv X pins σ H s) : s.heap.NoLimit := I.ok.mod.nolimit.keeps I.bk
theorem Inv.fr (I : Inv X pins σ H s) : ∃ m, Fr X.base X.env.locals s.heap m :=
  let ⟨m, hn, _⟩ := I.loc
  ⟨m, hn, I.bk, Nat.le_trans I.ok.bsz I.ok.above⟩
theorem Inv.lt (I : Inv X pins σ H s) : X.env.locals < s.heap.objs.size := let ⟨_, hn, _⟩ := I.loc; hn.lt
theorem Inv.sz (I : Inv X pins σ H s) : X.s₀.heap.objs.size ≤ s.heap.objs.size := Nat.le_trans I.ok.above (Nat.le_of_lt I.lt)
theorem Inv.nofs (I : Inv X pins σ H s) {a : Addr} (h : s.heap.objs.size ≤ a) : a ∉ X.fs := fun hb => by
  obtain ⟨_, o, ho, _⟩ := I.ok.funs.mem hb
  exact absurd (Nat.lt_of_lt_of_le (Heap.lt_size ho) (Nat.le_trans I.sz h)) (Nat.lt_irrefl _)
theorem Inv.cne (I : Inv X pins σ H s) : ∀ x c, X.env.cells.lookup x = some c → c ≠ X.env.locals := fun x c e z => by
  obtain ⟨v, o, ho, hd⟩ := I.cell x c e
  obtain ⟨m, ⟨o', es, ep, ho', hd', _⟩, _⟩ := I.loc
  rw [z, ho'] at ho; cases ho; rw [hd'] at hd; cases hd
theorem Inv.funs (I : Inv X pins σ H s) : s.heap.FunFrames X.base X.outer := by
  have all : ∀ (l : List Env), (∀ b ∈ frs l, b ∈ X.fs) → X.s₀.heap.FunFrames X.base l → s.heap.FunFrames X.base l := by
    intro l
    induction l with
    | nil => intro _ _; trivial
    | cons env r ih =>
      intro hs hl
      obtain ⟨hk, ⟨L, o, hf, hn, ho, hd⟩, hr⟩ := hl
      have hL : L ∈ X.fs := hs L (by unfold frs; rw [List.filterMap_cons, hf]; exact List.mem_cons_self)
      obtain ⟨sl, e⟩ := I.base.slot L o ho (I.ok.frf L hL) hL fun z => I.ok.exfs L z hL
      exact ⟨hk, ⟨L, _, hf, hn, e, hd⟩, ih (fun b hb => hs b (by unfold frs; rw [List.filterMap_cons, hf]; exact List.mem_cons_of_mem _ hb)) hr⟩
  exact all X.outer (fun _ hb => hb) I.ok.funs
theorem Inv.stack (I : Inv X pins σ H s) : s.heap.FunFrames X.base X.stack := by
  rcases I.ok.stk with e | ⟨e, hf⟩
  · rw [e]; exact I.funs
  · rw [e]
    obtain ⟨m, hn, _⟩ := I.loc
    refine .cons (by rw [I.ok.kind]; decide) hf hn ?_ I.funs
    exact Heap.get?_none_of_le (Nat.le_trans I.ok.bsz I.ok.above)
theorem Inv.stkSub (I : Inv X pins σ H s) : ∀ b ∈ frs X.stack, b ∈ X.env.locals :: X.fs := fun b hb => by
  rcases I.ok.stk with e | ⟨e, hf⟩
  · rw [e] at hb; exact List.mem_cons_of_mem _ hb
  · rw [e] at hb
    unfold frs at hb
    rw [List.filterMap_cons, hf] at hb
    exact hb
theorem Inv.stkFree (I : Inv X pins σ H s) : ∀ b ∈ frs X.stack, H b = none := fun b hb => by
  rcases List.mem_cons.mp (I.stkSub b hb) with e | hb
  · rw [e]; exact I.free
  · obtain ⟨_, o, ho, _⟩ := I.ok.funs.mem hb
    exact I.base.free b o ho (I.ok.frf b hb) fun z => I.ok.exfs b z hb
theorem Inv.step {g' : Array GenState} {t' : Nat} {d' : Drawn} {ch : List Addr} (I : Inv X pins σ H s)
    (hch : ∀ b ∈ ch, (b ∈ X.ex ∨ X.s₀.heap.objs.size ≤ b) ∧ b ≠ X.env.locals ∧ (∀ x c, X.env.cells.lookup x = some c → c ≠ b) ∧ ∀ p ∈ X.pn ++ pins, p.1 ≠ b)
    (keep : ∀ b o, b ≠ X.env.locals → b ∉ X.fs → b ∉ ch → s.heap.get? b = some o → H b = none → h'.get? b = some o)
    (slot : ∀ b o, b ≠ X.env.locals → b ∈ X.fs → b ∉ ch → s.heap.get? b = some o → H b = none → ∃ sl, h'.get? b = some { o with slots := sl }) (free : ∀ b o, b ∉ ch → s.heap.get? b = some o → H b = none → H' b = none)
    (there : ∀ b o, b ∉ ch → s.heap.get? b = some o → ∃ o', h'.get? b = some o')
    (tups : ∀ b xs, H b = some (.tup xs) → H' b = some (.tup xs)) (frzs : ∀ b o u, H b = some (.frz o u) → H' b = some (.frz o u)) (tbls : ∀ b ps, H b = some (.tbl ps) → ∃ more, H' b = some (.tbl (ps ++ more)))
    (ns : ∀ m, s.heap.Ns X.env.locals m → h'.Ns X.env.locals m) (hok : HOk X.prog X.w H' h') (hg : AllBare g') :
    Inv X pins σ H' { s with heap := h', gens := g', drawn := d', toks := t' } := by
  have neL : ∀ b o, X.s₀.heap.get? b = some o → b ≠ X.env.locals := fun b o e => Nat.ne_of_lt (Nat.lt_of_lt_of_le (Heap.lt_size e) I.ok.above)
  have neC : ∀ b o, X.s₀.heap.get? b = some o → b ∉ X.ex → b ∉ ch := fun b o e hx hb => by
    rcases (hch b hb).1 with z | z
    · exact hx z
    · exact absurd (Nat.lt_of_lt_of_le (Heap.lt_size e) z) (Nat.lt_irrefl _)
  have cellK : ∀ x c, X.env.cells.lookup x = some c → ∀ v, s.heap.IsCell c v → h'.IsCell c v := fun x c e v ⟨o, ho, hd⟩ => by
    have nch : c ∉ ch := fun z => (hch c z).2.2.1 x c e rfl
    by_cases hc : c ∈ X.fs
    · obtain ⟨sl, q⟩ := slot c o (I.cne x c e) hc nch ho (I.freeC x c e)
      exact ⟨_, q, hd⟩
    · exact ⟨o, keep c o (I.cne x c e) hc nch ho (I.freeC x c e), hd⟩
  refine ⟨I.ok, I.os, hg, ⟨fun b o e n hb hx => ?_, fun b o e n hb hx => ?_, fun b o e n hx => ?_, fun b o e hx => ?_, fun b xs e => tups b xs (I.base.tups b xs e), fun b o xs e => frzs b o xs (I.base.frzs b o xs e), fun b ps e => ?_⟩, ?_, fun x c e => ?_, ?_, fun x c e => ?_, fun p hp => ?_, hok, I.len⟩
  · exact keep b o (neL b o e) hb (neC b o e hx) (I.base.keep b o e n hb hx) (I.base.free b o e n hx)
  · obtain ⟨sl, e1⟩ := I.base.slot b o e n hb hx
    obtain ⟨sl', e2⟩ := slot b _ (neL b o e) hb (neC b o e hx) e1 (I.base.free b o e n hx)
    exact ⟨sl', e2⟩
  · obtain ⟨o', e1⟩ := I.base.there b o e hx
    exact free b o' (neC b o e hx) e1 (I.base.free b o e n hx)
  · obtain ⟨o', e1⟩ := I.base.there b o e hx
    exact there b o' (neC b o e hx) e1
  · obtain ⟨m1, e1⟩ := I.base.tbls b ps e
    obtain ⟨m2, e2⟩ := tbls b _ e1
    exact ⟨m1 ++ m2, by rw [e2, Array.append_assoc]⟩
  · obtain ⟨m, hn, hl⟩ := I.loc
    refine ⟨m, ns m hn, fun i x v e1 e2 e3 => ?_⟩
    obtain ⟨u, r, l⟩ := hl i x v e1 e2 e3
    refine ⟨u, r, ?_⟩
    rcases l with l | ⟨k, c, e, z⟩
    · exact .inl l
    · exact .inr ⟨k, c, e, cellK x c e _ z⟩
  · obtain ⟨v, z⟩ := I.cell x c e
    exact ⟨v, cellK x c e v z⟩
  · obtain ⟨m, ⟨o, _, _, ho, _⟩, _⟩ := I.loc
    exact free _ o (fun z => (hch _ z).2.1 rfl) ho I.free
  · obtain ⟨v, o, ho, hd⟩ := I.cell x c e
    exact free c o (fun z => (hch c z).2.2.1 x c e rfl) ho (I.freeC x c e)
  · obtain ⟨e, n, ne, nf, d⟩ := I.pin p hp
    have nch : p.1 ∉ ch := fun z => (hch p.1 z).2.2.2 p hp rfl
    exact ⟨keep p.1 p.2 ne nf nch e n, free p.1 p.2 nch e n, ne, nf, d⟩
theorem Inv.un {t' : Nat} (I : Inv X pins σ H s) (u : Un X.fs [] H H' s.heap h') (hok : HOk X.prog X.w H' h') : Inv X pins σ H' { s with heap := h', toks := t' } := by
  obtain ⟨m, ⟨o, es, ep, ho, r⟩, _⟩ := id I.loc
  obtain ⟨sl, hL⟩ := u.any ho I.free (by simp)
  exact I.step (g' := s.gens) (d' := s.drawn) (ch := []) (fun _ z => nomatch z) (fun b o _ hb _ e n => u.keep b o e n hb (by simp)) (fun b o _ hb _ e n => u.slot b o e n hb (by simp)) (fun b o _ e n => u.free b o e n (by simp)) (fun b o _ e => u.there b o e (by simp)) u.tups u.frzs u.tbls (fun m' hm => by
    obtain ⟨o', es', ep', ho', r'⟩ := hm
    rw [ho] at ho'; cases ho'
    exact ⟨_, es', ep', hL, r'⟩) hok I.bare
theorem Inv.call {g' : Array GenState} {t' : Nat} {d' : Drawn} {ch : List Addr} (I : Inv X pins σ H s) (u : Un (frs X.stack) ch H H' s.heap h') (hok : HOk X.prog X.w H' h') (hg : AllBare g')
    (hch : ∀ b ∈ ch, (b ∈ X.ex ∨ X.s₀.heap.objs.size ≤ b) ∧ b ≠ X.env.locals ∧ (∀ x c, X.env.cells.lookup x = some c → c ≠ b) ∧ ∀ p ∈ X.pn ++ pins, p.1 ≠ b) :
    Inv X pins σ H' { s with heap := h', gens := g', drawn := d', toks := t' } := by
  obtain ⟨m, ⟨o, es, ep, ho, r⟩, _⟩ := id I.loc
  obtain ⟨sl, hL⟩ := u.any ho I.free fun z => (hch _ z).2.1 rfl
  exact I.step (ch := ch) hch (fun b o hL hb hc e n => u.keep b o e n (fun z => (List.mem_cons.mp (I.stkSub b z)).elim hL hb) hc) (fun b o _ _ hc e n => u.any e n hc) (fun b o hc e n => u.free b o e n hc) (fun b o hc e => u.there b o e hc) u.tups u.frzs u.tbls (fun m' hm => by
    obtain ⟨o', es', ep', ho', r'⟩ := hm
    rw [ho] at ho'; cases ho'
    exact ⟨_, es', ep', hL, r'⟩) hok hg
theorem Inv.turned {t' : Nat} {it : Addr} (I : Inv X pins σ H s) (k : ∀ b o, b ≠ it → s.heap.get? b = some o → h'.get? b = some o) (hn : H it = none) (hL : it ≠ X.env.locals)
    (h1 : it ∈ X.ex ∨ X.s₀.heap.objs.size ≤ it) (h2 : ∀ x c, X.env.cells.lookup x = some c → c ≠ it) (h3 : ∀ p ∈ X.pn ++ pins, p.1 ≠ it) : Inv X pins σ H { s with heap := h', toks := t' } := by
  have nit : ∀ b u, H b = some u → b ≠ it := fun b u e z => by rw [z, hn] at e; cases e
  refine I.step (g' := s.gens) (d' := s.drawn) (ch := [it]) (fun b hb => ?_) (fun b o _ _ hc e _ => k b o (fun z => hc (by simp [z])) e) (fun b o _ _ hc e _ => ⟨o.slots, k b o (fun z => hc (by simp [z])) e⟩) (fun _ _ _ _ n => n)
    (fun b o hc e => ⟨o, k b o (fun z => hc (by simp [z])) e⟩) (fun _ _ e => e) (fun _ _ _ e => e) (fun b ps e => ⟨#[], by rw [e]; simp⟩) (fun m hm => ?_) (fun b u e => ?_) I.bare
  · have e : b = it := by simpa using hb
    subst e
    exact ⟨h1, hL, h2, h3⟩
  · obtain ⟨o, es, ep, ho, r⟩ := hm
    exact ⟨o, es, ep, k _ o (Ne.symm hL) ho, r⟩
  · refine (I.hok b u e).stay (fun c v hc q => k c v ?_ q) (fun _ q => q) fun _ _ q => q
    rcases hc with z | z
    · rw [z]; exact nit b u e
    · exact nit c _ z
theorem Inv.tok (I : Inv X pins σ H s) (t : Nat) : Inv X pins σ H { s with toks := t } := I.un (h' := s.heap) (t' := t) Un.refl I.hok
theorem Inv.kept {t' : Nat} (I : Inv X pins σ H s) (k : ∀ b u, s.heap.get? b = some u → h'.get? b = some u) : Inv X pins σ H { s with heap := h', toks := t' } := I.un (Un.kept k) (I.hok.kept k)
theorem Inv.laid {a : Addr} {o : HO} {t' : Nat} (I : Inv X pins σ H s) (k : ∀ b u, s.heap.get? b = some u → h'.get? b = some u) (hp : s.heap.objs.size ≤ a) (new : ObjOk X.prog X.w (upd H a o) h' a o) :
    Inv X pins σ (upd H a o) { s with heap := h', toks := t' } := I.un (Un.laid k hp (I.hok.fresh hp)) (I.hok.laid k hp new)
theorem Inv.write {x e : Addr} {o : HO} {t' : Nat} (I : Inv X pins σ H s) (mu : Mut (H x)) (he : e = x ∨ H e = some (.own x)) (k : ∀ b u, b ≠ e → s.heap.get? b = some u → h'.get? b = some u) (heo : ∃ u, h'.get? e = some u)
    (new : ObjOk X.prog X.w (upd H x o) h' x o) : Inv X pins σ (upd H x o) { s with heap := h', toks := t' } := I.un (Un.write mu he k heo) (I.hok.write mu he k heo new)
theorem Inv.pins_of {pins' : List (Addr × Obj)} (I : Inv X pins σ H s) (h : ∀ p ∈ pins', s.heap.get? p.1 = some p.2 ∧ H p.1 = none ∧ p.1 ≠ X.env.locals ∧ p.1 ∉ X.fs ∧ ∀ v, p.2.data ≠ .cell v) : Inv X pins' σ H s :=
  ⟨I.ok, I.os, I.bare, I.base, I.loc, I.cell, I.free, I.freeC, fun p hp => (List.mem_append.mp hp).elim (fun z => I.pin p (List.mem_append_left _ z)) (h p), I.hok, I.len⟩
theorem nodup_ix {N : List Str} (hN : N.Nodup) {i j : Nat} {x : Str} (a : N[i]? = some x) (b : N[j]? = some x) : i = j := by
  obtain ⟨h1, e1⟩ := List.getElem?_eq_some_iff.mp a
  obtain ⟨h2, e2⟩ := List.getElem?_eq_some_iff.mp b
  exact (List.getElem_inj hN).mp (e1.trans e2.symm)
theorem store_ok2 {M : Model} {A : Around} {E : Value → Shared → Prop} {i : Nat} {x : Str} {v : V} {u : Value} {Q : Unit → Shared → Prop} (I : Inv X pins σ H s) (hN : X.N.Nodup) (hi : X.N[i]? = some x) (hx : Loc X.env.scope x) (r : RelV v u)
    (h : ∀ s', Inv X pins (σ.set i (some v)) H s' → (∃ a, Heap.SameBut a s.heap s'.heap ∧ (a = X.env.locals ∨ X.env.cells.lookup x = some a)) → Q () s') (hf : X.fn x = true ∨ X.env.scope.names.lookup x = some .local := by first | exact .inl rfl | exact .inr rfl | assumption) : wpAny M A (storeName X.env x u) Q E s := by
  obtain ⟨m, hn, hl⟩ := id I.loc
  have hcls : (X.env.scope.kind == .class || (X.env.scope.kind == .module && X.env.locals != X.env.globals)) = false := by rw [I.ok.kind]; rfl
  have hiσ : i < σ.length := by rw [I.len]; exact (List.getElem?_eq_some_iff.mp hi).1
  have cne := I.cne
  have tracked : ∀ {a : Addr} {h' : Heap}, (∃ o, s.heap.get? a = some o ∧ H a = none) → Heap.SameBut a s.heap h' → HOk X.prog X.w H h' := fun {a h'} ha hs b ob e => by
    obtain ⟨_, _, hfree⟩ := ha
    refine (I.hok b ob e).stay (fun c w' hc q => (hs.2 c ?_).trans q) (fun _ q => q) fun _ _ q => q
    rintro rfl
    rcases hc with rfl | hc
    · rw [hfree] at e; cases e
    · rw [hfree] at hc; cases hc
  rcases hx with hk | hk
  · refine wpAny_storeName_local hk hn (fun h' hn' hs => ?_) hcls
    obtain ⟨oL, _, _, hoL, _⟩ := id hn
    refine h _ ⟨I.ok, I.os, I.bare, ⟨fun b o e n hb hx => ?_, fun b o e n hb hx => ?_, I.base.free, fun b o e hx => ?_, I.base.tups, I.base.frzs, I.base.tbls⟩, ⟨_, hn', fun j y v' e1 e2 e3 => ?_⟩, fun y c e => ?_, I.free, I.freeC, fun p hp => ?_, tracked ⟨oL, hoL, I.free⟩ hs, by simpa using I.len⟩ ⟨_, hs, .inl rfl⟩
    · exact (hs.2 b (Nat.ne_of_lt (Nat.lt_of_lt_of_le (Heap.lt_size e) I.ok.above))).trans (I.base.keep b o e n hb hx)
    · obtain ⟨sl, e1⟩ := I.base.slot b o e n hb hx
      exact ⟨sl, (hs.2 b (Nat.ne_of_lt (Nat.lt_of_lt_of_le (Heap.lt_size e) I.ok.above))).trans e1⟩
    · obtain ⟨o', e1⟩ := I.base.there b o e hx
      exact ⟨o', (hs.2 b (Nat.ne_of_lt (Nat.lt_of_lt_of_le (Heap.lt_size e) I.ok.above))).trans e1⟩
    · by_cases hj : j = i
      · subst hj
        rw [hi] at e1; cases e1
        rw [List.getElem?_set_self hiσ] at e2
        cases e2
        exact ⟨u, r, .inl ⟨hk, by simp⟩⟩
      · rw [List.getElem?_set_ne (Ne.symm hj)] at e2
        obtain ⟨u', r', q⟩ := hl j y v' e1 e2 e3
        refine ⟨u', r', ?_⟩
        rcases q with ⟨k, e⟩ | ⟨k, c, e, z⟩
        · refine .inl ⟨k, ?_⟩
          have : y ≠ x := fun e => hj (nodup_ix hN e1 (e ▸ hi))
          simp [this, e]
        · exact .inr ⟨k, c, e, z.sameBut hs (cne y c e)⟩
    · obtain ⟨w', z⟩ := I.cell y c e
      exact ⟨w', z.sameBut hs (cne y c e)⟩
    · obtain ⟨e, n, ne, nf, d⟩ := I.pin p hp
      exact ⟨(hs.2 p.1 ne).trans e, n, ne, nf, d⟩
  · have hfn : X.fn x = true := by
      rcases hf with z | z
      · exact z
      · rw [z] at hk; cases hk
    obtain ⟨c, hc⟩ := I.ok.has x (.inl hk)
    obtain ⟨w', z⟩ := I.cell x c hc
    refine wpAny_storeName_cell I.ok.kind hk hc z (fun h' hc' hs => ?_)
    obtain ⟨oc, hoc, hocd⟩ := id z
    refine h { s with heap := h' } ⟨I.ok, I.os, I.bare, ⟨fun b o e n hb hx => ?_, fun b o e n hb hx => ?_, I.base.free, fun b o e hx => ?_, I.base.tups, I.base.frzs, I.base.tbls⟩, ⟨m, hn.sameBut hs (Ne.symm (cne x c hc)), fun j y v' e1 e2 e3 => ?_⟩, fun y c' e => ?_, I.free, I.freeC, fun p hp => ?_, tracked ⟨oc, hoc, I.freeC x c hc⟩ hs, by simpa using I.len⟩ ⟨c, hs, .inr hc⟩
    · exact (hs.2 b (Nat.ne_of_lt (Nat.lt_of_lt_of_le (Heap.lt_size e) (I.ok.cab x c hfn hc)))).trans (I.base.keep b o e n hb hx)
    · obtain ⟨sl, e1⟩ := I.base.slot b o e n hb hx
      exact ⟨sl, (hs.2 b (Nat.ne_of_lt (Nat.lt_of_lt_of_le (Heap.lt_size e) (I.ok.cab x c hfn hc)))).trans e1⟩
    · obtain ⟨o', e1⟩ := I.base.there b o e hx
      exact ⟨o', (hs.2 b (Nat.ne_of_lt (Nat.lt_of_lt_of_le (Heap.lt_size e) (I.ok.cab x c hfn hc)))).trans e1⟩
    · by_cases hj : j = i
      · subst hj
        rw [hi] at e1; cases e1
        rw [List.getElem?_set_self hiσ] at e2
        cases e2
        exact ⟨u, r, .inr ⟨.inl hk, c, hc, hc'⟩⟩
      · rw [List.getElem?_set_ne (Ne.symm hj)] at e2
        obtain ⟨u', r', q⟩ := hl j y v' e1 e2 e3
        refine ⟨u', r', ?_⟩
        rcases q with q | ⟨k, c', e, z'⟩
        · exact .inl q
        · refine .inr ⟨k, c', e, z'.sameBut hs ?_⟩
          rintro rfl
          exact hj (nodup_ix hN e1 (I.ok.inj _ _ _ e hc ▸ hi))
    · by_cases hcc : c' = c
      · subst hcc; exact ⟨_, hc'⟩
      · obtain ⟨w2, z2⟩ := I.cell y c' e
        exact ⟨w2, z2.sameBut hs hcc⟩
    · obtain ⟨e, n, ne, nf, d⟩ := I.pin p hp
      refine ⟨(hs.2 p.1 ?_).trans e, n, ne, nf, d⟩
      intro q
      rw [q, hoc] at e
      have q' : oc = p.2 := Option.some.inj e
      exact d w' (by rw [← q']; exact hocd)
theorem store_ok {M : Model} {A : Around} {E : Value → Shared → Prop} {i : Nat} {x : Str} {v : V} {u : Value} {Q : Unit → Shared → Prop} (I : Inv X pins σ H s) (hN : X.N.Nodup) (hi : X.N[i]? = some x) (hx : Loc X.env.scope x) (r : RelV v u)
    (h : ∀ s', Inv X pins (σ.set i (some v)) H s' → Q () s') (hf : X.fn x = true ∨ X.env.scope.names.lookup x = some .local := by first | exact .inl rfl | exact .inr rfl | assumption) : wpAny M A (storeName X.env x u) Q E s :=
  store_ok2 I hN hi hx r (fun s' I' _ => h s' I') hf
theorem Inv.call' {s' : Shared} {ch : List Addr} (I : Inv X pins σ H s) (ho : s'.os = s.os) (u : Un (frs X.stack) ch H H' s.heap s'.heap) (hok : HOk X.prog X.w H' s'.heap) (hg : AllBare s'.gens)
    (hch : ∀ b ∈ ch, (b ∈ X.ex ∨ X.s₀.heap.objs.size ≤ b) ∧ b ≠ X.env.locals ∧ (∀ x c, X.env.cells.lookup x = some c → c ≠ b) ∧ ∀ p ∈ X.pn ++ pins, p.1 ≠ b) : Inv X pins σ H' s' := by
  obtain ⟨h', g', d', t', o'⟩ := s'
  have e : o' = s.os := ho
  subst e
  exact I.call (g' := g') (t' := t') (d' := d') u hok hg hch
end
abbrev XK := Value → Option Addr → Hp → Prop
abbrev St := List (Option V)
abbrev VK := V → Hp → Prop
abbrev TE := St → Hp → VK → Prop
abbrev TT := St → Hp → (Bool → Hp → Prop) → Prop
abbrev TA := St → Hp → (List V → Hp → Prop) → Prop
structure Ends where
  nx : St → Hp → Prop
  rt : VK
  bk : St → Hp → Prop := fun _ _ => False
  ct : St → Hp → Prop := fun _ _ => False
abbrev TS := Ends → St → Hp → Prop
def EP (X : Cx) (pins : List (Addr × Obj)) (σ : St) (Q : VK) (u : Value) (s' : Shared) : Prop := ∃ v H', Inv X pins σ H' s' ∧ RelV v u ∧ Q v H'
def TP (X : Cx) (pins : List (Addr × Obj)) (σ : St) (Q : Bool → Hp → Prop) (b : Bool) (s' : Shared) : Prop := ∃ H', Inv X pins σ H' s' ∧ Q b H'
def AP (X : Cx) (pins : List (Addr × Obj)) (σ : St) (Q : List V → Hp → Prop) (us : List Value) (s' : Shared) : Prop := ∃ vs H', Inv X pins σ H' s' ∧ Vals vs us ∧ Q vs H'
def SP (X : Cx) (pins : List (Addr × Obj)) (D : Ends) (f : Flow) (s' : Shared) : Prop :=
  match f with
  | .next => ∃ σ' H', Inv X pins σ' H' s' ∧ D.nx σ' H'
  | .brk => ∃ σ' H', Inv X pins σ' H' s' ∧ D.bk σ' H'
  | .cont => ∃ σ' H', Inv X pins σ' H' s' ∧ D.ct σ' H'
  | .ret u => ∃ v σ' H', Inv X pins σ' H' s' ∧ RelV v u ∧ D.rt v H'
def PE (X : Cx) (e : Expr) (t : TE) : Prop :=
  ∀ (pins : List (Addr × Obj)) (s : Shared) (σ : St) (H : Hp) (Q : VK), Inv X pins σ H s → t σ H Q → wpAny (model X.prog X.w) X.A (eval e X.env) (EP X pins σ Q) X.xe s
def PT (X : Cx) (e : Expr) (t : TT) : Prop :=
  ∀ (pins : List (Addr × Obj)) (s : Shared) (σ : St) (H : Hp) (Q : Bool → Hp → Prop), Inv X pins σ H s → t σ H Q → wpAny (model X.prog X.w) X.A (isTrue e X.env (eval e X.env)) (TP X pins σ Q) X.xe s
def PW (X : Cx) (e : Expr) (t : TT) : Prop :=
  ∀ (whole : Sem Value) (pins : List (Addr × Obj)) (s : Shared) (σ : St) (H : Hp) (Q : Bool → Hp → Prop), Inv X pins σ H s → t σ H Q → wpAny (model X.prog X.w) X.A (isTrue e X.env whole) (TP X pins σ Q) X.xe s
theorem PW.pt {X : Cx} {e : Expr} {t : TT} (h : PW X e t) : PT X e t := h _
def PA (X : Cx) (es : List Expr) (t : TA) : Prop :=
  ∀ (pos : Pos) (pins : List (Addr × Obj)) (s : Shared) (σ : St) (H : Hp) (Q : List V → Hp → Prop), Inv X pins σ H s → t σ H Q → wpAny (model X.prog X.w) X.A (spliced (backTo pos (starEach es X.env))) (AP X pins σ Q) X.xe s
def PS (X : Cx) (st : Stmt) (t : TS) : Prop :=
  ∀ (pins : List (Addr × Obj)) (s : Shared) (σ : St) (H : Hp) (D : Ends), Inv X pins σ H s → t D σ H → wpAny (model X.prog X.w) X.A (exec st X.env) (SP X pins D) X.xe s
def PSs (X : Cx) (st : List Stmt) (t : TS) : Prop :=
  ∀ (pins : List (Addr × Obj)) (s : Shared) (σ : St) (H : Hp) (D : Ends), Inv X pins σ H s → t D σ H → wpAny (model X.prog X.w) X.A (execs st X.env) (SP X pins D) X.xe s
theorem thn {α : Type} {t : Sem α} {Q Q' : α → Shared → Prop} {M : Model} {A : Around} {E : Value → Shared → Prop} {s : Shared} (h : wpAny M A t Q E s) (hQ : ∀ a s, Q a s → Q' a s) : wpAny M A t Q' E s := wpAny_mono h hQ fun _ _ x => x
end L2
namespace L2
open PySem PySem.Spec PyProof.Rows
section
variable {X : Cx}
def tVar (i : Nat) : TE := fun σ H Q => ∃ v, σ[i]? = some (some v) ∧ Q v H
def tC (v : V) : TE := fun _ H Q => Q v H
theorem pe_var {i : Nat} {x : Str} {pos : Pos} (hN : X.N[i]? = some x) (hv : Vis X.env.scope x) (hd : (x == ("__debug__" : Str)) = false := by decide) (hcd : (x == ("__classdict__" : Str)) = false := by decide) : PE X (.Name x pos) (tVar i) := by
  intro pins s σ H Q I h
  obtain ⟨v, e, h⟩ := h
  obtain ⟨m, hn, hl⟩ := I.loc
  obtain ⟨u, r, l⟩ := hl i x v hN e hv
  have fin : EP X pins σ Q u s := ⟨v, H, I, r, h⟩
  rcases l with ⟨hk, hm⟩ | ⟨hk, c, hc, hcell⟩
  · exact wpAny_Name (wpAny_loadName_local I.ok.kind hk hn hm fin) hd
  · rcases hk with hk | hk
    · exact wpAny_Name (wpAny_loadName_cell I.ok.kind hk hc hcell fin) hd
    · exact wpAny_Name (wpAny_loadName_free I.ok.kind hk hc hcell fin hcd) hd
theorem pe_int {i j pos} : PE X (.Constant (.int i) j pos) (tC (.int i)) := fun _ _ _ H _ I h => wpAny_Constant_int ⟨.int i, H, I.tok _, ⟨_, rfl⟩, h⟩
theorem pe_bl {b j pos} : PE X (.Constant (.bool b) j pos) (tC (.bl b)) := fun _ _ _ H _ I h => Constant_bool ⟨.bl b, H, I, rfl, h⟩
theorem pe_non {j pos} : PE X (.Constant .none j pos) (tC .non) := fun _ _ _ H _ I h => Constant_none ⟨.non, H, I, rfl, h⟩
theorem pe_str {x j pos} : PE X (.Constant (.str x) j pos) (tC (.str x)) := fun _ _ _ H _ I h => Calls.Constant_str ⟨.str x, H, I.tok _, ⟨_, rfl⟩, h⟩
def Gl (X : Cx) (x : Str) : Prop := X.env.kindOf x = some .globalImplicit
theorem ld_glob {E : Value → Shared → Prop} {pins : List (Addr × Obj)} {s : Shared} {σ : St} {H : Hp} {x : Str} {u : Value} {pos : Pos} {Q : Value → Shared → Prop} (I : Inv X pins σ H s) (hg : Gl X x) (hm : X.mg x = some u) (h : Q u s)
    (hd : (x == ("__debug__" : Str)) = false := by decide) : wpAny (model X.prog X.w) X.A (eval (.Name x pos) X.env) Q E s :=
  Calls.Name_function_global I.ok.kind hg (Calls.loadGlobal_global (by rw [I.ok.glob]; exact I.mod.glob.keeps I.bk) hm h) hd
theorem ld_blt {E : Value → Shared → Prop} {pins : List (Addr × Obj)} {s : Shared} {σ : St} {H : Hp} {x : Str} {u : Value} {pos : Pos} {Q : Value → Shared → Prop} (I : Inv X pins σ H s) (hg : Gl X x) (hm : X.mg x = none) (hv : bootBuiltins x = some u) (h : Q u s)
    (hn : x ≠ "__name__" := by decide) (hd : (x == ("__debug__" : Str)) = false := by decide) : wpAny (model X.prog X.w) X.A (eval (.Name x pos) X.env) Q E s := by
  obtain ⟨mb, h1, h2⟩ := I.mod.blt
  exact Calls.Name_function_global I.ok.kind hg (Calls.loadGlobal_builtin (by rw [I.ok.glob]; exact I.mod.glob.keeps I.bk) hm (by rw [I.ok.blt]; exact h1.keeps I.bk) ((h2 x hn).trans hv) h) hd
theorem pe_glob {x : Str} {v : V} {u : Value} {pos : Pos} (hg : Gl X x) (hm : X.mg x = some u) (r : RelV v u) (hd : (x == ("__debug__" : Str)) = false := by decide) : PE X (.Name x pos) (tC v) :=
  fun _ _ _ H _ I h => ld_glob I hg hm ⟨v, H, I, r, h⟩ hd
theorem pe_bltn {x : Str} {v : V} {u : Value} {pos : Pos} (hg : Gl X x) (hm : X.mg x = none) (hv : bootBuiltins x = some u) (r : RelV v u) (hn : x ≠ "__name__" := by decide) (hd : (x == ("__debug__" : Str)) = false := by decide) : PE X (.Name x pos) (tC v) :=
  fun _ _ _ H _ I h => ld_blt I hg hm hv ⟨v, H, I, r, h⟩ hn hd
variable {a b : Expr} {ta tb : TE} {pos : Pos}
def tB (t : TE) : TT := fun σ H Q => t σ H fun x H1 => ∃ c, x = .bl c ∧ Q c H1
theorem pt_val {e : Expr} {t : TE} (h : PE X e t) (he : ∀ whole, isTrue e X.env whole = (do let v ← whole; standAt e.pos; holding [v] (truthy v)) := by intro _; rfl) : PT X e (tB t) := by
  intro pins s σ H Q I hw
  refine isTrue_plain (thn (h pins s σ H _ I hw) fun v s1 ⟨x, H1, I1, r1, q1⟩ => ?_) (he _)
  obtain ⟨d, rfl, q⟩ := q1
  cases r1
  exact wpAny_truthy_bool ⟨H1, I1, q⟩
variable {tA tB' : TT} {rest : List Expr}
def tOr (t u : TT) : TT := fun σ H Q => t σ H fun c H1 => if c = true then Q true H1 else u σ H1 Q
def tNot (t : TT) : TT := fun σ H Q => t σ H fun c H1 => Q (!c) H1
theorem pw_or1 (ha : PT X a tA) : PW X (.BoolOp .Or [a] pos) tA := by
  intro wh pins s σ H Q I h
  refine isTrue_or (thn (ha pins s σ H Q I h) fun c s1 e => ?_)
  cases c with
  | false => exact isTrue_or_nil e
  | true => exact e
theorem pw_or (ha : PT X a tA) (hb : PW X (.BoolOp .Or (b :: rest) pos) tB') : PW X (.BoolOp .Or (a :: b :: rest) pos) (tOr tA tB') := by
  intro wh pins s σ H Q I h
  refine isTrue_or (thn (ha pins s σ H _ I h) fun c s1 ⟨H1, I1, q1⟩ => ?_)
  cases c with
  | true => exact ⟨H1, I1, q1⟩
  | false => exact hb wh pins s1 σ H1 Q I1 q1
theorem pt_not (ha : PT X a tA) : PT X (.UnaryOp .Not a pos) (tNot tA) := by
  intro pins s σ H Q I h
  exact isTrue_not (ha pins s σ H (fun c H1 => Q (!c) H1) I h)
def tAndV (ta tb : TE) : TE := fun σ H Q => ta σ H fun x H1 => ∃ c, x = .bl c ∧ if c = true then tb σ H1 Q else Q (.bl false) H1
def tNotV (ta : TE) : TE := fun σ H Q => ta σ H fun x H1 => ∃ c, x = .bl c ∧ Q (.bl (!c)) H1
theorem pe_one {op} {t : TE} (h : PE X a t) : PE X (.BoolOp op [a] pos) t := fun pins s σ H Q I hw => BoolOp_one (h pins s σ H Q I hw)
theorem pe_and (ha : PE X a ta) (hb : PE X (.BoolOp .And (b :: rest) pos) tb) : PE X (.BoolOp .And (a :: b :: rest) pos) (tAndV ta tb) := by
  intro pins s σ H Q I h
  refine BoolOp_and (thn (ha pins s σ H _ I h) fun v s1 ⟨x, H1, I1, r1, q1⟩ => ?_)
  obtain ⟨c, rfl, q1⟩ := q1
  cases r1
  refine wpAny_truthy_bool ?_
  cases c with
  | true => exact hb pins s1 σ H1 Q I1 q1
  | false => exact ⟨.bl false, H1, I1, rfl, q1⟩
theorem pe_not (ha : PE X a ta) : PE X (.UnaryOp .Not a pos) (tNotV ta) := by
  intro pins s σ H Q I h
  refine UnaryOp_ (thn (ha pins s σ H _ I h) fun v s1 ⟨x, H1, I1, r1, q1⟩ => ?_)
  obtain ⟨c, rfl, q1⟩ := q1
  cases r1
  exact not_of (wpAny_truthy_bool ⟨.bl (!c), H1, I1, rfl, q1⟩)
end
end L2
namespace L2
open PySem PySem.Spec PyProof.Rows
def SqL (K : PySem.W.Frag) (H : Hp) (a : Addr) (xs : List V) : Prop :=
  Rd H a (.lst xs) ∨
    ∃ (o : Obj) (its : Array Value) (n : Nat), K.lookup a = some o ∧ o.cls = .type "list" ∧ o.dict = none ∧ o.data = .seq its n ∧ its.size ≤ sizeLine ∧ Vals xs its.toList
def SqT (K : PySem.W.Frag) (H : Hp) (a : Addr) (xs : List V) : Prop :=
  Rd H a (.tup xs) ∨
    ∃ (o : Obj) (its : Array Value) (n : Nat), K.lookup a = some o ∧ o.cls = .type "tuple" ∧ o.data = .seq its n ∧ its.size ≤ sizeLine ∧ Vals xs its.toList
def absV : Value → Option V
  | .none => some .non
  | .bool b => some (.bl b)
  | .int i _ => some (.int i)
  | .str x _ => some (.str x)
  | .bytes b _ => some (.byt b)
  | .float b _ => some (.flt b)
  | .ref a => some (.ref a)
  | .type n => some (.ty n)
  | _ => none
theorem RelV.abs {x : V} {u : Value} (r : RelV x u) : absV u = some x := by
  cases x with
  | non => cases r; rfl
  | bl _ => cases r; rfl
  | int _ => obtain ⟨t, rfl⟩ := r; rfl
  | str _ => obtain ⟨t, rfl⟩ := r; rfl
  | byt _ => obtain ⟨t, rfl⟩ := r; rfl
  | flt _ => obtain ⟨t, rfl⟩ := r; rfl
  | ref _ => cases r; rfl
  | ty _ => cases r; rfl
theorem RelV.inj {x y : V} {u : Value} (r : RelV x u) (q : RelV y u) : x = y := Option.some.inj (r.abs.symm.trans q.abs)
theorem Vals.inj : ∀ {xs ys : List V} {us : List Value}, Vals xs us → Vals ys us → xs = ys
  | _, _, _, .nil, .nil => rfl
  | _, _, _, .cons r t, .cons r' t' => by rw [r.inj r', Vals.inj t t']
section
variable {X : Cx} {pins : List (Addr × Obj)} {σ : St} {H : Hp} {s : Shared} {a : Addr} {xs ys : List V}
theorem SqL.of {K : PySem.W.Frag} (h : H a = some (.lst xs)) : SqL K H a xs := .inl (.inl h)
theorem SqT.of {K : PySem.W.Frag} (h : H a = some (.tup xs)) : SqT K H a xs := .inl (.inl h)
theorem Inv.list (I : Inv X pins σ H s) (h : SqL X.K H a xs) : ∃ its : List Value, Vals xs its ∧ PlainL s.heap a its.toArray ∧ xs.length ≤ sizeLine := by
  rcases h with h | ⟨o, its, n, hk, hc, hd, hs, hz, r⟩
  · obtain ⟨z, its, n, r, e⟩ := h.ok I.hok
    exact ⟨its, r, ⟨_, n, e, rfl, rfl, rfl⟩, z⟩
  · refine ⟨its.toList, r, ⟨o, n, I.kIn a o hk, hc, hd, by simpa using hs⟩, ?_⟩
    have e := r.length
    simp only [Array.length_toList] at e
    omega
theorem Inv.tuple (I : Inv X pins σ H s) (h : SqT X.K H a xs) : ∃ its : List Value, Vals xs its ∧ IsTup s.heap a its.toArray ∧ xs.length ≤ sizeLine := by
  rcases h with h | ⟨o, its, n, hk, hc, hs, hz, r⟩
  · obtain ⟨z, its, r, p⟩ := h.ok I.hok
    exact ⟨its, r, p, z⟩
  · refine ⟨its.toList, r, ⟨o, I.kIn a o hk, hc, n, by simpa using hs⟩, ?_⟩
    have e := r.length
    simp only [Array.length_toList] at e
    omega
theorem Inv.list_inj (I : Inv X pins σ H s) (h : SqL X.K H a xs) (h' : SqL X.K H a ys) : xs = ys := by
  obtain ⟨its, r, ⟨o, n, e, _, _, d⟩, _⟩ := I.list h
  obtain ⟨its', r', ⟨o', n', e', _, _, d'⟩, _⟩ := I.list h'
  rw [e] at e'; cases e'
  rw [d] at d'
  injection d' with d1 _
  have : its = its' := by simpa using congrArg Array.toList d1
  subst this
  exact r.inj r'
theorem Inv.tuple_inj (I : Inv X pins σ H s) (h : SqT X.K H a xs) (h' : SqT X.K H a ys) : xs = ys := by
  obtain ⟨its, r, ⟨o, e, _, n, d⟩, _⟩ := I.tuple h
  obtain ⟨its', r', ⟨o', e', _, n', d'⟩, _⟩ := I.tuple h'
  rw [e] at e'; cases e'
  rw [d] at d'
  injection d' with d1 _
  have : its = its' := by simpa using congrArg Array.toList d1
  subst this
  exact r.inj r'
end
abbrev Cx.wish (X : Cx) (E : Value → Shared → Prop) : Cx := { X with xe := E }
abbrev Cx.nox (X : Cx) : Cx := X.wish fun _ _ => False
theorem Cx.Ok.wish {X : Cx} (ok : X.Ok) (E : Value → Shared → Prop) : (X.wish E).Ok :=
  ⟨ok.mod, ok.kind, ok.glob, ok.blt, ok.above, ok.inj, ok.has, ok.cab, ok.hd, ok.frames, ok.stk, ok.exf, ok.bs, ok.bsz, ok.noex, ok.exfs, ok.funs, ok.frf⟩
theorem Cx.Ok.unwish {X : Cx} {E : Value → Shared → Prop} (ok : (X.wish E).Ok) : X.Ok :=
  ⟨ok.mod, ok.kind, ok.glob, ok.blt, ok.above, ok.inj, ok.has, ok.cab, ok.hd, ok.frames, ok.stk, ok.exf, ok.bs, ok.bsz, ok.noex, ok.exfs, ok.funs, ok.frf⟩
section
variable {X : Cx} {pins : List (Addr × Obj)} {σ : St} {H : Hp} {s : Shared} {E : Value → Shared → Prop}
theorem Inv.wish (I : Inv X pins σ H s) (E : Value → Shared → Prop) : Inv (X.wish E) pins σ H s := ⟨I.ok.wish E, I.os, I.bare, I.base, I.loc, I.cell, I.free, I.freeC, I.pin, I.hok, I.len⟩
theorem Inv.unwish (I : Inv (X.wish E) pins σ H s) : Inv X pins σ H s := ⟨I.ok.unwish, I.os, I.bare, I.base, I.loc, I.cell, I.free, I.freeC, I.pin, I.hok, I.len⟩
theorem SP.unwish {D : Ends} {f : Flow} {s' : Shared} (h : SP (X.wish E) pins D f s') : SP X pins D f s' := by
  cases f with
  | next => obtain ⟨σ', H', I, q⟩ := h; exact ⟨σ', H', I.unwish, q⟩
  | brk => obtain ⟨σ', H', I, q⟩ := h; exact ⟨σ', H', I.unwish, q⟩
  | cont => obtain ⟨σ', H', I, q⟩ := h; exact ⟨σ', H', I.unwish, q⟩
  | ret u => obtain ⟨v, σ', H', I, r, q⟩ := h; exact ⟨v, σ', H', I.unwish, r, q⟩
theorem PE.nox {e : Expr} {t : TE} (h : PE X.nox e t) : PE X e t := fun pins s σ H Q I hw =>
  wpAny_mono (h pins s σ H Q (I.wish _) hw) (fun _ _ ⟨v, H', I', r, q⟩ => ⟨v, H', I'.unwish, r, q⟩) fun _ _ z => False.elim z
theorem PT.nox {e : Expr} {t : TT} (h : PT X.nox e t) : PT X e t := fun pins s σ H Q I hw =>
  wpAny_mono (h pins s σ H Q (I.wish _) hw) (fun _ _ ⟨H', I', q⟩ => ⟨H', I'.unwish, q⟩) fun _ _ z => False.elim z
theorem PSs.nox {st : List Stmt} {t : TS} (h : PSs X.nox st t) : PSs X st t := fun pins s σ H D I hw =>
  wpAny_mono (h pins s σ H D (I.wish _) hw) (fun _ _ q => q.unwish) fun _ _ z => False.elim z
end
section
variable {X : Cx} {st : Stmt} {rest : List Stmt} {t u : TS} {e : Expr} {te : TE} {pos : Pos}
def tNext : TS := fun D σ H => D.nx σ H
def tSeq (t u : TS) : TS := fun D σ H => t { D with nx := u D } σ H
theorem pss_nil : PSs X [] tNext := fun _ _ σ H _ I h => wpAny_execs_nil ⟨σ, H, I, h⟩
theorem pss_cons (h1 : PS X st t) (h2 : PSs X rest u) : PSs X (st :: rest) (tSeq t u) := by
  intro pins s σ H D I h
  refine wpAny_execs_cons (thn (h1 pins s σ H { D with nx := u D } I h) fun f s1 q => ?_)
  cases f with
  | next =>
    obtain ⟨σ', H', I', q⟩ := q
    exact h2 pins s1 σ' H' D I' q
  | ret v => exact q
  | brk => exact q
  | cont => exact q
theorem pss_one (h1 : PS X st t) : PSs X [st] t := by
  intro pins s σ H D I h
  refine wpAny_execs_cons (thn (h1 pins s σ H D I h) fun f s1 q => ?_)
  cases f with
  | next => exact wpAny_execs_nil q
  | ret v => exact q
  | brk => exact q
  | cont => exact q
theorem Inv.quiet {pins : List (Addr × Obj)} {σ : St} {H : Hp} {s : Shared} (I : Inv X pins σ H s) : interactive X.env = false := by simp [interactive, I.ok.kind]
def tDrop (te : TE) : TS := fun D σ H => te σ H fun _ H1 => D.nx σ H1
theorem ps_expr (he : PE X e te) (hs : swapsWith e none pos.line X.env = pure false := by rfl) : PS X (.Expr e pos) (tDrop te) := by
  intro pins s σ H D I h
  exact wpAny_Expr_any (thn (he pins s σ H _ I h) fun v s1 ⟨x, H1, I1, r1, q1⟩ => ⟨σ, H1, I1, q1⟩) I.quiet hs
def tRet (te : TE) : TS := fun D σ H => te σ H D.rt
theorem ps_ret (he : PE X e te) : PS X (.Return (some e) pos) (tRet te) := by
  intro pins s σ H D I h
  exact wpAny_Return_some (thn (he pins s σ H _ I h) fun v s1 ⟨x, H1, I1, r1, q1⟩ => ⟨x, σ, H1, I1, r1, q1⟩)
def tIfS (c : TT) (t u : TS) : TS := fun D σ H => c σ H fun b H1 => if b = true then t D σ H1 else u D σ H1
theorem ps_if {c : Expr} {a b : List Stmt} {tc : TT} (hc : PT X c tc) (ha : PSs X a t) (hb : PSs X b u) : PS X (.If c a b pos) (tIfS tc t u) := by
  intro pins s σ H D I h
  refine wpAny_If (thn (hc pins s σ H _ I h) fun d s1 ⟨H1, I1, q1⟩ => ?_)
  cases d with
  | true => exact ha pins s1 σ H1 D I1 q1
  | false => exact hb pins s1 σ H1 D I1 q1
end
abbrev TG := V → St → Hp → (St → Hp → Prop) → Prop
abbrev TGs := List V → St → Hp → (St → Hp → Prop) → Prop
def PG (X : Cx) (target : Expr) (t : TG) : Prop :=
  ∀ (pins : List (Addr × Obj)) (s : Shared) (σ : St) (H : Hp) (v : V) (u : Value) (Q : St → Hp → Prop), Inv X pins σ H s → RelV v u → t v σ H Q →
    wpAny (model X.prog X.w) X.A (assign target X.env u) (fun _ s' => ∃ σ' H', Inv X pins σ' H' s' ∧ Q σ' H') X.xe s
def PGs (X : Cx) (ts : List Expr) (t : TGs) : Prop :=
  ∀ (pins : List (Addr × Obj)) (s : Shared) (σ : St) (H : Hp) (vs : List V) (us : List Value) (Q : St → Hp → Prop), Inv X pins σ H s → Vals vs us → t vs σ H Q →
    wpAny (model X.prog X.w) X.A (assignInOrder ((assignEach ts X.env).map (·.2)) us) (fun _ s' => ∃ σ' H', Inv X pins σ' H' s' ∧ Q σ' H') X.xe s
abbrev TSet := V → V → V → Hp → (Hp → Prop) → Prop
def PSet (X : Cx) (t : TSet) : Prop :=
  ∀ (pins : List (Addr × Obj)) (s : Shared) (σ : St) (H : Hp) (o i v : V) (ov iv u : Value) (Q : Hp → Prop), Inv X pins σ H s → RelV o ov → RelV i iv → RelV v u → t o i v H Q →
    wpAny (model X.prog X.w) X.A (setItem ov iv u) (fun _ s' => ∃ H', Inv X pins σ H' s' ∧ Q H') X.xe s
section
variable {X : Cx} {pos : Pos}
def gName (i : Nat) : TG := fun v σ H Q => Q (σ.set i (some v)) H
theorem pg_name {i : Nat} {x : Str} (hN : X.N.Nodup) (hi : X.N[i]? = some x) (hx : Loc X.env.scope x) (hf : X.fn x = true ∨ X.env.scope.names.lookup x = some .local := by first | exact .inl rfl | exact .inr rfl | assumption) : PG X (.Name x pos) (gName i) := by
  intro pins s σ H v u Q I r h
  exact wpAny_assign_Name (store_ok I hN hi hx r (fun s' I' => ⟨_, H, I', h⟩) hf)
def gNil : TGs := fun vs σ H Q => vs = [] ∧ Q σ H
def gCons (t : TG) (u : TGs) : TGs := fun vs σ H Q => ∃ v r, vs = v :: r ∧ t v σ H fun σ' H' => u r σ' H' Q
theorem pgs_nil : PGs X [] gNil := by
  intro pins s σ H vs us Q I r h
  obtain ⟨e, h⟩ := h
  subst e
  cases r
  exact assignInOrder_nil ⟨σ, H, I, h⟩
theorem pgs_cons {e : Expr} {es : List Expr} {t : TG} {u : TGs} (h1 : PG X e t) (h2 : PGs X es u)
    (hs : (assignEach (e :: es) X.env).map (·.2) = assign e X.env :: (assignEach es X.env).map (·.2) := by rfl) : PGs X (e :: es) (gCons t u) := by
  intro pins s σ H vs us Q I r h
  obtain ⟨v, vr, e1, h⟩ := h
  subst e1
  cases r with
  | cons r rr =>
    rw [hs]
    refine assignInOrder_cons (thn (h1 pins s σ H _ _ _ I r h) fun _ s1 ⟨σ1, H1, I1, q1⟩ => ?_)
    exact h2 pins s1 σ1 H1 _ _ Q I1 rr q1
def gTup (K : PySem.W.Frag) (n : Nat) (t : TGs) : TG := fun v σ H Q => ∃ a xs, v = .ref a ∧ SqT K H a xs ∧ xs.length = n ∧ t xs σ H Q
theorem pg_tup {es : List Expr} {k : Nat} {t : TGs} {n : Nat} (hc : X.calm = true) (h : PGs X es t)
    (hn : (assignEach es X.env).length = n := by rfl) (hst : (assignEach es X.env).findIdx? (·.1) = none := by rfl) : PG X (.Tuple es k pos) (gTup X.K n t) := by
  intro pins s σ H v u Q I r hw
  obtain ⟨a, xs, e1, hq, hl, hw⟩ := hw
  subst e1
  cases r
  obtain ⟨its, rv, ht, hz⟩ := I.tuple hq
  refine assign_Tuple_tuple (I.ok.hd hc) ht (by simp [hn, ← hl, rv.length]) hst fun h' hx => ?_
  have I1 : Inv X pins σ H { s with heap := h' } := I.kept (t' := s.toks) fun b o e => hx b o (Nat.ne_of_lt (Heap.lt_size e)) e
  exact h pins _ σ H xs _ Q I1 (by simpa using rv) hw
def gSub (to ti : TE) (t : TSet) : TG := fun v σ H Q => to σ H fun o H1 => ti σ H1 fun i H2 => t o i v H2 fun H3 => Q σ H3
theorem pg_sub {o i : Expr} {to ti : TE} {t : TSet} (ho : PE X o to) (hi : PE X i ti) (hs : PSet X t)
    (ha : ∀ v, assign (.Subscript o i pos) X.env v = (do
      let ov ← holding [v] (eval o X.env)
      let iv ← holding [v, ov] (eval i X.env)
      standAt pos
      holding [v, ov, iv] (setItem ov iv v)
      release [v, ov, iv] []) := by intro _; rfl) : PG X (.Subscript o i pos) (gSub to ti t) := by
  intro pins s σ H v u Q I r h
  rw [ha]
  refine wpAny_bind (wpAny_holding (thn (ho pins s σ H _ I h) fun ov s1 ⟨x, H1, I1, r1, q1⟩ => ?_))
  refine wpAny_bind (wpAny_holding (thn (hi pins s1 σ H1 _ I1 q1) fun iv s2 ⟨y, H2, I2, r2, q2⟩ => ?_))
  refine wpAny_bind (wpAny_standAt (wpAny_bind (wpAny_holding (thn (hs pins s2 σ H2 x y v ov iv u _ I2 r1 r2 r q2) fun _ s3 ⟨H3, I3, q3⟩ => ?_))))
  exact wpAny_release ⟨σ, H3, I3, q3⟩
def tAsg (te : TE) (g : TG) : TS := fun D σ H => te σ H fun x H1 => g x σ H1 D.nx
theorem ps_asg {tg e : Expr} {te : TE} {g : TG} (he : PE X e te) (hg : PG X tg g) (hs : swapsWithSole [tg] e pos.line X.env = pure false := by rfl) (hw : swappedStores [tg] e X.env = pure none := by rfl)
    (h1 : (assignEach [tg] X.env).map (·.2) = [assign tg X.env] := by rfl) : PS X (.Assign [tg] e pos) (tAsg te g) := by
  intro pins s σ H D I h
  refine wpAny_Assign_stores (thn (he pins s σ H _ I h) fun v s1 ⟨x, H1, I1, r1, q1⟩ => ?_) hs hw
  rw [h1]
  exact thn (hg pins s1 σ H1 x v _ I1 r1 q1) fun _ s2 q => q
theorem ps_set {i : Nat} {x : Str} {e : Expr} {te : TE} {pos' : Pos} (hN : X.N.Nodup) (hi : X.N[i]? = some x) (hx : Loc X.env.scope x) (he : PE X e te) (hs : swapsWith e (some (.Name x pos')) pos.line X.env = pure false := by rfl) (hf : X.fn x = true ∨ X.env.scope.names.lookup x = some .local := by first | exact .inl rfl | exact .inr rfl | assumption) :
    PS X (.Assign [.Name x pos'] e pos) (tAsg te (gName i)) := by
  intro pins s σ H D I h
  refine wpAny_Assign_Name (thn (he pins s σ H _ I h) fun v s1 ⟨y, H1, I1, r1, q1⟩ => ?_) hs
  exact store_ok I1 hN hi hx r1 (fun s2 I2 => ⟨_, H1, I2, q1⟩) hf
end
structure It where
  go : Nat → Hp → Prop
  yld : Nat → Hp → V → Hp → Prop
  stop : Nat → Hp → Prop
def FpOk (X : Cx) (pins : List (Addr × Obj)) (H : Hp) (b : Addr) : Prop :=
  H b = none ∧ b ≠ X.env.locals ∧ b ∉ X.fs ∧ (b ∈ X.ex ∨ X.s₀.heap.objs.size ≤ b) ∧ (∀ x c, X.env.cells.lookup x = some c → c ≠ b) ∧ ∀ p ∈ X.pn ++ pins, p.1 ≠ b
theorem Inv.fpOk {X : Cx} {pins : List (Addr × Obj)} {σ : St} {H H' : Hp} {s : Shared} {b : Addr} (I : Inv X pins σ H s) (hb : s.heap.objs.size ≤ b) (hn : H' b = none) : FpOk X pins H' b := by
  refine ⟨hn, Nat.ne_of_gt (Nat.lt_of_lt_of_le I.lt hb), I.nofs hb, .inr (Nat.le_trans I.sz hb), fun x c e z => ?_, fun p hp z => ?_⟩
  · obtain ⟨v, q⟩ := I.cell x c e
    exact absurd (Nat.lt_of_lt_of_le q.lt (by rw [z]; exact hb)) (Nat.lt_irrefl _)
  · exact absurd (Nat.lt_of_lt_of_le (Heap.lt_size (I.pin p hp).1) (by rw [z]; exact hb)) (Nat.lt_irrefl _)
structure Turn (P : Program) (w : World) (K : PySem.W.Frag) (tg : Expr) (J : It) (fp : List Addr) (it : Addr) (tn : Nat → Heap → Prop) : Prop where
  mem : it ∈ fp
  obj : ∀ i h, tn i h → ∀ b ∈ fp, ∃ o, h.get? b = some o ∧ ∀ v, o.data ≠ .cell v
  keep : ∀ i h h', tn i h → (∀ b ∈ fp, ∀ o, h.get? b = some o → h'.get? b = some o) → tn i h'
  item : ∀ (X : Cx), X.prog = P → X.w = w → X.K = K → X.calm = true → ∀ (i : Nat) (pins : List (Addr × Obj)) (s : Shared) (σ : St) (H : Hp) (E : Value → Shared → Prop), Inv X pins σ H s → (∀ b ∈ fp, FpOk X pins H b) → tn i s.heap → J.go i H →
    wpAny (model P w) X.A (pyNext (.ref it)) (fun r s1 => ∃ u, r = some u ∧
      wpAny (model P w) X.A (letOwnedTupleGo tg (.ref it) u) (fun _ s2 => ∃ x H', Inv X pins σ H' s2 ∧ RelV x u ∧ J.yld i H x H' ∧ tn (i + 1) s2.heap ∧ ∀ b ∈ fp, H' b = none) E s1) E s
  done : ∀ (X : Cx), X.prog = P → X.w = w → X.K = K → X.calm = true → ∀ (i : Nat) (pins : List (Addr × Obj)) (s : Shared) (σ : St) (H : Hp) (E : Value → Shared → Prop), Inv X pins σ H s → (∀ b ∈ fp, FpOk X pins H b) → tn i s.heap → J.stop i H →
    wpAny (model P w) X.A (pyNext (.ref it)) (fun r s1 => r = none ∧ Inv X pins σ H s1) E s
  self : ∀ (A : Around) (i : Nat) (s : Shared) (Q : Value → Shared → Prop) (E : Value → Shared → Prop), tn i s.heap → Q (.ref it) s → wpAny (model P w) A (pyIter (.ref it)) Q E s
abbrev TI := St → Hp → (It → Hp → Prop) → Prop
def PIE (X : Cx) (pins : List (Addr × Obj)) (σ : St) (tg : Expr) (R : It → Hp → Prop) (itv : Value) (s2 : Shared) : Prop :=
  ∃ (it : Addr) (fp : List Addr) (tn : Nat → Heap → Prop) (J : It) (H' : Hp), itv = .ref it ∧ Inv X pins σ H' s2 ∧ Turn X.prog X.w X.K tg J fp it tn ∧ tn 0 s2.heap ∧ (∀ b ∈ fp, FpOk X pins H' b) ∧ R J H'
def PI (X : Cx) (tg iter : Expr) (wi : TI) : Prop :=
  ∀ (pins : List (Addr × Obj)) (s : Shared) (σ : St) (H : Hp) (R : It → Hp → Prop), Inv X pins σ H s → wi σ H R →
    wpAny (model X.prog X.w) X.A (eval iter X.env) (fun v s1 => wpAny (model X.prog X.w) X.A (pyIter v) (PIE X pins σ tg R) X.xe s1) X.xe s
theorem go_of {M : Model} {A : Around} {E : Value → Shared → Prop} {s : Shared} {tg : Expr} {it : Addr} {u : Value} {o : Obj} {n : String} {vs : Array Value} {Q : Unit → Shared → Prop} (ho : s.heap.get? it = some o) (hc : o.cls = .type n) (hd : o.data = .fields vs)
    (hn : ["enumerate", "zip", "dict_itemiterator", "dict_reverseitemiterator", "odict_iterator", "itertools.zip_longest", "itertools.pairwise"].contains n = false) (hQ : Q () s) : wpAny M A (letOwnedTupleGo tg (.ref it) u) Q E s := by
  unfold letOwnedTupleGo
  cases tg <;> first
    | exact wpAny_pure hQ
    | (cases u <;> first
        | exact wpAny_pure hQ
        | (refine wpAny_bind (wpAny_load ho ?_)
           rw [hc, hd]
           show wpAny M A (if (["enumerate", "zip", "dict_itemiterator", "dict_reverseitemiterator", "odict_iterator", "itertools.zip_longest", "itertools.pairwise"].contains n && vs[0]? == some (rawInt _)) = true then _ else _) Q E s
           rw [if_neg (by intro h; rw [hn, Bool.false_and] at h; cases h)]
           exact wpAny_pure hQ))
def Itl (K : PySem.W.Frag) (a : Addr) : It :=
  ⟨fun i H => ∃ xs x, SqL K H a xs ∧ xs[i]? = some x, fun i H x H' => H' = H ∧ ∀ xs, SqL K H a xs → xs[i]? = some x, fun i H => ∃ xs, SqL K H a xs ∧ xs.length ≤ i⟩
def Itt (K : PySem.W.Frag) (a : Addr) : It :=
  ⟨fun i H => ∃ xs x, SqT K H a xs ∧ xs[i]? = some x, fun i H x H' => H' = H ∧ ∀ xs, SqT K H a xs → xs[i]? = some x, fun i H => ∃ xs, SqT K H a xs ∧ xs.length ≤ i⟩
def Itr (lo : Int) (n : Nat) : It := ⟨fun i _ => i < n, fun i H x H' => H' = H ∧ x = .int (lo + i), fun i _ => n ≤ i⟩
theorem turn_list {P : Program} {w : World} {K : PySem.W.Frag} {tg : Expr} (a it : Addr) : Turn P w K tg (Itl K a) [it] it (fun i h => h.IsListIter it a i) where
  mem := by simp
  obj := fun i h st b hb => by
    have e : b = it := by simpa using hb
    subst e
    obtain ⟨o, e, c, d⟩ := st
    exact ⟨o, e, fun v z => by rw [d] at z; cases z⟩
  keep := fun i h h' st k => st.at fun o e => k it (by simp) o e
  item := by
    intro X hP hw hK hc i pins s σ H E I hf st hg
    subst hP hw hK
    obtain ⟨xs, x, hq, hx⟩ := hg
    obtain ⟨its, rv, p, hz⟩ := I.list hq
    obtain ⟨u, hu, ru⟩ := rv.get hx
    obtain ⟨f0, f1, f2, f3, f4, f5⟩ := hf it (by simp)
    refine wpAny_pyNext_list_item st p.isList (x := u) (by simpa using hu) fun h' st' sb => ?_
    have I1 : Inv X pins σ H { s with heap := h' } := I.turned (t' := s.toks) (fun b o hb e => (sb.2 b hb).trans e) f0 f1 f3 f4 f5
    obtain ⟨o, e, c, d⟩ := id st'
    exact ⟨u, rfl, go_of (s := { s with heap := h' }) e c d (by decide) ⟨x, H, I1, ru, ⟨rfl, fun ys hy => by rw [I.list_inj hy hq]; exact hx⟩, st', fun b hb => (hf b hb).1⟩⟩
  done := by
    intro X hP hw hK hc i pins s σ H E I hf st hg
    subst hP hw hK
    obtain ⟨xs, hq, hx⟩ := hg
    obtain ⟨its, rv, p, hz⟩ := I.list hq
    obtain ⟨f0, f1, f2, f3, f4, f5⟩ := hf it (by simp)
    have hl := rv.length
    exact wpAny_pyNext_list_end (I.ok.hd hc) st p.isList (by simp; omega) fun h' eb => ⟨rfl, I.turned (t' := s.toks) (fun b o hb e => eb b o hb e) f0 f1 f3 f4 f5⟩
  self := fun _ _ _ _ _ st h => wpAny_pyIter_listiter st h
theorem turn_tuple {P : Program} {w : World} {K : PySem.W.Frag} {tg : Expr} (a it : Addr) : Turn P w K tg (Itt K a) [it] it (fun i h => h.IsTupleIter it a i) where
  mem := by simp
  obj := fun i h st b hb => by
    have e : b = it := by simpa using hb
    subst e
    obtain ⟨o, e, c, d⟩ := st
    exact ⟨o, e, fun v z => by rw [d] at z; cases z⟩
  keep := fun i h h' st k => st.at fun o e => k it (by simp) o e
  item := by
    intro X hP hw hK hc i pins s σ H E I hf st hg
    subst hP hw hK
    obtain ⟨xs, x, hq, hx⟩ := hg
    obtain ⟨its, rv, p, hz⟩ := I.tuple hq
    obtain ⟨u, hu, ru⟩ := rv.get hx
    obtain ⟨f0, f1, f2, f3, f4, f5⟩ := hf it (by simp)
    refine wpAny_pyNext_tuple_item st (show s.heap.IsTuple a its.toArray from p) (x := u) (by simpa using hu) fun h' st' sb => ?_
    have I1 : Inv X pins σ H { s with heap := h' } := I.turned (t' := s.toks) (fun b o hb e => (sb.2 b hb).trans e) f0 f1 f3 f4 f5
    obtain ⟨o, e, c, d⟩ := id st'
    exact ⟨u, rfl, go_of (s := { s with heap := h' }) e c d (by decide) ⟨x, H, I1, ru, ⟨rfl, fun ys hy => by rw [I.tuple_inj hy hq]; exact hx⟩, st', fun b hb => (hf b hb).1⟩⟩
  done := by
    intro X hP hw hK hc i pins s σ H E I hf st hg
    subst hP hw hK
    obtain ⟨xs, hq, hx⟩ := hg
    obtain ⟨its, rv, p, hz⟩ := I.tuple hq
    obtain ⟨f0, f1, f2, f3, f4, f5⟩ := hf it (by simp)
    have hl := rv.length
    exact wpAny_pyNext_tuple_end (I.ok.hd hc) st (show s.heap.IsTuple a its.toArray from p) (by simp; omega) fun h' eb => ⟨rfl, I.turned (t' := s.toks) (fun b o hb e => eb b o hb e) f0 f1 f3 f4 f5⟩
  self := fun _ _ _ _ _ st h => wpAny_pyIter_tupleiter st h
theorem turn_range {P : Program} {w : World} {K : PySem.W.Frag} {tg : Expr} (it : Addr) (lo : Int) (n : Nat) : Turn P w K tg (Itr lo n) [it] it (fun i h => IsRangeIter h it (lo + (i : Nat) * 1) ((n : Int) - (i : Nat)) 1) where
  mem := by simp
  obj := fun i h st b hb => by
    have e : b = it := by simpa using hb
    subst e
    exact ⟨_, st, fun v z => by
      have z' : Data.fields _ = Data.cell v := z
      cases z'⟩
  keep := fun i h h' st k => k it (by simp) _ st
  item := by
    intro X hP hw hK hc i pins s σ H E I hf st hg
    subst hP hw hK
    obtain ⟨f0, f1, f2, f3, f4, f5⟩ := hf it (by simp)
    have W := Walks.range (prog := X.prog) (w := X.w) (I.ok.hd hc) it lo 1 n
    refine W.item i s _ _ hg st fun v h' tk hv st' kk => ?_
    obtain ⟨t, rfl⟩ := hv
    have I1 : Inv X pins σ H { s with heap := h', toks := tk } := I.turned (fun b o hb e => kk b o (by simpa using hb) e) f0 f1 f3 f4 f5
    refine ⟨_, rfl, go_of (s := { s with heap := h', toks := tk }) (n := "range_iterator") st' rfl rfl (by decide) ⟨.int (lo + i), H, I1, ⟨t, ?_⟩, ⟨rfl, rfl⟩, st', fun b hb => (hf b hb).1⟩⟩
    rw [Int.mul_one]
  done := by
    intro X hP hw hK hc i pins s σ H E I hf st hg
    subst hP hw hK
    obtain ⟨f0, f1, f2, f3, f4, f5⟩ := hf it (by simp)
    exact wpAny_pyNext_range_end (I.ok.hd hc) st (by have : n ≤ i := hg; omega) fun h' eb => ⟨rfl, I.turned (t' := s.toks) (fun b o hb e => eb b o hb e) f0 f1 f3 f4 f5⟩
  self := fun _ _ _ _ _ st h => wpAny_pyIter_rangeiter st h
end L2
namespace L2
open PySem PySem.Spec PyProof.Rows
section
variable {X : Cx} {tg : Expr}
def iList (K : PySem.W.Frag) (tl : TE) : TI := fun σ H R => tl σ H fun x H1 => ∃ a, x = .ref a ∧ (∃ xs, SqL K H1 a xs) ∧ R (Itl K a) H1
def iTup (K : PySem.W.Frag) (tl : TE) : TI := fun σ H R => tl σ H fun x H1 => ∃ a, x = .ref a ∧ (∃ xs, SqT K H1 a xs) ∧ R (Itt K a) H1
theorem pi_list {l : Expr} {tl : TE} (hl : PE X l tl) : PI X tg l (iList X.K tl) := by
  intro pins s σ H R I h
  refine thn (hl pins s σ H _ I h) fun v s1 ⟨x, H1, I1, r1, q1⟩ => ?_
  obtain ⟨a, e, ⟨xs, hq⟩, q⟩ := q1
  subst e
  cases r1
  obtain ⟨its, rv, p, hz⟩ := I1.list hq
  refine wpAny_pyIter_list p.isList ?_
  refine ⟨s1.heap.objs.size, [s1.heap.objs.size], _, _, H1, rfl, I1.kept (t' := s1.toks) fun b o e => Heap.get?_push_of_some _ e, turn_list a _, ⟨_, Heap.get?_push_size _ rfl, rfl, rfl⟩, fun b hb => ?_, q⟩
  have e : b = s1.heap.objs.size := by simpa using hb
  subst e
  exact I1.fpOk (Nat.le_refl _) (I1.hok.fresh (Nat.le_refl _))
theorem pi_tup {l : Expr} {tl : TE} (hl : PE X l tl) : PI X tg l (iTup X.K tl) := by
  intro pins s σ H R I h
  refine thn (hl pins s σ H _ I h) fun v s1 ⟨x, H1, I1, r1, q1⟩ => ?_
  obtain ⟨a, e, ⟨xs, hq⟩, q⟩ := q1
  subst e
  cases r1
  obtain ⟨its, rv, p, hz⟩ := I1.tuple hq
  refine wpAny_pyIter_tuple (show s1.heap.IsTuple a its.toArray from p) ?_
  refine ⟨s1.heap.objs.size, [s1.heap.objs.size], _, _, H1, rfl, I1.kept (t' := s1.toks) fun b o e => Heap.get?_push_of_some _ e, turn_tuple a _, ⟨_, Heap.get?_push_size _ rfl, rfl, rfl⟩, fun b hb => ?_, q⟩
  have e : b = s1.heap.objs.size := by simpa using hb
  subst e
  exact I1.fpOk (Nat.le_refl _) (I1.hok.fresh (Nat.le_refl _))
theorem range_it {pins : List (Addr × Obj)} {σ : St} {H : Hp} {s : Shared} {R : It → Hp → Prop} {E : Value → Shared → Prop} {lo hi : Int} {t u v : Tok} {tk : Nat} (I : Inv X pins σ H s) (h1 : -(2 ^ 62) ≤ lo) (h2 : lo < 2 ^ 62) (h3 : -(2 ^ 62) ≤ hi) (h4 : hi < 2 ^ 62)
    (q : R (Itr lo (hi - lo).toNat) H) : wpAny (model X.prog X.w) X.A (pyIter (.ref s.heap.objs.size)) (PIE X pins σ tg R) E { s with heap := s.heap.push { cls := .type "range", data := .fields #[.int lo t, .int hi u, .int 1 v] }, toks := tk } := by
  refine wpAny_pyIter_range (IsRange.new ..) (small_one h1 h2 h3 h4) ?_
  have I1 : Inv X pins σ H { s with heap := s.heap.push { cls := .type "range", data := .fields #[.int lo t, .int hi u, .int 1 v] }, toks := tk } := I.kept fun b o e => Heap.get?_push_of_some _ e
  refine ⟨(s.heap.push { cls := .type "range", data := .fields #[.int lo t, .int hi u, .int 1 v] }).objs.size, [(s.heap.push { cls := .type "range", data := .fields #[.int lo t, .int hi u, .int 1 v] }).objs.size], _, _, H, rfl,
    I1.kept (t' := tk) fun b o e => Heap.get?_push_of_some _ e, turn_range _ lo (hi - lo).toNat, ?_, fun b hb => ?_, q⟩
  · have e1 : lo + ((0 : Nat) : Int) * 1 = lo := by simp
    have e2 : (((hi - lo).toNat : Nat) : Int) - ((0 : Nat) : Int) = Builtin.Range.rangeSize lo hi 1 := by rw [rangeSize_one]; split <;> omega
    show IsRangeIter _ _ (lo + ((0 : Nat) : Int) * 1) ((((hi - lo).toNat : Nat) : Int) - ((0 : Nat) : Int)) 1
    rw [e1, e2]
    exact Heap.get?_push_size _ rfl
  · have e : b = (s.heap.push { cls := .type "range", data := .fields #[.int lo t, .int hi u, .int 1 v] }).objs.size := by simpa using hb
    subst e
    exact I1.fpOk (Nat.le_refl _) (I1.hok.fresh (Nat.le_refl _))
def iRng1 (ta : TA) : TI := fun σ H R => ta σ H fun vs H1 => ∃ j : Int, vs = [.int j] ∧ -(2 ^ 62) ≤ j ∧ j < 2 ^ 62 ∧ R (Itr 0 j.toNat) H1
theorem pi_range1 {a : Expr} {ta : TA} {p pos : Pos} (hg : Gl X "range") (hm : X.mg "range" = none) (ha : PA X [a] ta) (hs : starEach [a] X.env = [(false, eval a X.env)] := by rfl) : PI X tg (.Call (.Name "range" p) [a] [] pos) (iRng1 ta) := by
  intro pins s σ H R I h
  refine Call_ (ld_blt I hg hm boot_range (PyProof.Rows.callWith_type1 (thn (ha pos pins s σ H _ I h) fun us s1 ⟨vs, H1, I1, r1, q1⟩ => ?_) hs rfl))
  obtain ⟨j, e, q1, q2, q⟩ := q1
  subst e
  cases r1 with
  | cons r rr =>
    cases rr
    obtain ⟨t, rfl⟩ := r
    exact call_range_1 (range_it I1 (by omega) (by omega) q1 q2 (by simpa using q))
def tFor (wi : TI) (g : TG) (tb : TS) : TS := fun D σ H => wi σ H fun J H1 => ∃ W : Nat → Nat → St → Hp → Prop, (∃ m, W 0 m σ H1) ∧ ∀ i m σ H, W i m σ H →
  (J.stop i H ∧ D.nx σ H) ∨ (J.go i H ∧ ∃ N : St → Hp → Prop, (∀ σ' H', N σ' H' → ∃ m', m' < m ∧ W (i + 1) m' σ' H') ∧ ∀ x H', J.yld i H x H' → g x σ H' fun σ2 H2 => tb { D with nx := N, ct := N, bk := D.nx } σ2 H2)
def pinsAt (fp : List Addr) (h : Heap) : List (Addr × Obj) := fp.filterMap fun b => (h.get? b).map fun o => (b, o)
theorem mem_pinsAt {fp : List Addr} {h : Heap} {b : Addr} {o : Obj} (hb : b ∈ fp) (e : h.get? b = some o) : (b, o) ∈ pinsAt fp h := List.mem_filterMap.mpr ⟨b, hb, by rw [e]; rfl⟩
theorem of_pinsAt {fp : List Addr} {h : Heap} {p : Addr × Obj} (hp : p ∈ pinsAt fp h) : p.1 ∈ fp ∧ h.get? p.1 = some p.2 := by
  obtain ⟨b, hb, e⟩ := List.mem_filterMap.mp hp
  cases q : h.get? b with
  | none => rw [q] at e; cases e
  | some o =>
    rw [q] at e
    have e' : (b, o) = p := Option.some.inj e
    subst e'
    exact ⟨hb, q⟩
theorem Inv.pinned {pins : List (Addr × Obj)} {σ : St} {H : Hp} {s : Shared} {fp : List Addr} (I : Inv X pins σ H s) (hf : ∀ b ∈ fp, FpOk X pins H b) (ho : ∀ b ∈ fp, ∃ o, s.heap.get? b = some o ∧ ∀ v, o.data ≠ .cell v) : Inv X (pins ++ pinsAt fp s.heap) σ H s :=
  I.pins_of fun p hp => (List.mem_append.mp hp).elim (fun z => I.pin p (List.mem_append_right _ z)) fun z => by
    obtain ⟨hb, e⟩ := of_pinsAt z
    obtain ⟨f0, f1, f2, _⟩ := hf p.1 hb
    obtain ⟨o, e', d⟩ := ho p.1 hb
    rw [e] at e'; cases e'
    exact ⟨e, f0, f1, f2, d⟩
theorem Inv.unpinned {pins pl : List (Addr × Obj)} {σ : St} {H : Hp} {s : Shared} (I : Inv X (pins ++ pl) σ H s) : Inv X pins σ H s := I.pins_of fun p hp => I.pin p (List.mem_append_right _ (List.mem_append_left _ hp))
theorem ps_for {iter : Expr} {body : List Stmt} {wi : TI} {g : TG} {tb : TS} {pos : Pos} (hp : PassesOwn (model X.prog X.w) X.A X.env X.xe) (hc : X.calm = true) (hi : PI X tg iter wi) (hg : PG X tg g) (hb : PSs X body tb)
    (hs : ∀ x, foldedSetIterable iter X.env x = pure x := by intro _; rfl) : PS X (.For tg iter body [] pos) (tFor wi g tb) := by
  intro pins s σ H D I h
  refine wpAny_For (thn (hi pins s σ H _ I h) fun v s1 h1 => thn h1 fun itv s2 h2 => ?_) hs
  obtain ⟨it, fp, tn, J, H2, e, I2, T, st2, f2, W, ⟨m0, w0⟩, turn⟩ := h2
  subst e
  -- what stays true of the iterator's objects through the loop
  have stat : ∀ {H' : Hp}, (∀ b ∈ fp, H' b = none) → ∀ b ∈ fp, FpOk X pins H' b := fun hn b hb => ⟨hn b hb, (f2 b hb).2⟩
  refine codeAny_forLoop_any (fun n s' => ∃ i σ' H', Inv X pins σ' H' s' ∧ tn i s'.heap ∧ (∀ b ∈ fp, H' b = none) ∧ W i n σ' H') ?_ m0 ⟨0, σ, H2, I2, st2, fun b hb => (f2 b hb).1, w0⟩
  rintro n s3 ⟨i, σ3, H3, I3, st3, fr3, w3⟩
  rcases turn i n σ3 H3 w3 with ⟨stop, qn⟩ | ⟨go, N, hN, step⟩
  · refine wpAny_passesOwn hp (thn (T.done X rfl rfl rfl hc i pins s3 σ3 H3 X.xe I3 (stat fr3) st3 stop) fun r s4 ⟨hr, I4⟩ => ?_)
    subst hr
    exact wpAny_execs_nil ⟨σ3, H3, I4, qn⟩
  · refine wpAny_passesOwn hp (thn (T.item X rfl rfl rfl hc i pins s3 σ3 H3 X.xe I3 (stat fr3) st3 go) fun r s4 ⟨u, hr, h4⟩ => ?_)
    subst hr
    refine wpAny_passesOwn hp (thn h4 fun _ s5 ⟨x, H5, I5, r5, y5, st5, fr5⟩ => ?_)
    have I5' := I5.pinned (stat fr5) (T.obj _ _ st5)
    refine wpAny_passesOwn hp (thn (hg _ s5 σ3 H5 x u _ I5' r5 (step x H5 y5)) fun _ s6 ⟨σ6, H6, I6, q6⟩ => ?_)
    refine wpAny_passesOwn hp (thn (hb _ s6 σ6 H6 _ I6 q6) fun f s7 q7 => ?_)
    have again : ∀ {σ7 : St} {H7 : Hp}, Inv X (pins ++ pinsAt fp s5.heap) σ7 H7 s7 → N σ7 H7 → ∃ m, m < n ∧ ∃ i σ' H', Inv X pins σ' H' s7 ∧ tn i s7.heap ∧ (∀ b ∈ fp, H' b = none) ∧ W i m σ' H' := fun {σ7 H7} I7 n7 => by
      obtain ⟨m', hm, w7⟩ := hN σ7 H7 n7
      refine ⟨m', hm, i + 1, σ7, H7, I7.unpinned, T.keep _ _ _ st5 fun b hb o e => (I7.pin (b, o) (List.mem_append_right _ (List.mem_append_right _ (mem_pinsAt hb e)))).1, fun b hb => ?_, w7⟩
      obtain ⟨o, e, d⟩ := T.obj _ _ st5 b hb
      exact (I7.pin (b, o) (List.mem_append_right _ (List.mem_append_right _ (mem_pinsAt hb e)))).2.1
    cases f with
    | next => obtain ⟨σ7, H7, I7, n7⟩ := q7; exact again I7 n7
    | cont => obtain ⟨σ7, H7, I7, n7⟩ := q7; exact again I7 n7
    | brk => obtain ⟨σ7, H7, I7, q7⟩ := q7; exact ⟨σ7, H7, I7.unpinned, q7⟩
    | ret v => obtain ⟨x7, σ7, H7, I7, r7, q7⟩ := q7; exact ⟨x7, σ7, H7, I7.unpinned, r7, q7⟩
end
theorem for_list {K : PySem.W.Frag} {a : Addr} {xs : List V} {g : TG} {tb : TS} {D : Ends} {σ : St} {H : Hp} (Pv : Nat → St → Hp → Prop) (h0 : Pv 0 σ H) (hl : ∀ i σ H, i ≤ xs.length → Pv i σ H → SqL K H a xs)
    (hs : ∀ i x σ H, xs[i]? = some x → Pv i σ H → g x σ H fun σ2 H2 => tb { D with nx := Pv (i + 1), ct := Pv (i + 1), bk := D.nx } σ2 H2) (hd : ∀ σ H, Pv xs.length σ H → D.nx σ H) :
    ∃ W : Nat → Nat → St → Hp → Prop, (∃ m, W 0 m σ H) ∧ ∀ i m σ H, W i m σ H →
      ((Itl K a).stop i H ∧ D.nx σ H) ∨ ((Itl K a).go i H ∧ ∃ N : St → Hp → Prop, (∀ σ' H', N σ' H' → ∃ m', m' < m ∧ W (i + 1) m' σ' H') ∧ ∀ x H', (Itl K a).yld i H x H' → g x σ H' fun σ2 H2 => tb { D with nx := N, ct := N, bk := D.nx } σ2 H2) := by
  refine ⟨fun i m σ H => m = xs.length - i ∧ i ≤ xs.length ∧ Pv i σ H, ⟨xs.length, by simp, Nat.zero_le _, h0⟩, ?_⟩
  rintro i m σ H ⟨rfl, hi, p⟩
  have q := hl i σ H hi p
  by_cases hlt : i < xs.length
  · refine .inr ⟨⟨xs, xs[i], q, by simp [hlt]⟩, Pv (i + 1), fun σ' H' p' => ⟨xs.length - (i + 1), by omega, rfl, hlt, p'⟩, fun x H' y => ?_⟩
    obtain ⟨e, y⟩ := y
    subst e
    exact hs i x σ _ (y xs q) p
  · have e : i = xs.length := by omega
    subst e
    exact .inl ⟨⟨xs, q, Nat.le_refl _⟩, hd σ H p⟩
theorem for_tup {K : PySem.W.Frag} {a : Addr} {xs : List V} {g : TG} {tb : TS} {D : Ends} {σ : St} {H : Hp} (Pv : Nat → St → Hp → Prop) (h0 : Pv 0 σ H) (hl : ∀ i σ H, i ≤ xs.length → Pv i σ H → SqT K H a xs)
    (hs : ∀ i x σ H, xs[i]? = some x → Pv i σ H → g x σ H fun σ2 H2 => tb { D with nx := Pv (i + 1), ct := Pv (i + 1), bk := D.nx } σ2 H2) (hd : ∀ σ H, Pv xs.length σ H → D.nx σ H) :
    ∃ W : Nat → Nat → St → Hp → Prop, (∃ m, W 0 m σ H) ∧ ∀ i m σ H, W i m σ H →
      ((Itt K a).stop i H ∧ D.nx σ H) ∨ ((Itt K a).go i H ∧ ∃ N : St → Hp → Prop, (∀ σ' H', N σ' H' → ∃ m', m' < m ∧ W (i + 1) m' σ' H') ∧ ∀ x H', (Itt K a).yld i H x H' → g x σ H' fun σ2 H2 => tb { D with nx := N, ct := N, bk := D.nx } σ2 H2) := by
  refine ⟨fun i m σ H => m = xs.length - i ∧ i ≤ xs.length ∧ Pv i σ H, ⟨xs.length, by simp, Nat.zero_le _, h0⟩, ?_⟩
  rintro i m σ H ⟨rfl, hi, p⟩
  have q := hl i σ H hi p
  by_cases hlt : i < xs.length
  · refine .inr ⟨⟨xs, xs[i], q, by simp [hlt]⟩, Pv (i + 1), fun σ' H' p' => ⟨xs.length - (i + 1), by omega, rfl, hlt, p'⟩, fun x H' y => ?_⟩
    obtain ⟨e, y⟩ := y
    subst e
    exact hs i x σ _ (y xs q) p
  · have e : i = xs.length := by omega
    subst e
    exact .inl ⟨⟨xs, q, Nat.le_refl _⟩, hd σ H p⟩
theorem for_range {lo : Int} {n : Nat} {g : TG} {tb : TS} {D : Ends} {σ : St} {H : Hp} (Pv : Nat → St → Hp → Prop) (h0 : Pv 0 σ H)
    (hs : ∀ i σ H, i < n → Pv i σ H → g (.int (lo + i)) σ H fun σ2 H2 => tb { D with nx := Pv (i + 1), ct := Pv (i + 1), bk := D.nx } σ2 H2) (hd : ∀ σ H, Pv n σ H → D.nx σ H) :
    ∃ W : Nat → Nat → St → Hp → Prop, (∃ m, W 0 m σ H) ∧ ∀ i m σ H, W i m σ H →
      ((Itr lo n).stop i H ∧ D.nx σ H) ∨ ((Itr lo n).go i H ∧ ∃ N : St → Hp → Prop, (∀ σ' H', N σ' H' → ∃ m', m' < m ∧ W (i + 1) m' σ' H') ∧ ∀ x H', (Itr lo n).yld i H x H' → g x σ H' fun σ2 H2 => tb { D with nx := N, ct := N, bk := D.nx } σ2 H2) := by
  refine ⟨fun i m σ H => m = n - i ∧ i ≤ n ∧ Pv i σ H, ⟨n, by simp, Nat.zero_le _, h0⟩, ?_⟩
  rintro i m σ H ⟨rfl, hi, p⟩
  by_cases hlt : i < n
  · refine .inr ⟨hlt, Pv (i + 1), fun σ' H' p' => ⟨n - (i + 1), by omega, rfl, hlt, p'⟩, fun x H' y => ?_⟩
    obtain ⟨e, y⟩ := y
    subst e y
    exact hs i σ _ hlt p
  · have e : i = n := by omega
    subst e
    exact .inl ⟨Nat.le_refl _, hd σ H p⟩
end L2
namespace L2
open PySem PySem.Spec PyProof.Rows
abbrev R2 := V → V → Hp → VK → Prop
def OpR (X : Cx) (f : Value → Value → Sem Value) (r : R2) : Prop :=
  ∀ (pins : List (Addr × Obj)) (s : Shared) (σ : St) (H : Hp) (x y : V) (v u : Value) (Q : VK), Inv X pins σ H s → RelV x v → RelV y u → r x y H Q →
    wpAny (model X.prog X.w) X.A (f v u) (EP X pins σ Q) X.xe s
def UnR (X : Cx) (f : Value → Sem Value) (r : V → Hp → VK → Prop) : Prop :=
  ∀ (pins : List (Addr × Obj)) (s : Shared) (σ : St) (H : Hp) (x : V) (v : Value) (Q : VK), Inv X pins σ H s → RelV x v → r x H Q →
    wpAny (model X.prog X.w) X.A (f v) (EP X pins σ Q) X.xe s
def CallR (X : Cx) (f : Value) (r : List V → Hp → VK → Prop) : Prop :=
  ∀ (pins : List (Addr × Obj)) (s : Shared) (σ : St) (H : Hp) (xs : List V) (us : List Value) (Q : VK), Inv X pins σ H s → Vals xs us → r xs H Q →
    wpAny (model X.prog X.w) X.A (call f us) (EP X pins σ Q) X.xe s
def tOp (r : R2) (ta tb : TE) : TE := fun σ H Q => ta σ H fun x H1 => tb σ H1 fun y H2 => r x y H2 Q
def tUn (r : V → Hp → VK → Prop) (ta : TE) : TE := fun σ H Q => ta σ H fun x H1 => r x H1 Q
def rI (C : Int → Int → Prop) (g : Int → Int → V) : R2 := fun x y H Q => ∃ i j, x = .int i ∧ y = .int j ∧ C i j ∧ Q (g i j) H
def rI0 (g : Int → Int → V) : R2 := fun x y H Q => ∃ i j, x = .int i ∧ y = .int j ∧ Q (g i j) H
def rU (g : Int → V) : V → Hp → VK → Prop := fun x H Q => ∃ i, x = .int i ∧ Q (g i) H
section
variable {X : Cx} {a b c : Expr} {ta tb tc : TE} {pos : Pos}
theorem binT (ha : PE X a ta) (hb : PE X b tb) {pins : List (Addr × Obj)} {s : Shared} {σ : St} {H : Hp} {R : V → V → Hp → Prop} (I : Inv X pins σ H s)
    (h : ta σ H fun x H1 => tb σ H1 fun y H2 => R x y H2) {Q : Value → Shared → Prop} {f : Value → Value → Sem Value}
    (hf : ∀ v u s2 x y H2, Inv X pins σ H2 s2 → RelV x v → RelV y u → R x y H2 → wpAny (model X.prog X.w) X.A (f v u) Q X.xe s2) :
    wpAny (model X.prog X.w) X.A (eval a X.env) (fun v s₁ => wpAny (model X.prog X.w) X.A (eval b X.env) (fun u s₂ => wpAny (model X.prog X.w) X.A (f v u) Q X.xe s₂) X.xe s₁) X.xe s := by
  refine thn (ha pins s σ H _ I h) fun v s1 ⟨x, H1, I1, r1, q1⟩ => ?_
  refine thn (hb pins s1 σ H1 _ I1 q1) fun u s2 ⟨y, H2, I2, r2, q2⟩ => ?_
  exact hf v u s2 x y H2 I2 r1 r2 q2
theorem pe_op {op : Operator} {r : R2} (ho : OpR X (binaryOp op) r) (ha : PE X a ta) (hb : PE X b tb) : PE X (.BinOp a op b pos) (tOp r ta tb) := by
  intro pins s σ H Q I h
  exact wpAny_BinOp (binT ha hb I h fun v u s2 x y H2 I2 rx ry q => ho pins s2 σ H2 x y v u Q I2 rx ry q)
theorem pe_un {op : UnaryOp} {r : V → Hp → VK → Prop} (ho : UnR X (unaryOp op) r) (ha : PE X a ta) : PE X (.UnaryOp op a pos) (tUn r ta) := by
  intro pins s σ H Q I h
  exact UnaryOp_ (thn (ha pins s σ H _ I h) fun v s1 ⟨x, H1, I1, r1, q1⟩ => ho pins s1 σ H1 x v Q I1 r1 q1)
theorem opI {f : Value → Value → Sem Value} {C : Int → Int → Prop} {g : Int → Int → Int}
    (rule : ∀ (i j : Int) (t u : Tok) (s : Shared) (Q : Value → Shared → Prop) (E : Value → Shared → Prop), C i j → Q (.int (g i j) s.toks) { s with toks := s.toks + 1 } → wpAny (model X.prog X.w) X.A (f (.int i t) (.int j u)) Q E s) :
    OpR X f (rI C fun i j => .int (g i j)) := by
  intro pins s σ H x y v u Q I rx ry h
  obtain ⟨i, j, rfl, rfl, hc, q⟩ := h
  obtain ⟨t, rfl⟩ := rx
  obtain ⟨t', rfl⟩ := ry
  exact rule i j t t' s _ _ hc ⟨.int (g i j), H, I.tok _, ⟨_, rfl⟩, q⟩
theorem opI0 {f : Value → Value → Sem Value} {g : Int → Int → Int}
    (rule : ∀ (i j : Int) (t u : Tok) (s : Shared) (Q : Value → Shared → Prop) (E : Value → Shared → Prop), Q (.int (g i j) s.toks) { s with toks := s.toks + 1 } → wpAny (model X.prog X.w) X.A (f (.int i t) (.int j u)) Q E s) :
    OpR X f (rI0 fun i j => .int (g i j)) := by
  intro pins s σ H x y v u Q I rx ry h
  obtain ⟨i, j, rfl, rfl, q⟩ := h
  obtain ⟨t, rfl⟩ := rx
  obtain ⟨t', rfl⟩ := ry
  exact rule i j t t' s _ _ ⟨.int (g i j), H, I.tok _, ⟨_, rfl⟩, q⟩
theorem opB0 {f : Value → Value → Sem Value} {g : Int → Int → Bool}
    (rule : ∀ (i j : Int) (t u : Tok) (s : Shared) (Q : Value → Shared → Prop) (E : Value → Shared → Prop), Q (.bool (g i j)) s → wpAny (model X.prog X.w) X.A (f (.int i t) (.int j u)) Q E s) :
    OpR X f (rI0 fun i j => .bl (g i j)) := by
  intro pins s σ H x y v u Q I rx ry h
  obtain ⟨i, j, rfl, rfl, q⟩ := h
  obtain ⟨t, rfl⟩ := rx
  obtain ⟨t', rfl⟩ := ry
  exact rule i j t t' s _ _ ⟨.bl (g i j), H, I, rfl, q⟩
def CDiv (i j : Int) : Prop := 0 < j ∧ j < 1073741824
def CPow (i j : Int) : Prop := 0 ≤ j ∧ j ≤ 1000000 ∧ i.natAbs < 2 ^ 64
def CMul (i j : Int) : Prop := (-(2 ^ 64) < i ∧ i < 2 ^ 64) ∨ (-(2 ^ 64) < j ∧ j < 2 ^ 64)
theorem CMul.ok {i j : Int} (h : CMul i j) : IntMulOk i j := by
  rcases h with ⟨h1, h2⟩ | ⟨h1, h2⟩
  · exact .of_left (intBits_le_64 h1 h2)
  · exact .of_right (intBits_le_64 h1 h2)
theorem op_add : OpR X (binaryOp .Add) (rI0 fun i j => .int (i + j)) := opI0 fun _ _ _ _ _ _ _ q => add_int q
theorem op_sub : OpR X (binaryOp .Sub) (rI0 fun i j => .int (i - j)) := opI0 fun _ _ _ _ _ _ _ q => sub_int q
theorem op_mul : OpR X (binaryOp .Mult) (rI CMul fun i j => .int (i * j)) := opI fun _ _ _ _ _ _ _ hc q => mul_int q hc.ok
theorem op_fdiv : OpR X (binaryOp .FloorDiv) (rI CDiv fun i j => .int (i / j)) := opI fun i j _ _ _ _ _ hc q => by
  have h1 : (0 : Int) < j := hc.1
  have h2 : j < 1073741824 := hc.2
  exact floordiv_int (by omega) (by rw [Int.fdiv_eq_ediv_of_nonneg i (by omega)]; exact q) (.inl (PyProof.noPylong_small (by omega)))
theorem op_mod : OpR X (binaryOp .Mod) (rI (fun _ j => 0 < j) fun i j => .int (i % j)) := opI fun i j _ _ _ _ _ hc q => by
  have h1 : (0 : Int) < j := hc
  exact mod_int' (by omega) (by rw [Int.fmod_eq_emod_of_nonneg i (by omega)]; exact q)
theorem op_pow : OpR X (binaryOp .Pow) (rI CPow fun i j => .int (i ^ j.toNat)) := opI fun _ _ _ _ _ _ _ hc q => pow_int_small hc.1 hc.2.1 hc.2.2 q
theorem unI {f : Value → Sem Value} {g : Int → Int}
    (rule : ∀ (i : Int) (t : Tok) (s : Shared) (Q : Value → Shared → Prop) (E : Value → Shared → Prop), Q (.int (g i) s.toks) { s with toks := s.toks + 1 } → wpAny (model X.prog X.w) X.A (f (.int i t)) Q E s) :
    UnR X f (rU fun i => .int (g i)) := by
  intro pins s σ H x v Q I rx h
  obtain ⟨i, rfl, q⟩ := h
  obtain ⟨t, rfl⟩ := rx
  exact rule i t s _ _ ⟨.int (g i), H, I.tok _, ⟨_, rfl⟩, q⟩
theorem un_neg : UnR X (unaryOp .USub) (rU fun i => .int (-i)) := unI fun _ _ _ _ _ q => neg_int q
end
def scal : V → V → Bool
  | .non, .non => true | .non, .int _ => true | .int _, .non => true | .non, .bl _ => true | .bl _, .non => true | .non, .str _ => true | .str _, .non => true
  | .int _, .int _ => true | .bl _, .bl _ => true | .str _, .str _ => true | .byt _, .byt _ => true
  | .int _, .str _ => true | .str _, .int _ => true | .bl _, .str _ => true | .str _, .bl _ => true
  | _, _ => false
def rEq : R2 := fun x y H Q => scal x y = true ∧ Q (.bl (decide (x = y))) H
def rNe : R2 := fun x y H Q => scal x y = true ∧ Q (.bl (!decide (x = y))) H
theorem dec_int {i j : Int} : decide (V.int i = V.int j) = (i == j) := by
  rw [Bool.eq_iff_iff]
  simp
theorem dec_bl {i j : Bool} : decide (V.bl i = V.bl j) = (i == j) := by
  rw [Bool.eq_iff_iff]
  simp
theorem dec_str {i j : Str} : decide (V.str i = V.str j) = (i == j) := by
  rw [Bool.eq_iff_iff]
  simp
theorem dec_byt {i j : Array UInt8} : decide (V.byt i = V.byt j) = (i.toList == j.toList) := by
  rw [Bool.eq_iff_iff]
  cases i
  cases j
  simp
section
variable {X : Cx} {a b c : Expr} {ta tb tc : TE} {pos : Pos}
theorem fin_bl {pins : List (Addr × Obj)} {σ : St} {H : Hp} {s : Shared} {Q : VK} {k k' : Bool} (I : Inv X pins σ H s) (q : Q (.bl k) H) (e : k = k') : EP X pins σ Q (.bool k') s := by
  subst e
  exact ⟨.bl k, H, I, rfl, q⟩
theorem op_eq : OpR X (compareOp .Eq) rEq := by
  intro pins s σ H x y v u Q I rx ry h
  obtain ⟨hs, q⟩ := h
  cases x with
  | non =>
    cases rx
    cases y with
    | non => cases ry; exact PySem.EqNone.eq_none_none (fin_bl I q (by simp))
    | bl j => cases ry; exact PySem.EqNone.eq_none_bool (fin_bl I q (by simp))
    | int j => obtain ⟨t', rfl⟩ := ry; exact PySem.EqNone.eq_none_int (fin_bl I q (by simp))
    | str j => obtain ⟨t', rfl⟩ := ry; exact PySem.EqNone.eq_none_str (fin_bl I q (by simp))
    | _ => exact absurd (show false = true from hs) Bool.false_ne_true
  | bl i =>
    cases rx
    cases y with
    | non => cases ry; exact PySem.EqNone.eq_bool_none (fin_bl I q (by simp))
    | bl j => cases ry; exact eq_bool (fin_bl I q dec_bl)
    | str j => obtain ⟨t', rfl⟩ := ry; exact PySem.EqMixed.eq_bool_str (fin_bl I q (by simp))
    | _ => exact absurd (show false = true from hs) Bool.false_ne_true
  | int i =>
    obtain ⟨t, rfl⟩ := rx
    cases y with
    | non => cases ry; exact PySem.EqNone.eq_int_none (fin_bl I q (by simp))
    | int j => obtain ⟨t', rfl⟩ := ry; exact eq_int (fin_bl I q dec_int)
    | str j => obtain ⟨t', rfl⟩ := ry; exact PySem.EqMixed.eq_int_str (fin_bl I q (by simp))
    | _ => exact absurd (show false = true from hs) Bool.false_ne_true
  | str i =>
    obtain ⟨t, rfl⟩ := rx
    cases y with
    | non => cases ry; exact PySem.EqNone.eq_str_none (fin_bl I q (by simp))
    | bl j => cases ry; exact PySem.EqMixed.eq_str_bool (fin_bl I q (by simp))
    | int j => obtain ⟨t', rfl⟩ := ry; exact PySem.EqMixed.eq_str_int (fin_bl I q (by simp))
    | str j => obtain ⟨t', rfl⟩ := ry; exact eq_str (fin_bl I q dec_str)
    | _ => exact absurd (show false = true from hs) Bool.false_ne_true
  | byt i =>
    obtain ⟨t, rfl⟩ := rx
    cases y with
    | byt j => obtain ⟨t', rfl⟩ := ry; exact PySem.W.eq_bytes (fin_bl I q dec_byt)
    | _ => exact absurd (show false = true from hs) Bool.false_ne_true
  | _ => cases y <;> exact absurd (show false = true from hs) Bool.false_ne_true
theorem op_ne : OpR X (compareOp .NotEq) rNe := by
  intro pins s σ H x y v u Q I rx ry h
  obtain ⟨hs, q⟩ := h
  cases x with
  | non =>
    cases rx
    cases y with
    | non => cases ry; exact PySem.EqNone.ne_none_none (fin_bl I q (by simp))
    | bl j => cases ry; exact PySem.EqNone.ne_none_bool (fin_bl I q (by simp))
    | int j => obtain ⟨t', rfl⟩ := ry; exact PySem.EqNone.ne_none_int (fin_bl I q (by simp))
    | str j => obtain ⟨t', rfl⟩ := ry; exact PySem.EqNone.ne_none_str (fin_bl I q (by simp))
    | _ => exact absurd (show false = true from hs) Bool.false_ne_true
  | bl i =>
    cases rx
    cases y with
    | non => cases ry; exact PySem.EqNone.ne_bool_none (fin_bl I q (by simp))
    | bl j => cases ry; exact ne_bool (fin_bl I q (congrArg not dec_bl))
    | str j => obtain ⟨t', rfl⟩ := ry; exact PySem.EqMixed.ne_bool_str (fin_bl I q (by simp))
    | _ => exact absurd (show false = true from hs) Bool.false_ne_true
  | int i =>
    obtain ⟨t, rfl⟩ := rx
    cases y with
    | non => cases ry; exact PySem.EqNone.ne_int_none (fin_bl I q (by simp))
    | int j => obtain ⟨t', rfl⟩ := ry; exact ne_int (fin_bl I q (congrArg not dec_int))
    | str j => obtain ⟨t', rfl⟩ := ry; exact PySem.EqMixed.ne_int_str (fin_bl I q (by simp))
    | _ => exact absurd (show false = true from hs) Bool.false_ne_true
  | str i =>
    obtain ⟨t, rfl⟩ := rx
    cases y with
    | non => cases ry; exact PySem.EqNone.ne_str_none (fin_bl I q (by simp))
    | bl j => cases ry; exact PySem.EqMixed.ne_str_bool (fin_bl I q (by simp))
    | int j => obtain ⟨t', rfl⟩ := ry; exact PySem.EqMixed.ne_str_int (fin_bl I q (by simp))
    | str j => obtain ⟨t', rfl⟩ := ry; exact ne_str (fin_bl I q (congrArg not dec_str))
    | _ => exact absurd (show false = true from hs) Bool.false_ne_true
  | byt i =>
    obtain ⟨t, rfl⟩ := rx
    cases y with
    | byt j => obtain ⟨t', rfl⟩ := ry; exact PySem.W.ne_bytes (fin_bl I q (congrArg not dec_byt))
    | _ => exact absurd (show false = true from hs) Bool.false_ne_true
  | _ => cases y <;> exact absurd (show false = true from hs) Bool.false_ne_true
theorem op_lt : OpR X (compareOp .Lt) (rI0 fun i j => .bl (decide (i < j))) := opB0 fun _ _ _ _ _ _ _ q => lt_int q
theorem op_le : OpR X (compareOp .LtE) (rI0 fun i j => .bl (decide (i ≤ j))) := opB0 fun _ _ _ _ _ _ _ q => le_int q
theorem op_gt : OpR X (compareOp .Gt) (rI0 fun i j => .bl (decide (j < i))) := opB0 fun _ _ _ _ _ _ _ q => gt_int q
theorem op_ge : OpR X (compareOp .GtE) (rI0 fun i j => .bl (decide (j ≤ i))) := opB0 fun _ _ _ _ _ _ _ q => ge_int q
theorem op_isN : OpR X (compareOp .Is) (fun x y H Q => y = .non ∧ Q (.bl (decide (x = .non))) H) := by
  intro pins s σ H x y v u Q I rx ry h
  obtain ⟨rfl, q⟩ := h
  cases ry
  refine is_none_gen (fin_bl I q ?_)
  cases x <;> first
    | (cases rx; rfl)
    | (obtain ⟨t, rfl⟩ := rx; rfl)
theorem nomark (b : Expr) {op : CmpOp} (h : op ≠ .In := by decide) (h2 : op ≠ .NotIn := by decide) : behindInMarks op b = false := by
  have e1 : (op == CmpOp.In) = false := by cases op <;> first | rfl | exact absurd rfl h
  have e2 : (op == CmpOp.NotIn) = false := by cases op <;> first | rfl | exact absurd rfl h2
  cases b <;> simp [behindInMarks, e1, e2]
theorem pe_cmpR {op : CmpOp} {r : R2} (ho : OpR X (compareOp op) r) (ha : PE X a ta) (hb : PE X b tb) (hm : behindInMarks op b = false) : PE X (.Compare a [op] [b] pos) (tOp r ta tb) := by
  intro pins s σ H Q I h
  exact wpAny_Compare1 (binT ha hb I h fun v u s2 x y H2 I2 rx ry q => ho pins s2 σ H2 x y v u Q I2 rx ry q) hm
def tTest (t : TE) : TT := fun σ H Q => t σ H fun x H' => ∃ k, x = .bl k ∧ Q k H'
theorem pt_cmpR {op : CmpOp} {r : R2} (ho : OpR X (compareOp op) r) (ha : PE X a ta) (hb : PE X b tb) (hm : behindInMarks op b = false) : PT X (.Compare a [op] [b] pos) (tTest (tOp r ta tb)) := by
  intro pins s σ H Q I h
  refine wpAny_isTrue_Compare1 (thn (ha pins s σ H _ I h) fun v s1 ⟨x, H1, I1, r1, q1⟩ => thn (hb pins s1 σ H1 _ I1 q1) fun u s2 ⟨y, H2, I2, r2, q2⟩ =>
    thn (ho pins s2 σ H2 x y v u _ I2 r1 r2 q2) fun c s3 ⟨z, H3, I3, r3, k, e, q3⟩ => ?_) hm
  subst e
  cases r3
  exact wpAny_truthy_bool ⟨H3, I3, q3⟩
theorem line63 : (sizeLine : Nat) < 2 ^ 63 := by rw [sizeLine_eq]; decide
theorem op_add_str : OpR X (binaryOp .Add) (fun x y H Q => ∃ i j, x = .str i ∧ y = .str j ∧ i.length + j.length ≤ sizeLine ∧ Q (.str (i ++ j)) H) := by
  intro pins s σ H x y v u Q I rx ry h
  obtain ⟨i, j, rfl, rfl, hz, q⟩ := h
  obtain ⟨t, rfl⟩ := rx
  obtain ⟨t', rfl⟩ := ry
  exact add_str (fun t' tk => ⟨.str (i ++ j), H, I.tok _, ⟨_, rfl⟩, q⟩) hz
theorem vals1 {x : V} {us : List Value} (r : Vals [x] us) : ∃ u, us = [u] ∧ RelV x u := by
  cases r with
  | cons r1 r2 => cases r2; exact ⟨_, rfl, r1⟩
theorem vals2 {x y : V} {us : List Value} (r : Vals [x, y] us) : ∃ u w', us = [u, w'] ∧ RelV x u ∧ RelV y w' := by
  cases r with
  | cons r1 r2 =>
    cases r2 with
    | cons r3 r4 => cases r4; exact ⟨_, _, rfl, r1, r3⟩
theorem call_int1 : CallR X (.type "int") (fun xs H Q => (∃ i, xs = [.int i] ∧ Q (.int i) H) ∨ ∃ k, xs = [.bl k] ∧ Q (.int (if k then 1 else 0)) H) := by
  intro pins s σ H xs us Q I r h
  rcases h with ⟨i, rfl, q⟩ | ⟨k, rfl, q⟩
  · obtain ⟨u, rfl, t, rfl⟩ := vals1 r
    exact call_int_int ⟨.int i, H, I, ⟨_, rfl⟩, q⟩
  · obtain ⟨u, rfl, r1⟩ := vals1 r
    cases r1
    exact call_int_bool ⟨.int (if k then 1 else 0), H, I.tok _, ⟨_, rfl⟩, q⟩
end
end L2
namespace L2
open PySem PySem.Spec PyProof.Rows
structure ObjM (h : Heap) (x dx C : Addr) (mA : Str → Option Value) : Prop where
  obj : h.get? x = some (PySem.W.instObj C dx)
  ns : h.Ns1 dx mA
  ne : dx ≠ x
theorem lookIn_ns {h : Heap} {dx : Addr} {mA : Str → Option Value} (n : h.Ns1 dx mA) : ∃ od, h.get? dx = some od ∧ ∀ name, PySem.W.lookIn name od = some (mA name) := by
  obtain ⟨o, es, ep, ho, hd, hk, _, hm⟩ := n
  refine ⟨o, ho, fun name => ?_⟩
  have e := hm name
  unfold nsFind findBy at e
  rw [← Array.find?_toList] at e
  unfold PySem.W.lookIn
  rw [hd]
  dsimp only
  split
  · rename_i y q
    rw [q] at e
    exact congrArg some e
  · rename_i q
    rw [q] at e
    have a : es.toList.any (·.refKey) = false := by
      rw [List.any_eq_false]
      intro y hy
      obtain ⟨z, t, hkey⟩ := hk y (Array.mem_toList_iff.mp hy)
      simp [DictEntry.refKey, hkey]
    have a' : ¬ es.toList.any (·.refKey) = true := by rw [a]; exact Bool.false_ne_true
    rw [if_neg a']
    exact congrArg some e
theorem ObjM.look {h : Heap} {x dx C : Addr} {mA : Str → Option Value} (I : ObjM h x dx C mA) : ∃ od, PySem.W.InstAt h x (PySem.W.instObj C dx) C (some od) ∧ ∀ name, PySem.W.lookIn name od = some (mA name) :=
  let ⟨od, ho, hl⟩ := lookIn_ns I.ns
  ⟨od, ⟨I.obj, rfl, rfl, ho⟩, hl⟩
section
variable {P : Program} {w : World} {H H' : Hp} {h h' : Heap} {a C dx : Addr} {fs fs' : List (Str × V)}
theorem ins_get (hok : HOk P w H h) (e : H a = some (.ins C dx fs)) : ∃ mA, ObjM h a dx C mA ∧ (∀ f, RelO (fs.lookup f) (mA f)) ∧ PySem.Within mA (fs.map (·.1)) ∧ fs.length ≤ 1000 ∧ H dx = some (.own a) := by
  obtain ⟨d, z, ne, ob, mA, n, r, q⟩ := (show ObjOk P w H h a (.ins C dx fs) from hok a _ e)
  exact ⟨mA, ⟨ob, n, ne⟩, r, q, z, d⟩
end
structure Cls (K : PySem.W.Frag) (C : Addr) : Prop where
  pg : PySem.W.plainGet K C Str.empty = true
  hd : PySem.W.hasDictIn K C = true
  po : PySem.W.plainOver K C = true
  sa : PySem.W.findIn K (.ref C) "__setattr__" = some (some (.builtin "object.__setattr__"))
theorem Cls.get {K : PySem.W.Frag} {C : Addr} (c : Cls K C) (f : Str) : PySem.W.plainGet K C f = true := c.pg
section
variable {X : Cx} {pins : List (Addr × Obj)} {σ : St} {H : Hp} {s : Shared} {a C dx : Addr} {fs : List (Str × V)} {f : Str} {v : V} {A : Around} {E : Value → Shared → Prop}
theorem Inv.made (I : Inv X pins σ H s) : Inv X pins σ (upd (upd H s.heap.objs.size (.own (s.heap.objs.size + 1))) (s.heap.objs.size + 1) (.ins C s.heap.objs.size []))
    { s with heap := (s.heap.push PySem.W.emptyDict).push (PySem.W.instObj C s.heap.objs.size) } := by
  have e1 : (s.heap.push PySem.W.emptyDict).get? s.heap.objs.size = some PySem.W.emptyDict := Heap.get?_push_size s.heap rfl
  have e2 : ((s.heap.push PySem.W.emptyDict).push (PySem.W.instObj C s.heap.objs.size)).get? (s.heap.objs.size + 1) = some (PySem.W.instObj C s.heap.objs.size) := by
    have := Heap.get?_push_size (s.heap.push PySem.W.emptyDict) (o := PySem.W.instObj C s.heap.objs.size) rfl
    rwa [Heap.size_push] at this
  have e3 : (s.heap.push PySem.W.emptyDict).Ns s.heap.objs.size (fun _ => none) := ⟨PySem.W.emptyDict, #[], _, e1, rfl, (fun e he => absurd he (by simp)), fun _ => rfl⟩
  have I1 := I.laid (a := s.heap.objs.size) (o := .own (s.heap.objs.size + 1)) (h' := s.heap.push PySem.W.emptyDict) (t' := s.toks) (fun b u q => Heap.get?_push_of_some _ q) (Nat.le_refl _) ⟨_, e1⟩
  refine I1.laid (a := s.heap.objs.size + 1) (o := .ins C s.heap.objs.size []) (t' := s.toks) (fun b u q => Heap.get?_push_of_some _ q) (Nat.le_of_eq (Heap.size_push _ _)) ?_
  have ne : s.heap.objs.size ≠ s.heap.objs.size + 1 := Nat.ne_of_lt (Nat.lt_succ_self _)
  refine ⟨by rw [upd_ne ne, upd_same], Nat.zero_le _, ne, e2, fun _ => none, (Heap.Ns1.of_empty e3).at fun o q => Heap.get?_push_of_some _ q, fun _ => True.intro, fun y hy => absurd rfl hy⟩
end
section
variable {X : Cx} {pins : List (Addr × Obj)} {σ : St} {H : Hp} {s : Shared} {A : Around} {E : Value → Shared → Prop} {Q : Value → Shared → Prop} {c : Value} {b : Bool}
inductive TyOf (K : PySem.W.Frag) (H : Hp) : V → Value → Prop where
  | non : TyOf K H .non (.type "NoneType")
  | bl (x : Bool) : TyOf K H (.bl x) (.type "bool")
  | int (i : Int) : TyOf K H (.int i) (.type "int")
  | str (x : Str) : TyOf K H (.str x) (.type "str")
  | flt (x : UInt64) : TyOf K H (.flt x) (.type "float")
  | lst {a : Addr} {xs : List V} (e : H a = some (.lst xs)) : TyOf K H (.ref a) (.type "list")
  | frz {a : Addr} {o : Obj} {xs : List V} (e : H a = some (.frz o (.lst xs))) : TyOf K H (.ref a) (.type "list")
  | tup {a : Addr} {xs : List V} (e : H a = some (.tup xs)) : TyOf K H (.ref a) (.type "tuple")
  | dK {a : Addr} {kvs : List (Key × V)} (e : H a = some (.dK kvs)) : TyOf K H (.ref a) (.type "dict")
  | dT {a : Addr} {kvs : List (List Key × V)} (e : H a = some (.dT kvs)) : TyOf K H (.ref a) (.type "dict")
  | ins {a C dx : Addr} {fs : List (Str × V)} (e : H a = some (.ins C dx fs)) (cl : Cls K C) (ha : PySem.W.findIn K (.ref C) "__class__" = some (some (.builtin "object.__class__")))
      (hn : PySem.W.specialIn K (.builtin "object.__class__") "__get__" = some (some (.builtin "getset_descriptor.__get__"))) (htk : PySem.W.takesIn K (.builtin "object.__class__") = some true)
      (hm : PySem.W.mroIn K C (.type "object") = some true) : TyOf K H (.ref a) (.ref C)
theorem isinst_ok {x : V} {u t : Value} (I : Inv X pins σ H s) (rx : RelV x u) (ty : TyOf X.K H x t) (e : PySem.W.kitOne X.K t c = some b) (h : ∀ tk, Q (.bool b) { s with toks := tk }) :
    wpAny (model X.prog X.w) A (call (.builtin "isinstance") [u, c]) Q E s := by
  cases ty with
  | non => cases (show u = Value.none from rx); exact PySem.W.kia_one PySem.W.kitx_none I.kIn True.intro e (fun z => nomatch z) h
  | bl y => cases (show u = Value.bool y from rx); exact PySem.W.kia_one PySem.W.kitx_bool I.kIn True.intro e (fun z => nomatch z) h
  | int i => obtain ⟨t, q⟩ := (show ∃ t, u = Value.int i t from rx); cases q; exact PySem.W.kia_one PySem.W.kitx_int I.kIn True.intro e (fun z => nomatch z) h
  | str y => obtain ⟨t, q⟩ := (show ∃ t, u = Value.str y t from rx); cases q; exact PySem.W.kia_one PySem.W.kitx_str I.kIn True.intro e (fun z => nomatch z) h
  | flt y => obtain ⟨t, q⟩ := (show ∃ t, u = Value.float y t from rx); cases q; exact PySem.W.kia_one PySem.W.kitx_float I.kIn True.intro e (fun z => nomatch z) h
  | @lst a xs ea =>
    cases (show u = Value.ref a from rx)
    obtain ⟨_, _, n, _, h1⟩ := (show ObjOk X.prog X.w H s.heap a (.lst xs) from I.hok a _ ea)
    exact PySem.W.kia_one PySem.W.kitx_list I.kIn ⟨_, h1, rfl⟩ e (fun z => nomatch z) h
  | @frz a ob xs ea =>
    cases (show u = Value.ref a from rx)
    obtain ⟨_, _, _, n, _, h1⟩ := (show ObjOk X.prog X.w H s.heap a (.frz ob (.lst xs)) from I.hok a _ ea)
    exact PySem.W.kia_one PySem.W.kitx_list I.kIn ⟨_, h1, rfl⟩ e (fun z => nomatch z) h
  | @tup a xs ea =>
    cases (show u = Value.ref a from rx)
    obtain ⟨_, _, _, p⟩ := (show ObjOk X.prog X.w H s.heap a (.tup xs) from I.hok a _ ea)
    obtain ⟨o, h1, h2, _⟩ := p
    exact PySem.W.kia_one PySem.W.kitx_tuple I.kIn ⟨o, h1, h2⟩ e (fun z => nomatch z) h
  | @dK a kvs ea =>
    cases (show u = Value.ref a from rx)
    obtain ⟨_, _, vs, _, p⟩ := (show ObjOk X.prog X.w H s.heap a (.dK kvs) from I.hok a _ ea)
    obtain ⟨o, es, ep, h1, h2, _⟩ := p
    exact PySem.W.kia_one PySem.W.kitx_dict I.kIn ⟨o, h1, h2.1⟩ e (fun z => nomatch z) h
  | @dT a kvs ea =>
    cases (show u = Value.ref a from rx)
    obtain ⟨_, _, xs, _, o, es, ep, h1, h2, _⟩ := (show ObjOk X.prog X.w H s.heap a (.dT kvs) from I.hok a _ ea)
    exact PySem.W.kia_one PySem.W.kitx_dict I.kIn ⟨o, h1, h2.1⟩ e (fun z => nomatch z) h
  | @ins a C dx fs ea cl ha hn htk hm =>
    cases (show u = Value.ref a from rx)
    obtain ⟨mA, O, _⟩ := ins_get I.hok ea
    obtain ⟨od, J, _⟩ := O.look
    exact PySem.W.kia_one (PySem.W.kitx_own (cl.get _) cl.hd ha hn htk hm) I.kIn J e (fun z => nomatch z) h
end
end L2
namespace L2
open PySem PySem.Spec PyProof.Rows
structure Room (k : Nat) (A : Around) : Prop where
  hd : A.handled = none
  dp : A.depth + 3 * k + 5 < recursionLimit
  un : A.units + 16 * k + 200 < cLine
  gd : A.guards = some []
theorem Room.mono {j k : Nat} {A : Around} (r : Room k A) (h : j ≤ k) : Room j A := ⟨r.hd, by have := r.dp; omega, by have := r.un; omega, r.gd⟩
theorem Room.deeper {k : Nat} {A : Around} (r : Room (k + 1) A) (env : Env) : Room k (A.deeper env) :=
  ⟨r.hd, by have := r.dp; show A.depth + 1 + 3 * k + 5 < _; omega, by have := r.un; show A.units + 3 + 16 * k + 200 < _; omega, r.gd⟩
theorem Room.in1 {k : Nat} {A : Around} (r : Room (k + 1) A) : Room k A.in1 :=
  ⟨r.hd, by have := r.dp; show A.depth + 3 * k + 5 < _; omega, by have := r.un; show A.units + 1 + 16 * k + 200 < _; omega, r.gd⟩
theorem Room.depth {k : Nat} {A : Around} (r : Room k A) : A.depth < recursionLimit := by have := r.dp; omega
theorem Room.units {k : Nat} {A : Around} (r : Room k A) : A.units + 64 < cLine := by have := r.un; omega
def tNil : TA := fun _ H Q => Q [] H
def tCons (ta : TE) (tr : TA) : TA := fun σ H Q => ta σ H fun x H1 => tr σ H1 fun xs H2 => Q (x :: xs) H2
section
variable {X : Cx} {e : Expr} {es : List Expr} {te : TE} {t : TA} {pos : Pos}
theorem pa_nil : PA X [] tNil := fun _ _ _ _ H Q I h => Calls.spliced_nil ⟨[], H, I, .nil, h⟩
theorem pa_cons (ha : PE X e te) (hr : PA X es t) (hs : starEach (e :: es) X.env = (false, eval e X.env) :: starEach es X.env := by rfl) : PA X (e :: es) (tCons te t) := by
  intro pos pins s σ H Q I h
  rw [hs]
  show wpAny _ _ (spliced ((false, eval e X.env) :: backTo pos (starEach es X.env))) _ _ s
  refine Calls.spliced_cons (thn (ha pins s σ H _ I h) fun u s1 ⟨x, H1, I1, r1, q1⟩ => ?_)
  exact thn (hr pos pins s1 σ H1 _ I1 q1) fun us s2 ⟨xs, H2, I2, r2, q2⟩ => ⟨x :: xs, H2, I2, .cons r1 r2, q2⟩
def tTup (t : TA) : TE := fun σ H Q => t σ H fun xs H1 => xs.length ≤ sizeLine ∧ ∀ p, H1 p = none → Q (.ref p) (upd H1 p (.tup xs))
def tLst (t : TA) : TE := fun σ H Q => t σ H fun xs H1 => xs.length ≤ sizeLine ∧ ∀ p, H1 p = none → Q (.ref p) (upd H1 p (.lst xs))
theorem pe_tup {x1} (h : PA X es t) : PE X (.Tuple es x1 pos) (tTup t) := by
  intro pins s σ H Q I hq
  refine wpAny_Tuple_spliced (thn (h pos pins s σ H _ I hq) fun us s1 ⟨xs, H1, I1, r, z, q⟩ => ⟨by rw [← r.length]; exact z, ?_⟩)
  have hf : H1 s1.heap.objs.size = none := I1.hok.fresh (Nat.le_refl _)
  refine ⟨.ref s1.heap.objs.size, upd H1 s1.heap.objs.size (.tup xs), I1.laid (t' := s1.toks) (fun b u e => Heap.get?_push_of_some _ e) (Nat.le_refl _) ?_, rfl, q _ hf⟩
  exact ⟨z, us, r, ⟨_, Heap.get?_push_size _ rfl, rfl, _, rfl⟩⟩
theorem pe_lst (h : PA X es t) : PE X (.List es pos) (tLst t) := by
  intro pins s σ H Q I hq
  refine wpAny_List_spliced (thn (h pos pins s σ H _ I hq) fun us s1 ⟨xs, H1, I1, r, z, q⟩ => ⟨by rw [← r.length]; exact z, ?_⟩)
  have hf : H1 s1.heap.objs.size = none := I1.hok.fresh (Nat.le_refl _)
  refine ⟨.ref s1.heap.objs.size, upd H1 s1.heap.objs.size (.lst xs), I1.laid (t' := s1.toks) (fun b u e => Heap.get?_push_of_some _ e) (Nat.le_refl _) ?_, rfl, q _ hf⟩
  exact ⟨z, us, 0, r, Heap.get?_push_size _ rfl⟩
end
abbrev Sp := List V → Hp → VK → XK → Prop
abbrev CXT := List Env → Hp → Shared → XK → Value → Shared → Prop
structure Env0 (P : Program) (w : World) (K : PySem.W.Frag) (mg : Str → Option Value) (base : Heap) (A : Around) (outer : List Env) (s : Shared) (H : Hp) : Prop where
  frames : A.frames = some outer
  mod : Mod K mg base
  bs : ∀ b o, base.get? b = some o → s.heap.get? b = some o ∧ H b = none
  bsz : base.objs.size ≤ s.heap.objs.size
  funs : s.heap.FunFrames base outer
  frf : ∀ b ∈ frs outer, H b = none
  hok : HOk P w H s.heap
  bare : AllBare s.gens
def CE (outer : List Env) (P : Program) (w : World) (H : Hp) (s : Shared) (Q : VK) (u : Value) (s' : Shared) : Prop :=
  ∃ v H', s'.os = s.os ∧ AllBare s'.gens ∧ Un (frs outer) [] H H' s.heap s'.heap ∧ HOk P w H' s'.heap ∧ RelV v u ∧ Q v H'
def CR (CX : CXT) (outer : List Env) (P : Program) (w : World) (H : Hp) (s : Shared) (Q : VK) (E : XK) (r : Result) (s' : Shared) : Prop :=
  match r with
  | .ok (.ret u) => CE outer P w H s Q u s'
  | .ok _ => False
  | .error e => CX outer H s E e s'
structure FnOk (P : Program) (w : World) (K : PySem.W.Frag) (mg : Str → Option Value) (base : Heap) (CX : CXT) (k : Nat) (f : Addr) (fd : FuncData) (ps : List Str) (sp : Sp) : Prop where
  len : ∀ vs H Q E, sp vs H Q E → vs.length = ps.length
  run : ∀ (A : Around) (outer : List Env) (s : Shared) (H : Hp) (args : Args) (us : List Value) (vs : List V) (Q : VK) (E : XK), Room k A → Env0 P w K mg base A outer s H → BindsTo s fd args (ps.zip us) → Vals vs us → sp vs H Q E →
    codeAny (model P w) A (.call (.ref f) args) (CR CX outer P w H s Q E) s
theorem FnOk.mono {P : Program} {w : World} {K : PySem.W.Frag} {mg : Str → Option Value} {base : Heap} {CX : CXT} {j k : Nat} {f : Addr} {fd : FuncData} {ps : List Str} {sp : Sp} (F : FnOk P w K mg base CX j f fd ps sp) (h : j ≤ k) :
    FnOk P w K mg base CX k f fd ps sp := ⟨F.len, fun A outer s H args us vs Q E hr => F.run A outer s H args us vs Q E (hr.mono h)⟩
theorem FnOk.imp {P : Program} {w : World} {K : PySem.W.Frag} {mg : Str → Option Value} {base : Heap} {CX : CXT} {k : Nat} {f : Addr} {fd : FuncData} {ps : List Str} {sp sp' : Sp} (F : FnOk P w K mg base CX k f fd ps sp)
    (h : ∀ vs H Q E, sp' vs H Q E → sp vs H Q E) : FnOk P w K mg base CX k f fd ps sp' :=
  ⟨fun vs H Q E q => F.len vs H Q E (h _ _ _ _ q), fun A outer s H args us vs Q E hr he hb hv hs => F.run A outer s H args us vs Q E hr he hb hv (h _ _ _ _ hs)⟩
theorem Env0.in1 {P : Program} {w : World} {K : PySem.W.Frag} {mg : Str → Option Value} {base : Heap} {A : Around} {outer : List Env} {s : Shared} {H : Hp} (e : Env0 P w K mg base A outer s H) :
    Env0 P w K mg base A.in1 outer s H := ⟨e.frames, e.mod, e.bs, e.bsz, e.funs, e.frf, e.hok, e.bare⟩
section
variable {X : Cx} {pins : List (Addr × Obj)} {σ : St} {H : Hp} {s s' : Shared}
theorem Inv.env0 (I : Inv X pins σ H s) : Env0 X.prog X.w X.K X.mg X.base X.A X.stack s H :=
  ⟨I.ok.frames, I.ok.mod, I.bs, Nat.le_trans I.ok.bsz I.sz, I.stack, I.stkFree, I.hok, I.bare⟩
theorem Inv.after {Q : VK} {u : Value} (I : Inv X pins σ H s) (h : CE X.stack X.prog X.w H s Q u s') : EP X pins σ Q u s' := by
  obtain ⟨v, H', os, bare, un, hok, r, q⟩ := h
  obtain ⟨hh, g, d, t, os'⟩ := s'
  obtain rfl : os' = s.os := os
  exact ⟨v, H', I.call (h' := hh) (g' := g) (d' := d) (t' := t) (ch := []) un hok bare (fun b z => absurd z (by simp)), r, q⟩
end
def tCall (sp : Sp) (dvs : List V) (E : XK) (t : TA) : TE := fun σ H Q => t σ H fun vs H1 => sp (vs ++ dvs) H1 Q E
def Binds (K : PySem.W.Frag) (fd : FuncData) (ps : List Str) (ds : List Value) : Prop :=
  ∀ (s : Shared) (us : List Value), K.In s.heap → (us ++ ds).length = ps.length → BindsTo s fd ⟨us, []⟩ (ps.zip (us ++ ds))
theorem Binds.all {K : PySem.W.Frag} {fd : FuncData} {ps : List Str} (h : ∀ us : List Value, us.length = ps.length → bindArgs fd ⟨us, []⟩ = pure (ps.zip us)) : Binds K fd ps [] := fun s us _ hl => by
  rw [List.append_nil] at hl ⊢
  exact .of_eq (h us hl)
def Passes (CX : CXT) (X : Cx) (E : XK) : Prop := ∀ (pins : List (Addr × Obj)) (σ : St) (H : Hp) (s : Shared) (e : Value) (s' : Shared), Inv X pins σ H s → CX X.stack H s E e s' → X.xe e s'
section
variable {X : Cx} {CX : CXT} {k : Nat} {f C : Addr} {fd : FuncData} {ps : List Str} {sp : Sp} {dvs : List V} {ds : List Value} {E : XK} {x m : Str} {p pos apos : Pos} {e o : Expr} {es : List Expr} {ta : TE} {t : TA}
theorem run_fn {pins : List (Addr × Obj)} {σ : St} {H : Hp} {s : Shared} {Q : VK} {us : List Value} {vs : List V} (F : FnOk X.prog X.w X.K X.mg X.base CX k f fd ps sp) (hr : Room k X.A) (hb : Binds X.K fd ps ds) (hd : Vals dvs ds) (hx : Passes CX X E)
    (I : Inv X pins σ H s) (r : Vals vs us) (h : sp (vs ++ dvs) H Q E) : wpAny (model X.prog X.w) X.A (call (.ref f) us) (EP X pins σ Q) X.xe s := by
  have r2 : Vals (vs ++ dvs) (us ++ ds) := r.append hd
  have hl : (us ++ ds).length = ps.length := by rw [← r2.length]; exact F.len _ _ _ _ h
  refine wpAny_call (codeAny_mono (F.run X.A X.stack s H ⟨us, []⟩ (us ++ ds) (vs ++ dvs) Q E hr I.env0 (hb s us I.kIn hl) r2 h) fun r s' hq => ?_)
  cases r with
  | error e => exact hx pins σ H s e s' I hq
  | ok fl =>
    cases fl with
    | ret u => exact I.after hq
    | next => exact False.elim hq
    | brk => exact False.elim hq
    | cont => exact False.elim hq
theorem pe_call (F : FnOk X.prog X.w X.K X.mg X.base CX k f fd ps sp) (hr : Room k X.A) (hg : Gl X x) (hm : X.mg x = some (.ref f)) (hk : PySem.W.keepIn X.K (.ref f) = true) (hb : Binds X.K fd ps ds) (hd : Vals dvs ds) (hx : Passes CX X E)
    (ha : PA X (e :: es) t) (hdb : (x == ("__debug__" : Str)) = false := by decide) (he : starEach (e :: es) X.env = (false, eval e X.env) :: starEach es X.env := by rfl) (hpl : (backTo pos (starEach es X.env)).any (·.1) = false := by rfl) :
    PE X (.Call (.Name x p) (e :: es) [] pos) (tCall sp dvs E t) := by
  intro pins s σ H Q I h
  refine wpAny_Call_Name_kw (ld_glob I hg hm ?_ hdb)
  refine PySem.W.callWith_K (h₀ := X.base) I.ok.mod.kin hk (thn (ha pos pins s σ H _ I h) fun us s1 ⟨vs, H1, I1, r, q⟩ => ⟨I1.kIn, ?_⟩) he hpl
  exact run_fn F hr hb hd hx I1 r q
end
structure FnScope (N P : List Str) (sc : Scope) : Prop where
  kind : sc.kind = .function
  co : sc.isCoroutine = false
  gen : sc.isGenerator = false
  nd : N.Nodup
  pre : N.take P.length = P
  par : ∀ x ∈ P, sc.names.lookup x = some .local ∨ sc.names.lookup x = some .cell
  nofree : ∀ y ∈ sc.names, y.2 ≠ .free
theorem bindL_out {kindOf : Str → Option NameKind} {x : Str} : ∀ {binds : List (Str × Value)} {m : Str → Option Value}, (∀ v, (x, v) ∉ binds) → bindL kindOf binds m x = m x
  | [], _, _ => rfl
  | (n, v) :: r, m, h => by
    unfold bindL
    rw [bindL_out fun w hw => h w (List.mem_cons_of_mem _ hw)]
    split
    · have : x ≠ n := by rintro rfl; exact h v List.mem_cons_self
      simp [this]
    · rfl
theorem bindC_out {kindOf : Str → Option NameKind} {x : Str} : ∀ {binds : List (Str × Value)} {m : Str → Option Value}, (∀ v, (x, v) ∉ binds) → bindC kindOf binds m x = m x
  | [], _, _ => rfl
  | (n, v) :: r, m, h => by
    unfold bindC
    rw [bindC_out fun w hw => h w (List.mem_cons_of_mem _ hw)]
    split
    · rfl
    · have : x ≠ n := by rintro rfl; exact h v List.mem_cons_self
      simp [this]
theorem bindL_get {kindOf : Str → Option NameKind} {x : Str} {v : Value} : ∀ {P : List Str} {vs : List Value} {i : Nat} {m : Str → Option Value}, P.Nodup → P[i]? = some x → vs[i]? = some v → kindOf x = some .local →
    bindL kindOf (P.zip vs) m x = some v
  | [], _, _, _, _, h, _, _ => by simp at h
  | _ :: _, [], _, _, _, _, h, _ => by simp at h
  | p :: P, w :: vs, 0, m, nd, h1, h2, hk => by
    simp at h1 h2; subst h1; subst h2
    show bindL kindOf ((p, w) :: P.zip vs) m p = _
    unfold bindL
    rw [bindL_out fun v hv => (List.nodup_cons.mp nd).1 (List.of_mem_zip hv).1, if_pos hk]
    simp
  | p :: P, w :: vs, i + 1, m, nd, h1, h2, hk => by
    show bindL kindOf ((p, w) :: P.zip vs) m x = _
    unfold bindL
    exact bindL_get (i := i) (List.nodup_cons.mp nd).2 (by simpa using h1) (by simpa using h2) hk
theorem bindC_get {kindOf : Str → Option NameKind} {x : Str} {v : Value} : ∀ {P : List Str} {vs : List Value} {i : Nat} {m : Str → Option Value}, P.Nodup → P[i]? = some x → vs[i]? = some v → kindOf x ≠ some .local →
    bindC kindOf (P.zip vs) m x = some v
  | [], _, _, _, _, h, _, _ => by simp at h
  | _ :: _, [], _, _, _, _, h, _ => by simp at h
  | p :: P, w :: vs, 0, m, nd, h1, h2, hk => by
    simp at h1 h2; subst h1; subst h2
    show bindC kindOf ((p, w) :: P.zip vs) m p = _
    unfold bindC
    rw [bindC_out fun v hv => (List.nodup_cons.mp nd).1 (List.of_mem_zip hv).1, if_neg hk]
    simp
  | p :: P, w :: vs, i + 1, m, nd, h1, h2, hk => by
    show bindC kindOf ((p, w) :: P.zip vs) m x = _
    unfold bindC
    exact bindC_get (i := i) (List.nodup_cons.mp nd).2 (by simpa using h1) (by simpa using h2) hk
def start (N : List Str) (vs : List V) : St := vs.map some ++ List.replicate (N.length - vs.length) none
def cxOf (CX : CXT) (P : Program) (w : World) (K : PySem.W.Frag) (mg : Str → Option Value) (base : Heap) (N : List Str) (qual : Str) (scope : Scope) (f : Addr) (cd : Value) (A : Around) (outer : List Env) (s : Shared) (H : Hp) (E : XK) : Cx where
  prog := P
  w := w
  K := K
  mg := mg
  base := base
  A := A.deeper (envOfC qual scope s.heap.objs.size f cd)
  N := N
  s₀ := s
  H₀ := H
  env := envOfC qual scope s.heap.objs.size f cd
  outer := outer
  stack := envOfC qual scope s.heap.objs.size f cd :: outer
  ex := []
  calm := true
  fn := fun _ => true
  pn := []
  xe := fun e s' => wpAny (model P w) (A.deeper (envOfC qual scope s.heap.objs.size f cd)) (leaving (envOfC qual scope s.heap.objs.size f cd) e) (fun _ s'' => CX outer H s E e s'') (fun e' s'' => CX outer H s E e' s'') s'
theorem cell_has {sc : Scope} {n : Nat} {x : Str} (h : sc.names.lookup x = some .cell) : ∃ c, (cellsFrom n sc.names []).lookup x = some c := by
  have q := PySem.W.cellsFrom_some sc.names n [] (.inl h)
  exact Option.isSome_iff_exists.mp q
theorem inv_start {CX : CXT} {P : Program} {w : World} {K : PySem.W.Frag} {mg : Str → Option Value} {base : Heap} {N ps : List Str} {qual : Str} {scope : Scope} {f : Addr} {cd : Value} {A : Around} {outer : List Env} {s s1 : Shared} {H : Hp} {E : XK} {us : List Value} {vs : List V}
    (S : FnScope N ps scope) (hd : A.handled = none) (e0 : Env0 P w K mg base A outer s H) (hl : vs.length = ps.length) (r : Vals vs us)
    (x : InCallC s s.heap.objs.size (bindL (envOfC qual scope s.heap.objs.size f cd).kindOf (ps.zip us) fun _ => none) (cellsFrom (s.heap.objs.size + 1) scope.names []) (bindC (envOfC qual scope s.heap.objs.size f cd).kindOf (ps.zip us) fun _ => none) s1) :
    Inv (cxOf CX P w K mg base N qual scope f cd A outer s H E) [] (start N vs) H s1 := by
  have hpl : ps.length ≤ N.length := by have := congrArg List.length S.pre; rw [List.length_take] at this; omega
  obtain ⟨h1, tk, rfl, hk⟩ := x.done
  have noA : ∀ b : Addr, b ∉ (cxOf CX P w K mg base N qual scope f cd A outer s H E).ex := fun b z => absurd (show b ∈ ([] : List Addr) from z) (by simp)
  refine ⟨⟨e0.mod, S.kind, rfl, rfl, Nat.le_refl _, fun y z c h1 h2 => ?_, fun y hy => ?_, fun y c _ h => ?_, fun _ => hd, Around.frames_deeper e0.frames, .inr ⟨rfl, rfl⟩, fun b z => absurd z (noA b), e0.bs, e0.bsz, fun b _ _ => noA b, fun b z => absurd z (noA b), e0.funs, e0.frf⟩,
    rfl, e0.bare, Un.kept hk, ⟨_, x.toInCall.ns, fun i y v h1 h2 h3 => ?_⟩, fun y c h => ⟨_, x.cell y c h⟩, e0.hok.fresh (Nat.le_refl _), fun y c h => ?_, fun p hp => absurd (show p ∈ ([] : List (Addr × Obj)) from hp) (by simp), e0.hok.kept hk, ?_⟩
  · exact name_of_addr x.apart (PySem.mem_of_lookup h1) (PySem.mem_of_lookup h2)
  · have hy : scope.names.lookup y = some .cell ∨ scope.names.lookup y = some .free := hy
    rcases hy with hy | hy
    · exact cell_has hy
    · exact absurd rfl (S.nofree _ (PySem.mem_of_lookup hy))
  · exact Nat.le_of_lt (x.above y c (PySem.mem_of_lookup h))
  · have hi : i < vs.length := by
      unfold start at h2
      by_cases hi : i < vs.length
      · exact hi
      · rw [List.getElem?_append_right (by simpa using hi)] at h2
        rw [List.getElem?_replicate] at h2
        split at h2 <;> cases h2
    have ha : vs[i]? = some v := by
      unfold start at h2
      rw [List.getElem?_append_left (by simpa using hi), List.getElem?_map] at h2
      cases e : vs[i]? with
      | none => rw [e] at h2; cases h2
      | some a => rw [e] at h2; cases h2; rfl
    obtain ⟨u, hu, rv⟩ := r.get ha
    have hp : ps[i]? = some y := by
      rw [← S.pre, List.getElem?_take_of_lt (by omega)]; exact h1
    have ndP : ps.Nodup := by rw [← S.pre]; exact S.nd.sublist (List.take_sublist _ _)
    refine ⟨u, rv, ?_⟩
    rcases S.par y (List.mem_of_getElem? hp) with k | k
    · exact .inl ⟨k, bindL_get ndP hp hu k⟩
    · obtain ⟨c, e⟩ := cell_has (n := s.heap.objs.size + 1) k
      refine .inr ⟨.inl k, c, e, ?_⟩
      have q := x.cell y c e
      rw [bindC_get ndP hp hu (by show scope.names.lookup y ≠ _; rw [k]; decide)] at q
      exact q
  · exact e0.hok.fresh (Nat.le_of_lt (x.above y c (PySem.mem_of_lookup h)))
  · unfold start
    show _ = N.length
    rw [List.length_append, List.length_map, List.length_replicate]
    omega
theorem fn_of {CX : CXT} {P : Program} {w : World} {K : PySem.W.Frag} {mg : Str → Option Value} {base : Heap} {k : Nat} {f : Addr} {name qual : Str} {params : Arguments} {body : List Stmt} {scope : Scope} {dV kV doc pm cdv ct oc : Value} {an od : Option Addr}
    {osl : Array (Option Value)} {N ps : List Str} {sp : Sp} (lk : K.lookup f = some ⟨oc, od, .func (PySem.W.fnOf name qual params body scope dV kV doc pm an cdv ct), osl⟩) (hcd : PySem.W.codeIn K cdv qual = true) (S : FnScope N ps scope)
    (len : ∀ vs H Q E, sp vs H Q E → vs.length = ps.length)
    (hbody : ∀ (A : Around) (outer : List Env) (s : Shared) (H : Hp) (vs : List V) (Q : VK) (E : XK), Room k (A.deeper (envOfC qual scope s.heap.objs.size f cdv)) → sp vs H Q E →
      ∃ t, PSs (cxOf CX P w K mg base N qual scope f cdv A outer s H E) body t ∧ t { nx := fun _ H' => Q .non H', rt := Q } (start N vs) H) :
    FnOk P w K mg base CX (k + 1) f (PySem.W.fnOf name qual params body scope dV kV doc pm an cdv ct) ps sp := by
  refine ⟨len, fun A outer s H args us vs Q E hr e0 hb r hsp => ?_⟩
  have hl := len _ _ _ _ hsp
  have KX : K.In s.heap := e0.mod.kin.keeps fun b o e => (e0.bs b o e).1
  have lim : s.heap.NoLimit := e0.mod.nolimit.keeps fun b o e => (e0.bs b o e).1
  have hkind : ∀ y ∈ ps.zip us, scope.names.lookup y.1 = some .local ∨ (scope.names.lookup y.1 = some .cell ∧ ((cellsFrom (s.heap.objs.size + 1) scope.names []).lookup y.1).isSome = true) := fun ⟨n, v⟩ hy => by
    rcases S.par n (List.of_mem_zip hy).1 with q | q
    · exact .inl q
    · exact .inr ⟨q, PySem.W.cellsFrom_some _ _ _ (.inl q)⟩
  refine codeAny_call_function hr.depth (KX _ _ lk) rfl S.co S.gen rfl (PySem.W.codeRec_of KX hcd) (hb _ _ _ _ ?_)
  refine wpAny_newFunctionEnv_cells S.kind hkind fun env he s1 x => ?_
  subst he
  refine ⟨lim.keeps x.toInCall.keep, codeAny_func ?_⟩
  obtain ⟨t, ht, hq⟩ := hbody A outer s H vs Q E (hr.deeper _) hsp
  have I : Inv (cxOf CX P w K mg base N qual scope f cdv A outer s H E) [] (start N vs) H s1 := inv_start S hr.hd e0 hl r x
  refine wpAny_mono (ht [] s1 (start N vs) H _ I hq) (fun fl s' hs => ?_) fun e s' hs => hs
  have fin : ∀ {σ' : St} {H' : Hp} {v : V} {u : Value}, Inv (cxOf CX P w K mg base N qual scope f cdv A outer s H E) [] σ' H' s' → RelV v u → Q v H' → CE outer P w H s Q u s' :=
    fun {σ' H' v u} J rv q => ⟨v, H', J.os, J.bare, J.base, J.hok, rv, q⟩
  cases fl with
  | ret u =>
    obtain ⟨v, σ', H', J, rv, q⟩ := hs
    exact fin J rv q
  | next =>
    obtain ⟨σ', H', J, q⟩ := hs
    exact fin (v := V.non) (u := Value.none) J rfl q
  | brk =>
    obtain ⟨_, _, _, q⟩ := hs
    exact False.elim q
  | cont =>
    obtain ⟨_, _, _, q⟩ := hs
    exact False.elim q
end L2
namespace L2
open PySem PySem.Spec PyProof.Rows
section
variable {X : Cx} {x : Str} {p pos : Pos} {e : Expr} {es : List Expr} {t : TA} {id T : String} {r : List V → Hp → VK → Prop}
def tCB (r : List V → Hp → VK → Prop) (t : TA) : TE := fun σ H Q => t σ H fun vs H1 => r vs H1 Q
theorem pe_callB (hc : CallR X (.builtin id) r) (hg : Gl X x) (hm : X.mg x = none) (hv : bootBuiltins x = some (.builtin id)) (ha : PA X (e :: es) t) (hn : x ≠ "__name__" := by decide) (hdb : (x == ("__debug__" : Str)) = false := by decide)
    (he : starEach (e :: es) X.env = (false, eval e X.env) :: starEach es X.env := by rfl) (hpl : (backTo pos (starEach es X.env)).any (·.1) = false := by rfl) : PE X (.Call (.Name x p) (e :: es) [] pos) (tCB r t) := by
  intro pins s σ H Q I h
  refine wpAny_Call_Name_kw (ld_blt I hg hm hv ?_ hn hdb)
  exact PyProof.Rows.callWith_builtin1 (thn (ha pos pins s σ H _ I h) fun us s1 ⟨vs, H1, I1, r1, q1⟩ => hc pins s1 σ H1 vs us Q I1 r1 q1) he hpl
theorem pe_callTy (hc : CallR X (.type T) r) (hg : Gl X x) (hm : X.mg x = none) (hv : bootBuiltins x = some (.type T)) (ha : PA X (e :: es) t) (hn : x ≠ "__name__" := by decide) (hdb : (x == ("__debug__" : Str)) = false := by decide)
    (he : starEach (e :: es) X.env = (false, eval e X.env) :: starEach es X.env := by rfl) (hpl : (backTo pos (starEach es X.env)).any (·.1) = false := by rfl) : PE X (.Call (.Name x p) (e :: es) [] pos) (tCB r t) := by
  intro pins s σ H Q I h
  refine wpAny_Call_Name_kw (ld_blt I hg hm hv ?_ hn hdb)
  exact PyProof.Rows.callWith_type1 (thn (ha pos pins s σ H _ I h) fun us s1 ⟨vs, H1, I1, r1, q1⟩ => hc pins s1 σ H1 vs us Q I1 r1 q1) he hpl
end
end L2
namespace HT
open PySem PyProof.Rows
section
variable {prog : Program} {w : World} {A : Around} {E : Value → Shared → Prop} {s : Shared}
theorem cat_tup {t b : Addr} {vs ws : List Value} {Q : Value → Shared → Prop} (ht : IsTup s.heap t vs.toArray) (hb : IsTup s.heap b ws.toArray) (hv : vs ≠ [])
    (h1 : ws = [] → Q (.ref t) s) (h2 : ws ≠ [] → Q (.ref s.heap.objs.size) { s with heap := s.heap.push { cls := .type "tuple", data := .seq (vs ++ ws).toArray } })
    (hsz : vs.length + ws.length ≤ sizeLine) : wpAny (model prog w) A (binaryOp .Add (.ref t) (.ref b)) Q E s := by
  obtain ⟨⟨cls, dd, data, sl⟩, ho, hc, n, hd⟩ := id ht
  obtain ⟨⟨cls2, dd2, data2, sl2⟩, ho2, hc2, n2, hd2⟩ := id hb
  simp only at hc hd hc2 hd2
  subst hc hd hc2 hd2
  have e : vs.toArray ++ ws.toArray = (vs ++ ws).toArray := by simp
  by_cases hw : ws = []
  · exact concat_meets ⟨_, ho, rfl⟩ ⟨_, ho2, rfl⟩ noFill_tuple_add seq_tuple_add PySem.F.slot_tuple_add PySem.F.entry_tuple_add (PySem.F.args_tuple_add_2 _ _)
      (tuple_addW1 t b vs.toArray ws.toArray n n2 dd dd2 sl sl2 (by simpa using hv) (by simp [hw])) ⟨ho, ho2, h1 hw⟩
  · refine concat_meets ⟨_, ho, rfl⟩ ⟨_, ho2, rfl⟩ noFill_tuple_add seq_tuple_add PySem.F.slot_tuple_add PySem.F.entry_tuple_add (PySem.F.args_tuple_add_2 _ _)
      (tuple_addW2 t b vs.toArray ws.toArray n n2 dd dd2 sl sl2 (by simpa using hv) (by simpa using hw) (by rw [List.size_toArray, List.size_toArray]; exact hsz)) ⟨ho, ho2, ?_⟩
    rw [e]
    exact h2 hw
def sIx (n d : Nat) : Option Int → Nat
  | none => d
  | some v => if v < 0 then (v + (n : Int)).toNat else min v.toNat n
theorem sIx_le (n d : Nat) (hd : d ≤ n) (o : Option Int) : sIx n d o ≤ n := by
  cases o with
  | none => exact hd
  | some v =>
    show (if v < 0 then (v + (n : Int)).toNat else min v.toNat n) ≤ n
    by_cases hv : v < 0
    · rw [if_pos hv]; omega
    · rw [if_neg hv]; exact Nat.min_le_right _ _
theorem clip_eq (v : Int) (n d : Nat) : (if v < 0 then max (v + (n : Int)) 0 else min v (n : Int)) = ((sIx n d (some v) : Nat) : Int) := by
  show (if v < 0 then max (v + (n : Int)) 0 else min v (n : Int)) = (((if v < 0 then (v + (n : Int)).toNat else min v.toNat n) : Nat) : Int)
  by_cases hv : v < 0
  · simp only [if_pos hv]; omega
  · simp only [if_neg hv]; omega
theorem adjust_gen (lo hi : Option Int) (n : Nat) : Builtin.Slice.sliceAdjust lo hi 1 (n : Int) = (((sIx n 0 lo : Nat) : Int), ((sIx n n hi : Nat) : Int)) := by
  have h1 : ¬ ((1 : Int) < 0) := by omega
  unfold Builtin.Slice.sliceAdjust
  simp only [h1, if_false]
  refine Prod.ext ?_ ?_
  · cases lo with
    | none => rfl
    | some v => exact clip_eq v n 0
  · cases hi with
    | none => rfl
    | some v => exact clip_eq v n n
theorem places_gen (i j : Nat) : Builtin.Slice.slicePlaces (i : Int) (j : Int) 1 = j - i := by
  unfold Builtin.Slice.slicePlaces
  have h1 : (1 : Int) > 0 := by omega
  simp only [h1, if_true, Int.ediv_one]
  split <;> omega
theorem slicePart_ {v : Value} {o : Option Int} {Q : Option Int → Shared → Prop} (p : IsPart v o) (h : Q o s) : wpAny (model prog w) A (Builtin.Slice.slicePartIndex v) Q E s := by
  cases p with
  | none => exact slicePart_none h
  | int i t => exact slicePart_int h
theorem sliceApplied_gen {sl : Addr} {vl vu : Value} {lo hi : Option Int} {n : Nat} {Q : Int × Int × Nat → Shared → Prop} (hs : s.heap.IsSliceOf sl vl vu .none) (pl : IsPart vl lo) (pu : IsPart vu hi)
    (h : Q (((sIx n 0 lo : Nat) : Int), 1, sIx n n hi - sIx n 0 lo) s) : wpAny (model prog w) A (Builtin.Slice.sliceApplied (.ref sl) (pure (n : Int))) Q E s := by
  obtain ⟨os, hos, hcs, hds⟩ := id hs
  unfold Builtin.Slice.sliceApplied Builtin.Slice.sliceFields
  refine wpAny_bind (wpAny_bind (wpAny_field hos hds (x := vl) rfl (wpAny_bind (wpAny_field hos hds (x := vu) rfl (wpAny_bind (wpAny_field hos hds (x := .none) rfl (wpAny_pure ?_)))))))
  refine wpAny_bind (slicePart_none ?_)
  show wpAny _ _ (if ((1 : Int) == 0) = true then _ else _) _ _ s
  rw [if_neg (by decide)]
  refine wpAny_bind (slicePart_ pl (wpAny_bind (slicePart_ pu (wpAny_bind (wpAny_pure ?_)))))
  show wpAny _ _ (match Builtin.Slice.sliceAdjust lo hi 1 (n : Int) with | (lo, hi) => pure (lo, (1 : Int), Builtin.Slice.slicePlaces lo hi 1)) _ _ s
  rw [adjust_gen lo hi n]
  show wpAny _ _ (pure (((sIx n 0 lo : Nat) : Int), (1 : Int), Builtin.Slice.slicePlaces ((sIx n 0 lo : Nat) : Int) ((sIx n n hi : Nat) : Int) 1)) _ _ s
  rw [places_gen]
  exact wpAny_pure h
theorem pick_gen (xs : Array Value) (i k : Nat) : ((List.range k).filterMap fun (m : Nat) => xs[((i : Int) + (m : Int) * 1).toNat]?).toArray = ((xs.toList.drop i).take k).toArray := by
  have e : (fun (m : Nat) => xs[((i : Int) + (m : Int) * 1).toNat]?) = fun m => xs[i + m]? := by
    funext m
    have : ((i : Int) + (m : Int) * 1).toNat = i + m := by omega
    rw [this]
  rw [e]
  have := pick_run xs i k
  rw [List.filterMap_map] at this
  have e2 : ((fun x => xs[x]?) ∘ fun x => i + x) = fun m => xs[i + m]? := rfl
  rw [e2] at this
  rw [this]
theorem getItem_tuple_cut {t sl : Addr} {items : Array Value} {vl vu : Value} {lo hi : Option Int} {Q : Value → Shared → Prop} (ht : IsTup s.heap t items) (hs : s.heap.IsSliceOf sl vl vu .none) (pl : IsPart vl lo) (pu : IsPart vu hi)
    (hw : ¬ (sIx items.size 0 lo = 0 ∧ sIx items.size items.size hi = items.size))
    (h : Q (.ref s.heap.objs.size) { s with heap := s.heap.push { cls := .type "tuple", data := .seq ((items.toList.drop (sIx items.size 0 lo)).take (sIx items.size items.size hi - sIx items.size 0 lo)).toArray } })
    (hsz : items.size ≤ sizeLine) : wpAny (model prog w) A (getItem (.ref t) (.ref sl)) Q E s := by
  have htake : sizeOk (.seq ((items.toList.drop (sIx items.size 0 lo)).take (sIx items.size items.size hi - sIx items.size 0 lo)).toArray) := by
    show ((items.toList.drop (sIx items.size 0 lo)).take (sIx items.size items.size hi - sIx items.size 0 lo)).toArray.size ≤ sizeLine
    rw [List.size_toArray, List.length_take, List.length_drop, Array.length_toList]
    omega
  have hj : sIx items.size items.size hi ≤ items.size := sIx_le _ _ (Nat.le_refl _) hi
  obtain ⟨os, hos, hcs, hds⟩ := id hs
  have hTs : s.TypeIs (.ref sl) "slice" := ⟨os, hos, hcs⟩
  unfold getItem
  try with_reducible refine wpAny_holding ?_
  first | refine wpAny_bind (wpAny_pure ?_) | skip
  refine wpAny_bind (wpAny_sequenceKey ht.typeIs (by decide) ?_)
  refine wpAny_bind (wpAny_callSpecial?_slot (name := Str.ofString "__getitem__") ht.typeIs PyProof.Rows.slot_tuple_getitem
    (wpAny_call_entry PyProof.Rows.slot_tuple_getitem ht.typeIs entry_tuple_getitem ?_ (args_tuple_getitem _ _)))
  show wpAny _ _ (Builtin.Tuple.tupleItemsOf (.ref t) >>= _) _ _ s
  refine wpAny_bind (tupleItemsOf_ ht ?_)
  refine wpAny_bind (wpAny_typeOf hTs ?_)
  rw [if_pos (by decide)]
  refine wpAny_bind (sliceApplied_gen hs pl pu ?_)
  have hno : ¬ ((((sIx items.size 0 lo : Nat) : Int) == 0 && (1 : Int) == 1 && (sIx items.size items.size hi - sIx items.size 0 lo) == items.size) = true) := by
    intro q
    rw [Bool.and_eq_true, Bool.and_eq_true] at q
    have q1 : ((sIx items.size 0 lo : Nat) : Int) = 0 := eq_of_beq q.1.1
    have q2 : sIx items.size items.size hi - sIx items.size 0 lo = items.size := eq_of_beq q.2
    exact hw ⟨by omega, by omega⟩
  show wpAny _ _ (if (((sIx items.size 0 lo : Nat) : Int) == 0 && (1 : Int) == 1 && (sIx items.size items.size hi - sIx items.size 0 lo) == items.size) = true then _ else _) _ _ s
  rw [if_neg hno, pick_gen]
  first
    | exact wpAny_bind (m := Builtin.Tuple.tupleExact _) (wpAny_newObj_type (wpAny_pure ⟨_, rfl, wpAny_pure h⟩) htake)
    | exact wpAny_bind (m := Builtin.Tuple.tupleExact _) (wpAny_newObj_type (wpAny_bind (wpAny_pure (wpAny_pure ⟨_, rfl, wpAny_pure h⟩))) htake)
    | exact wpAny_bind (wpAny_bind (m := Builtin.Tuple.tupleExact _) (wpAny_newObj_type (wpAny_pure (wpAny_pure ⟨_, rfl, wpAny_pure h⟩)) htake))
    | exact wpAny_bind (wpAny_bind (m := Builtin.Tuple.tupleExact _) (wpAny_newObj_type (wpAny_pure ⟨_, rfl, wpAny_pure h⟩) htake))
end
end HT
namespace L2
open PySem PySem.Spec PyProof.Rows
abbrev TO := St → Hp → (Option Int → Hp → Prop) → Prop
def PO (X : Cx) (e : Option Expr) (t : TO) : Prop :=
  ∀ (pins : List (Addr × Obj)) (s : Shared) (σ : St) (H : Hp) (Q : Option Int → Hp → Prop), Inv X pins σ H s → t σ H Q →
    wpAny (model X.prog X.w) X.A (evalPart e X.env) (fun u s' => ∃ o H', Inv X pins σ H' s' ∧ IsPart u o ∧ Q o H') X.xe s
def tNoPart : TO := fun _ H Q => Q none H
def tPart (t : TE) : TO := fun σ H Q => t σ H fun x H1 => ∃ i, x = .int i ∧ Q (some i) H1
theorem intsAre_of {ns : List Int} : ∀ {us : List Value}, Vals (ns.map V.int) us → IntsAre us ns := by
  induction ns with
  | nil => intro us r; rw [List.map_nil] at r; cases r; exact .nil
  | cons n ns ih =>
    intro us r
    rw [List.map_cons] at r
    cases r with
    | cons r1 r2 =>
      obtain ⟨t, e⟩ := r1
      subst e
      exact .cons n t (ih r2)
section
variable {X : Cx} {e : Expr} {te : TE} {lo hi : Option Expr} {tl th : TO} {pos p2 : Pos}
theorem po_none : PO X none tNoPart := by
  intro pins s σ H Q I h
  rw [evalPart_none]
  exact wpAny_pure ⟨none, H, I, .none, h⟩
theorem po_some (h : PE X e te) : PO X (some e) (tPart te) := by
  intro pins s σ H Q I hw
  rw [evalPart_some]
  refine thn (h pins s σ H _ I hw) fun u s1 ⟨x, H1, I1, r1, q1⟩ => ?_
  obtain ⟨i, rfl, q⟩ := q1
  obtain ⟨t, rfl⟩ := r1
  exact ⟨some i, H1, I1, .int i t, q⟩
def SlR (X : Cx) (r : V → Option Int → Option Int → Hp → VK → Prop) : Prop :=
  ∀ (pins : List (Addr × Obj)) (s : Shared) (σ : St) (H : Hp) (x : V) (v vl vu : Value) (lo hi : Option Int) (sl : Addr) (Q : VK), Inv X pins σ H s → RelV x v → s.heap.IsSliceOf sl vl vu .none → IsPart vl lo → IsPart vu hi → r x lo hi H Q →
    ∃ T id, typeLookup (.type T) "__getitem__" = pure (some (.builtin id)) ∧ s.TypeIs v T ∧ wpAny (model X.prog X.w) X.A (getItem v (.ref sl)) (EP X pins σ Q) X.xe s
def tSl (r : V → Option Int → Option Int → Hp → VK → Prop) (te : TE) (tl th : TO) : TE := fun σ H Q => te σ H fun x H1 => tl σ H1 fun l H2 => th σ H2 fun u H3 => r x l u H3 Q
theorem pe_slice {r : V → Option Int → Option Int → Hp → VK → Prop} (hr : SlR X r) (he : PE X e te) (hl : PO X lo tl) (hu : PO X hi th) : PE X (.Subscript e (.Slice lo hi none p2) pos) (tSl r te tl th) := by
  intro pins s σ H Q I h
  refine Subscript_ (thn (he pins s σ H _ I h) fun v s1 ⟨x, H1, I1, r1, q1⟩ => ?_)
  refine wpAny_Slice (thn (hl pins s1 σ H1 _ I1 q1) fun vl s2 ⟨l, H2, I2, pl, q2⟩ => thn (hu pins s2 σ H2 _ I2 q2) fun vu s3 ⟨u, H3, I3, pu, q3⟩ => ?_)
  rw [evalPart_none]
  refine wpAny_pure ?_
  have I4 : Inv X pins σ H3 { s3 with heap := s3.heap.push { cls := .type "slice", data := .fields #[vl, vu, .none] } } := I3.kept (t' := s3.toks) fun b ob q => Heap.get?_push_of_some _ q
  obtain ⟨T, id, hT, ht, hg⟩ := hr pins { s3 with heap := s3.heap.push { cls := .type "slice", data := .fields #[vl, vu, .none] } } σ H3 x v vl vu l u s3.heap.objs.size Q I4 r1 (Heap.IsSliceOf.new ..) pl pu q3
  show wpAny (model X.prog X.w) X.A (subscriptTail e (.Slice lo hi none p2) v (.ref s3.heap.objs.size)) (EP X pins σ Q) X.xe { s3 with heap := s3.heap.push { cls := .type "slice", data := .fields #[vl, vu, .none] } }
  exact tail_any (ops := [.ref s3.heap.objs.size, v]) ht hT hg (by with_unfolding_all rfl)
def cutV (xs : List V) (lo hi : Option Int) : List V := (xs.drop (HT.sIx xs.length 0 lo)).take (HT.sIx xs.length xs.length hi - HT.sIx xs.length 0 lo)
theorem cutV_length (xs : List V) (lo hi : Option Int) : (cutV xs lo hi).length ≤ xs.length := by
  unfold cutV
  rw [List.length_take, List.length_drop]
  omega
def rSlT (K : PySem.W.Frag) : V → Option Int → Option Int → Hp → VK → Prop := fun x lo hi H Q => ∃ a xs, x = .ref a ∧ SqT K H a xs ∧
  ¬ (HT.sIx xs.length 0 lo = 0 ∧ HT.sIx xs.length xs.length hi = xs.length) ∧ ∀ p, H p = none → Q (.ref p) (upd H p (.tup (cutV xs lo hi)))
theorem sl_tup : SlR X (rSlT X.K) := by
  intro pins s σ H x v vl vu lo hi sl Q I rx hs pl pu h
  obtain ⟨a, xs, rfl, hx, hw, q⟩ := h
  cases rx
  obtain ⟨its, r, ht, hz⟩ := I.tuple hx
  have hlen : its.toArray.size = xs.length := by rw [List.size_toArray]; exact r.length.symm
  refine ⟨"tuple", _, PyProof.Rows.slot_tuple_getitem.lookup, ht.typeIs, ?_⟩
  refine HT.getItem_tuple_cut ht hs pl pu (by rw [hlen]; exact hw) ?_ (by rw [hlen]; exact hz)
  rw [hlen]
  refine ⟨.ref s.heap.objs.size, _, I.laid (t' := s.toks) (o := .tup (cutV xs lo hi)) (fun b ob q => Heap.get?_push_of_some _ q) (Nat.le_refl _) ?_, rfl, q _ (I.hok.fresh (Nat.le_refl _))⟩
  exact ⟨Nat.le_trans (cutV_length xs lo hi) hz, _, (r.drop (HT.sIx xs.length 0 lo)).take (HT.sIx xs.length xs.length hi - HT.sIx xs.length 0 lo), IsTup.new _ _⟩
def rCatT (K : PySem.W.Frag) : R2 := fun x y H Q => ∃ a b xs ys, x = .ref a ∧ y = .ref b ∧ SqT K H a xs ∧ SqT K H b ys ∧ xs ≠ [] ∧ xs.length + ys.length ≤ sizeLine ∧
  (ys = [] → Q (.ref a) H) ∧ (ys ≠ [] → ∀ p, H p = none → Q (.ref p) (upd H p (.tup (xs ++ ys))))
theorem Vals.nil_iff {xs : List V} {us : List Value} (r : Vals xs us) : us = [] ↔ xs = [] := by
  cases r with
  | nil => simp
  | cons _ _ => simp
theorem op_catT : OpR X (binaryOp .Add) (rCatT X.K) := by
  intro pins s σ H x y v u Q I rx ry h
  obtain ⟨a, b, xs, ys, rfl, rfl, ha, hb, hx, hz, q1, q2⟩ := h
  cases rx
  cases ry
  obtain ⟨its, r1, p1, _⟩ := I.tuple ha
  obtain ⟨its2, r2, p2, _⟩ := I.tuple hb
  refine HT.cat_tup p1 p2 (fun z => hx (r1.nil_iff.mp z)) (fun z => ⟨.ref a, H, I, rfl, q1 (r2.nil_iff.mp z)⟩) (fun z => ?_) (by rw [← r1.length, ← r2.length]; exact hz)
  refine ⟨.ref s.heap.objs.size, _, I.laid (t' := s.toks) (o := .tup (xs ++ ys)) (fun b ob q => Heap.get?_push_of_some _ q) (Nat.le_refl _) ?_, rfl, q2 (fun w => z (r2.nil_iff.mpr w)) _ (I.hok.fresh (Nat.le_refl _))⟩
  exact ⟨by rw [List.length_append]; exact hz, _, r1.append r2, IsTup.new _ _⟩
end
end L2
namespace L2
open PySem PySem.Spec PyProof.Rows
def ixN (n : Nat) (i : Int) : Option Nat := if 0 ≤ i then (if i < n then some i.toNat else none) else if -(n : Int) ≤ i then some (i + n).toNat else none
def atI {α : Type} (xs : List α) (i : Int) : Option α := (ixN xs.length i).bind fun j => xs[j]?
theorem ixN_seq {n : Nat} {i : Int} {j : Nat} (h : ixN n i = some j) : seqIndex? i n = some j ∧ j < n ∧ -(n : Int) ≤ i ∧ i < n := by
  unfold ixN at h
  by_cases h0 : 0 ≤ i
  · rw [if_pos h0] at h
    by_cases h1 : i < n
    · rw [if_pos h1] at h
      have e : i.toNat = j := Option.some.inj h
      exact ⟨by rw [seqIndex_of h0 h1, e], by omega, by omega, h1⟩
    · rw [if_neg h1] at h; cases h
  · rw [if_neg h0] at h
    by_cases h1 : -(n : Int) ≤ i
    · rw [if_pos h1] at h
      have e : (i + n).toNat = j := Option.some.inj h
      exact ⟨by rw [seqIndex_neg (by omega) h1, e], by omega, h1, by omega⟩
    · rw [if_neg h1] at h; cases h
theorem atI_get {α : Type} {xs : List α} {i : Int} {v : α} (h : atI xs i = some v) : ∃ j, seqIndex? i xs.length = some j ∧ xs[j]? = some v ∧ j < xs.length ∧ -(xs.length : Int) ≤ i ∧ i < xs.length := by
  unfold atI at h
  cases e : ixN xs.length i with
  | none => rw [e] at h; cases h
  | some j =>
    rw [e] at h
    obtain ⟨h1, h2, h3, h4⟩ := ixN_seq e
    exact ⟨j, h1, h, h2, h3, h4⟩
theorem atI_nat {α : Type} {xs : List α} {j : Nat} {v : α} (h : xs[j]? = some v) : atI xs (j : Int) = some v := by
  have hj : j < xs.length := (List.getElem?_eq_some_iff.mp h).1
  have e : ixN xs.length (j : Int) = some j := by
    unfold ixN
    rw [if_pos (by omega), if_pos (by omega)]; simp
  unfold atI; rw [e]; exact h
def PlainIx (b : Expr) : Prop := ∀ o i, subscripted b false o i = operate [o, i] (getItem o i)
def IxR (X : Cx) (r : R2) : Prop :=
  ∀ (value slice : Expr) (pins : List (Addr × Obj)) (s : Shared) (σ : St) (H : Hp) (x y : V) (v u : Value) (Q : VK), Inv X pins σ H s → RelV x v → RelV y u → r x y H Q →
    subscripted slice false v u = operate [v, u] (getItem v u) → wpAny (model X.prog X.w) X.A (subscriptTail value slice v u) (EP X pins σ Q) X.xe s
def MtR (X : Cx) (id : String) (r : V → List V → Hp → VK → Prop) : Prop :=
  ∀ (pins : List (Addr × Obj)) (s : Shared) (σ : St) (H : Hp) (x : V) (xs : List V) (v : Value) (us : List Value) (Q : VK), Inv X pins σ H s → RelV x v → Vals xs us → r x xs H Q →
    wpAny (model X.prog X.w) X.A (call (.builtin id) (v :: us)) (EP X pins σ Q) X.xe s
section
variable {X : Cx} {a b : Expr} {ta tb : TE} {pos : Pos}
theorem pe_ix {r : R2} (hr : IxR X r) (ha : PE X a ta) (hb : PE X b tb) (hs : PlainIx b) : PE X (.Subscript a b pos) (tOp r ta tb) := by
  intro pins s σ H Q I h
  exact Subscript_ (binT ha hb I h fun v u s2 x y H2 I2 rx ry q => hr a b pins s2 σ H2 x y v u Q I2 rx ry q (hs _ _))
def rIxL (K : PySem.W.Frag) : R2 := fun x y H Q => ∃ p xs i v, x = .ref p ∧ y = .int i ∧ SqL K H p xs ∧ atI xs i = some v ∧ Q v H
theorem ix_list : IxR X (rIxL X.K) := by
  intro value slice pins s σ H x y v u Q I rx ry h hs
  obtain ⟨p, xs, i, z, rfl, rfl, hq, he, q⟩ := h
  cases rx
  obtain ⟨t, rfl⟩ := ry
  obtain ⟨its, r, pl, hz⟩ := I.list hq
  obtain ⟨j, h1, h2, h3, h4, h5⟩ := atI_get he
  obtain ⟨w, ew, rw'⟩ := r.get h2
  have hl := r.length
  have hn := line63
  have fin : EP X pins σ Q w s := ⟨z, H, I, rw', q⟩
  by_cases h0 : 0 ≤ i
  · have hj : i.toNat = j := by
      rw [seqIndex_of h0 h5] at h1
      exact Option.some.inj h1
    exact item_listR pl.isList h0 (by omega) (by rw [hj]; simpa using ew) fin hs
  · have hj : (i + (its.toArray.size : Int)).toNat = j := by
      rw [seqIndex_neg (by omega) h4] at h1
      rw [List.size_toArray, ← hl]
      exact Option.some.inj h1
    exact subscriptTail_builtinR (x := w) pl.isList.typeIs slot_list_getitem.lookup
      (wpAny_getItem_list_neg (Q := fun r s' => r = w ∧ EP X pins σ Q r s') pl.isList (by omega) (by rw [List.size_toArray] <;> omega) (by omega) (by rw [hj]; simpa using ew) ⟨rfl, fin⟩) hs
theorem mapSeq_set (its : List Value) (n j : Nat) (u : Value) : Obj.mapSeq (·.setIfInBounds j u) { cls := .type "list", data := .seq its.toArray n } = { cls := .type "list", data := .seq (its.set j u).toArray n } := by
  simp [Obj.mapSeq]
theorem Inv.lst {pins : List (Addr × Obj)} {σ : St} {H : Hp} {s : Shared} {p : Addr} {xs : List V} (I : Inv X pins σ H s) (h : H p = some (.lst xs)) :
    ∃ (its : List Value) (n : Nat), Vals xs its ∧ s.heap.get? p = some { cls := .type "list", data := .seq its.toArray n } ∧ xs.length ≤ sizeLine := by
  obtain ⟨z, its, n, r, e⟩ := I.hok p _ h
  exact ⟨its, n, r, e, z⟩
theorem Inv.lstUpd {pins : List (Addr × Obj)} {σ : St} {H : Hp} {s : Shared} {p : Addr} {xs ys : List V} {its its' : List Value} {n n' : Nat} {f : Obj → Obj} (I : Inv X pins σ H s) (h : H p = some (.lst xs))
    (ho : s.heap.get? p = some { cls := .type "list", data := .seq its.toArray n }) (hf : f { cls := .type "list", data := .seq its.toArray n } = { cls := .type "list", data := .seq its'.toArray n' }) (r : Vals ys its') (hz : ys.length ≤ sizeLine) (t : Nat) :
    Inv X pins σ (upd H p (.lst ys)) { s with heap := s.heap.update p f, toks := t } := by
  have e : (s.heap.update p f).get? p = some { cls := .type "list", data := .seq its'.toArray n' } := by
    rw [Heap.get?_update_self f ho (by rw [hf] <;> rfl), hf]
  refine I.write (x := p) (e := p) (by rw [h]; trivial) (.inl rfl) (fun b u hb q => (Heap.get?_update_other _ _ (Ne.symm hb)).trans q) ⟨_, e⟩ ?_
  exact ⟨hz, its', n', r, e⟩
def rSetL : V → V → V → Hp → (Hp → Prop) → Prop := fun o i v H Q => ∃ p xs k j, o = .ref p ∧ i = .int k ∧ H p = some (.lst xs) ∧ ixN xs.length k = some j ∧ Q (upd H p (.lst (xs.set j v)))
theorem set_list : PSet X rSetL := by
  intro pins s σ H o i v ov iv u Q I ro ri rv h
  obtain ⟨p, xs, k, j, rfl, rfl, hp, hj, q⟩ := h
  cases ro
  obtain ⟨t, rfl⟩ := ri
  obtain ⟨its, n, r, ho, hz⟩ := I.lst hp
  obtain ⟨h1, h2, h3, h4⟩ := ixN_seq hj
  have hl := r.length
  have hn := line63
  have I' : Inv X pins σ (upd H p (.lst (xs.set j v))) { s with heap := s.heap.update p (Obj.mapSeq (·.setIfInBounds j u)) } :=
    I.lstUpd hp ho (mapSeq_set its n j u) (r.set rv j) (by rw [List.length_set]; exact hz) s.toks
  by_cases h0 : 0 ≤ k
  · have hk : k.toNat = j := by
      rw [seqIndex_of h0 h4] at h1
      exact Option.some.inj h1
    exact PySem.W.ki_setAt ho h0 (by omega) (by rw [List.size_toArray, ← hl]; exact h4) (by rw [hk]; exact ⟨_, I', q⟩)
  · have hk : (k + (its.toArray.size : Int)).toNat = j := by
      rw [seqIndex_neg (by omega) h3] at h1
      rw [List.size_toArray, ← hl]
      exact Option.some.inj h1
    exact PySem.W.ki_setBack ho (by omega) (by rw [List.size_toArray, ← hl]; exact h3) (by omega) (by rw [hk]; exact ⟨_, I', q⟩)
theorem slice_bounds (lo hi : Option Int) (n : Nat) : (sliceBounds lo hi none n).1 = ((HT.sIx n 0 lo : Nat) : Int) ∧ (sliceBounds lo hi none n).2.1 = ((HT.sIx n n hi : Nat) : Int) ∧ (sliceBounds lo hi none n).2.2 = 1 := by
  refine ⟨?_, ?_, rfl⟩
  · cases lo with
    | none => simp [sliceBounds, HT.sIx]
    | some i =>
      simp only [sliceBounds, HT.sIx, Option.getD_none, show (1 : Int) > 0 by decide, if_true]
      by_cases h : i < 0
      · simp only [h, if_true] <;> omega
      · simp only [h, if_false] <;> omega
  · cases hi with
    | none => simp [sliceBounds, HT.sIx]
    | some i =>
      simp only [sliceBounds, HT.sIx, Option.getD_none, show (1 : Int) > 0 by decide, if_true]
      by_cases h : i < 0
      · simp only [h, if_true] <;> omega
      · simp only [h, if_false] <;> omega
theorem slicePick_cut (its : List Value) (lo hi : Option Int) : slicePick its.toArray lo hi none = ((its.drop (HT.sIx its.length 0 lo)).take (HT.sIx its.length its.length hi - HT.sIx its.length 0 lo)).toArray := by
  obtain ⟨h1, h2, h3⟩ := slice_bounds lo hi its.toArray.size
  unfold slicePick
  rw [h1, h2, h3]
  simp only [sliceRange_one, pick_run, List.size_toArray] <;> rfl
def rSlL (K : PySem.W.Frag) : V → Option Int → Option Int → Hp → VK → Prop := fun x lo hi H Q => ∃ a xs, x = .ref a ∧ SqL K H a xs ∧ ∀ p, H p = none → Q (.ref p) (upd H p (.lst (cutV xs lo hi)))
theorem sl_list : SlR X (rSlL X.K) := by
  intro pins s σ H x v vl vu lo hi sl Q I rx hs pl pu h
  obtain ⟨a, xs, rfl, hx, q⟩ := h
  cases rx
  obtain ⟨its, r, ht, hz⟩ := I.list hx
  have hlen := r.length
  refine ⟨"list", _, slot_list_getitem.lookup, ht.isList.typeIs, ?_⟩
  refine wpAny_getItem_list_slice ht.isList hs pl pu .none (by simp) ?_ (by rw [List.size_toArray] <;> omega)
  rw [slicePick_cut, ← hlen]
  refine ⟨.ref s.heap.objs.size, _, I.laid (t' := s.toks) (o := .lst (cutV xs lo hi)) (fun b ob q => Heap.get?_push_of_some _ q) (Nat.le_refl _) ?_, rfl, q _ (I.hok.fresh (Nat.le_refl _))⟩
  exact ⟨Nat.le_trans (cutV_length xs lo hi) hz, _, 0, (r.drop (HT.sIx xs.length 0 lo)).take (HT.sIx xs.length xs.length hi - HT.sIx xs.length 0 lo), Heap.get?_push_size _ rfl⟩
def flatV : V → Bool
  | .non => true
  | .bl _ => true
  | .int _ => true
  | .str _ => true
  | _ => false
def eqV : V → V → Bool
  | .non, .non => true
  | .bl a, .bl b => a == b
  | .bl a, .int b => (if a then 1 else 0) == b
  | .int a, .bl b => a == (if b then 1 else 0)
  | .int a, .int b => a == b
  | .str a, .str b => a == b
  | _, _ => false
theorem eqAt_V {A : Around} {s : Shared} {y x : V} {u v : Value} (ry : RelV y u) (rx : RelV x v) (fy : flatV y = true) (fx : flatV x = true) : SeqAt.EqAt A s u v (eqV y x) := by
  cases y with
  | non =>
    cases ry
    cases x with
    | non => cases rx; exact SeqAt.EqAt.same _
    | bl b => cases rx; exact SeqAt.EqAt.none_bool b
    | int b => obtain ⟨t, rfl⟩ := rx; exact SeqAt.EqAt.none_int b t
    | str b => obtain ⟨t, rfl⟩ := rx; exact SeqAt.EqAt.none_str b t
    | _ => exact absurd (show false = true from fx) Bool.false_ne_true
  | bl a =>
    cases ry
    cases x with
    | non => cases rx; exact SeqAt.EqAt.bool_none a
    | bl b => cases rx; exact SeqAt.EqAt.bool_bool a b
    | int b => obtain ⟨t, rfl⟩ := rx; exact SeqAt.EqAt.bool_int a b t
    | str b => obtain ⟨t, rfl⟩ := rx; exact SeqAt.EqAt.bool_str a b t
    | _ => exact absurd (show false = true from fx) Bool.false_ne_true
  | int a =>
    obtain ⟨t', rfl⟩ := ry
    cases x with
    | non => cases rx; exact SeqAt.EqAt.int_none a t'
    | bl b => cases rx; exact SeqAt.EqAt.int_bool a t' b
    | int b => obtain ⟨t, rfl⟩ := rx; exact SeqAt.EqAt.int_int a t' b t
    | str b => obtain ⟨t, rfl⟩ := rx; exact SeqAt.EqAt.int_str a t' b t
    | _ => exact absurd (show false = true from fx) Bool.false_ne_true
  | str a =>
    obtain ⟨t', rfl⟩ := ry
    cases x with
    | non => cases rx; exact SeqAt.EqAt.str_none a t'
    | bl b => cases rx; exact SeqAt.EqAt.str_bool a t' b
    | int b => obtain ⟨t, rfl⟩ := rx; exact SeqAt.EqAt.str_int a t' b t
    | str b => obtain ⟨t, rfl⟩ := rx; exact SeqAt.EqAt.str_str a t' b t
    | _ => exact absurd (show false = true from fx) Bool.false_ne_true
  | _ => exact absurd (show false = true from fy) Bool.false_ne_true
def eqU (x : V) (u : Value) : Bool := match u with
  | .none => eqV .non x
  | .bool b => eqV (.bl b) x
  | .int i _ => eqV (.int i) x
  | .str z _ => eqV (.str z) x
  | _ => false
theorem eqU_of {x y : V} {u : Value} (r : RelV y u) (f : flatV y = true) : eqU x u = eqV y x := by
  cases y with
  | non => cases r; rfl
  | bl b => cases r; rfl
  | int i => obtain ⟨t, rfl⟩ := r; rfl
  | str z => obtain ⟨t, rfl⟩ := r; rfl
  | _ => exact absurd (show false = true from f) Bool.false_ne_true
theorem any_eqU {x : V} : ∀ {xs : List V} {us : List Value}, Vals xs us → xs.all flatV = true → us.any (eqU x) = xs.any fun y => eqV y x
  | _, _, .nil, _ => rfl
  | y :: xs, u :: us, .cons r t, f => by
    rw [List.all_cons, Bool.and_eq_true] at f
    rw [List.any_cons, List.any_cons, eqU_of r f.1, any_eqU t f.2]
theorem mem_eqAt {A : Around} {s : Shared} {x : V} {v : Value} (rx : RelV x v) (fx : flatV x = true) : ∀ {xs : List V} {us : List Value}, Vals xs us → xs.all flatV = true → ∀ u ∈ us, SeqAt.EqAt A s u v (eqU x u)
  | _, _, .nil, _ => fun u hu => by cases hu
  | y :: xs, u :: us, .cons r t, f => fun u' hu => by
    rw [List.all_cons, Bool.and_eq_true] at f
    rcases List.mem_cons.mp hu with rfl | hu
    · rw [eqU_of r f.1]; exact eqAt_V r rx f.1 fx
    · exact mem_eqAt rx fx t f.2 u' hu
def inV (x : V) (xs : List V) : Bool := xs.any fun y => eqV y x
def rIn (K : PySem.W.Frag) (neg : Bool) : R2 := fun x y H Q => ∃ p xs, y = .ref p ∧ (SqL K H p xs ∨ SqT K H p xs) ∧ flatV x = true ∧ xs.all flatV = true ∧ Q (.bl (if neg then !inV x xs else inV x xs)) H
theorem op_in_seq : OpR X (compareOp .In) (rIn X.K false) := by
  intro pins s σ H x y v u Q I rx ry h
  obtain ⟨p, xs, rfl, hq, fx, fs, q⟩ := h
  cases ry
  rcases hq with hq | hq
  · obtain ⟨its, r, pl, hz⟩ := I.list hq
    refine SeqAt.in_listAt (eqU x) pl.isList (fun w hw => mem_eqAt rx fx r fs w (by simpa using hw)) ⟨.bl _, H, I, rfl, ?_⟩
    rw [show its.toArray.any (eqU x) = its.any (eqU x) by simp, any_eqU r fs]
    exact q
  · obtain ⟨its, r, pl, hz⟩ := I.tuple hq
    refine SeqAt.in_tupleAt (eqU x) pl (fun w hw => mem_eqAt rx fx r fs w (by simpa using hw)) ⟨.bl _, H, I, rfl, ?_⟩
    rw [show its.toArray.any (eqU x) = its.any (eqU x) by simp, any_eqU r fs]
    exact q
theorem op_notIn_seq : OpR X (compareOp .NotIn) (rIn X.K true) := by
  intro pins s σ H x y v u Q I rx ry h
  obtain ⟨p, xs, rfl, hq, fx, fs, q⟩ := h
  cases ry
  rcases hq with hq | hq
  · obtain ⟨its, r, pl, hz⟩ := I.list hq
    refine SeqAt.notIn_listAt (eqU x) pl.isList (fun w hw => mem_eqAt rx fx r fs w (by simpa using hw)) ⟨.bl _, H, I, rfl, ?_⟩
    rw [show its.toArray.any (eqU x) = its.any (eqU x) by simp, any_eqU r fs]
    exact q
  · obtain ⟨its, r, pl, hz⟩ := I.tuple hq
    refine SeqAt.notIn_tupleAt (eqU x) pl (fun w hw => mem_eqAt rx fx r fs w (by simpa using hw)) ⟨.bl _, H, I, rfl, ?_⟩
    rw [show its.toArray.any (eqU x) = its.any (eqU x) by simp, any_eqU r fs]
    exact q
theorem call_len_seq : CallR X (.builtin "len") (fun xs H Q => ∃ p ys, xs = [.ref p] ∧ (SqL X.K H p ys ∨ SqT X.K H p ys) ∧ Q (.int ys.length) H) := by
  intro pins s σ H xs us Q I r h
  obtain ⟨p, ys, rfl, hq, q⟩ := h
  obtain ⟨u, rfl, rx⟩ := vals1 r
  cases rx
  have hn := line63
  rcases hq with hq | hq
  · obtain ⟨its, r', pl, hz⟩ := I.list hq
    have hlen := r'.length
    exact Calls.call_len_list pl.isList (by simp only [List.size_toArray] <;> omega) ⟨.int ys.length, H, I.tok _, ⟨s.toks + 1, by rw [List.size_toArray, hlen]⟩, q⟩
  · obtain ⟨its, r', pl, hz⟩ := I.tuple hq
    have hlen := r'.length
    exact len_tuple pl (by simp only [List.size_toArray] <;> omega) ⟨.int ys.length, H, I.tok _, ⟨s.toks + 1, by rw [List.size_toArray, hlen]⟩, q⟩
theorem call_list_of : CallR X (.type "list") (fun xs H Q => ∃ p ys, xs = [.ref p] ∧ (SqL X.K H p ys ∨ SqT X.K H p ys) ∧ ∀ l, H l = none → Q (.ref l) (upd H l (.lst ys))) := by
  intro pins s σ H xs us Q I r h
  obtain ⟨p, ys, rfl, hq, q⟩ := h
  obtain ⟨u, rfl, rx⟩ := vals1 r
  cases rx
  have fin : ∀ (its : List Value), Vals ys its → ys.length ≤ sizeLine → ∀ (h' : Heap) (c' : Nat), (∀ b o', s.heap.get? b = some o' → h'.get? b = some o') →
      h'.get? s.heap.objs.size = some { cls := .type "list", dict := none, data := .seq its.toArray c', slots := #[] } → EP X pins σ Q (.ref s.heap.objs.size) { s with heap := h' } := fun its r' hz h' c' kp e =>
    ⟨.ref s.heap.objs.size, _, I.laid (t' := s.toks) kp (Nat.le_refl _) (show ObjOk X.prog X.w _ h' _ (.lst ys) from ⟨hz, its, c', r', e⟩), rfl, q _ (I.hok.fresh (Nat.le_refl _))⟩
  rcases hq with hq | hq
  · obtain ⟨its, r', pl, hz⟩ := I.list hq
    have hlen := r'.length
    obtain ⟨o, ho, hc, n, hd⟩ := pl.isList
    exact call_list_seq p (.inl rfl) ho hc hd (fun h' c' kp e => fin its r' hz h' c' kp e) (by simp only [List.size_toArray] <;> omega)
  · obtain ⟨its, r', pl, hz⟩ := I.tuple hq
    have hlen := r'.length
    obtain ⟨o, ho, hc, n, hd⟩ := pl
    exact call_list_seq p (.inr rfl) ho hc hd (fun h' c' kp e => fin its r' hz h' c' kp e) (by simp only [List.size_toArray] <;> omega)
theorem call_tuple_of : CallR X (.type "tuple") (fun xs H Q => ∃ p ys, xs = [.ref p] ∧ ((SqL X.K H p ys ∧ ∀ l, H l = none → Q (.ref l) (upd H l (.tup ys))) ∨ (SqT X.K H p ys ∧ Q (.ref p) H))) := by
  intro pins s σ H xs us Q I r h
  obtain ⟨p, ys, rfl, h⟩ := h
  obtain ⟨u, rfl, rx⟩ := vals1 r
  cases rx
  rcases h with ⟨hq, q⟩ | ⟨hq, q⟩
  · obtain ⟨its, r', pl, hz⟩ := I.list hq
    have hlen := r'.length
    refine call_tuple_list pl.isList (fun h' kp => ?_) (by simp only [List.size_toArray] <;> omega)
    have I1 : Inv X pins σ H { s with heap := h' } := I.kept (t' := s.toks) kp
    have I2 : Inv X pins σ (upd H h'.objs.size (.tup ys)) { s with heap := h'.push { cls := .type "tuple", data := .seq its.toArray } } :=
      I1.laid (t' := s.toks) (fun b o e => Heap.get?_push_of_some _ e) (Nat.le_refl _) (show ObjOk X.prog X.w _ _ _ (.tup ys) from ⟨hz, its, r', IsTup.new _ _⟩)
    exact ⟨.ref h'.objs.size, _, I2, rfl, q _ (I1.hok.fresh (Nat.le_refl _))⟩
  · obtain ⟨its, r', pl, hz⟩ := I.tuple hq
    exact call_tuple_same pl ⟨.ref p, H, I, rfl, q⟩
def tyV (K : PySem.W.Frag) (T : String) (x : V) (H : Hp) : Prop := match x with
  | .str _ => T = "str"
  | .int _ => T = "int"
  | .ref p => (T = "list" ∧ ∃ xs, SqL K H p xs) ∨ (T = "tuple" ∧ ∃ o, K.lookup p = some o ∧ o.cls = .type "tuple" ∧ o.dict = none) ∨
      (T = "dict" ∧ ((∃ kvs, H p = some (.dK kvs)) ∨ ∃ kvs, H p = some (.dT kvs))) ∨ (T = "set" ∧ ∃ S n, H p = some (.set S n))
  | _ => False
theorem tyV_is {pins : List (Addr × Obj)} {σ : St} {H : Hp} {s : Shared} {T : String} {x : V} {v : Value} (I : Inv X pins σ H s) (r : RelV x v) (ty : tyV X.K T x H) :
    s.TypeIs v T ∧ ∀ a, v = .ref a → ∃ ob, s.heap.get? a = some ob ∧ ob.dict = none := by
  cases x with
  | str z =>
    obtain ⟨t, rfl⟩ := r
    cases (show T = "str" from ty)
    exact ⟨typeIs_str s z t, fun _ e => nomatch e⟩
  | int i =>
    obtain ⟨t, rfl⟩ := r
    cases (show T = "int" from ty)
    exact ⟨typeIs_int s i t, fun _ e => nomatch e⟩
  | ref p =>
    cases r
    rcases ty with ⟨rfl, xs, hq⟩ | ⟨rfl, o, hk, hc, hd⟩ | ⟨rfl, hk⟩ | ⟨rfl, S, n, hk⟩
    · obtain ⟨its, _, pl, _⟩ := I.list hq
      refine ⟨pl.isList.typeIs, fun a e => ?_⟩
      cases e
      obtain ⟨o, n, e, c, hd, _⟩ := pl
      exact ⟨o, e, hd⟩
    · refine ⟨⟨o, I.kIn p o hk, hc⟩, fun a e => ?_⟩
      cases e
      exact ⟨o, I.kIn _ o hk, hd⟩
    · have z : ∃ o, s.heap.get? p = some o ∧ o.ExactDict := by
        rcases hk with ⟨kvs, hk⟩ | ⟨kvs, hk⟩
        · obtain ⟨_, _, _, _, o, _, _, e, ex, _⟩ := I.hok p _ hk
          exact ⟨o, e, ex⟩
        · obtain ⟨_, _, _, _, o, _, _, e, ex, _⟩ := I.hok p _ hk
          exact ⟨o, e, ex⟩
      obtain ⟨o, e, ex⟩ := z
      refine ⟨⟨o, e, ex.1⟩, fun a e2 => ?_⟩
      cases e2
      exact ⟨o, e, ex.2.1⟩
    · obtain ⟨o, _, _, _, e, ex, _⟩ := I.hok p _ hk
      refine ⟨⟨o, e, ex.1⟩, fun a e2 => ?_⟩
      cases e2
      exact ⟨o, e, ex.2.1⟩
  | _ => exact False.elim ty
def tBM (K : PySem.W.Frag) (T : String) (r : V → List V → Hp → VK → Prop) (to : TE) (t : TA) : TE := fun σ H Q => to σ H fun x H1 => tyV K T x H1 ∧ t σ H1 fun xs H2 => r x xs H2 Q
variable {o e : Expr} {es : List Expr} {to : TE} {t : TA} {name : Str} {apos cpos : Pos} {T id : String} {r : V → List V → Hp → VK → Prop}
theorem pe_bm (pa : PlainAttrs T) (slot : Slot T name id) (hty : typeOf (.builtin id) = pure (.type "method_descriptor")) (hm : MtR X id r) (ho : PE X o to) (ha : PA X (e :: es) t)
    (hbase : attributeBase o name X.env (eval o X.env) = eval o X.env := by rfl)
    (hfew : ((backTo cpos (starEach (e :: es) X.env)).all (fun x => !x.1) && (backToKw cpos (keywordEach [] X.env)).all (fun x => x.1.isSome)
      && decide ((e :: es).length + ([] : List Keyword).length + (if ([] : List Keyword).isEmpty then 0 else 1) < 30)) = true := by rfl)
    (hline : (apos.endLine == cpos.line) = true := by rfl) (hs : starEach (e :: es) X.env = (false, eval e X.env) :: starEach es X.env := by rfl) (hplain : (backTo cpos (starEach es X.env)).any (·.1) = false := by rfl) :
    PE X (.Call (.Attribute o name apos) (e :: es) [] cpos) (tBM X.K T r to t) := by
  intro pins s σ H Q I h
  refine wpAny_Call_method_late hbase hfew hline rfl (thn (ho pins s σ H _ I h) fun v s1 ⟨x, H1, I1, r1, ty, q1⟩ => ?_)
  obtain ⟨h1, h2⟩ := tyV_is I1 r1 ty
  refine ⟨T, id, pa, slot, hty, h1, h2, ?_⟩
  have hA := ha cpos pins s1 σ H1 _ I1 q1
  rw [hs] at hA ⊢
  refine Calls.callWith_builtin (by show (false || (backTo cpos (starEach es X.env)).any (·.1)) = false; rw [hplain] <;> rfl) (Calls.evalArgs_plain ?_)
  exact thn hA fun us s2 ⟨vs, H2, I2, r2, q2⟩ => hm pins s2 σ H2 x vs v us Q I2 r1 r2 q2
end
end L2
namespace L2
open PySem PySem.Spec PyProof.Rows
def MtM (X : Cx) (id : String) (r : V → List V → Hp → VK → Prop) : Prop :=
  ∀ (pins : List (Addr × Obj)) (s : Shared) (σ : St) (H : Hp) (x : V) (xs : List V) (v : Value) (us : List Value) (Q : VK), Inv X pins σ H s → RelV x v → Vals xs us → r x xs H Q →
    wpAny (model X.prog X.w) X.A (call (.builtin id) (v :: us)) (EP X pins σ Q) X.xe s
theorem Vals.one : ∀ {x : V} {us : List Value}, Vals [x] us → ∃ u, us = [u] ∧ RelV x u
  | _, _, .cons r .nil => ⟨_, rfl, r⟩
theorem Vals.zero : ∀ {us : List Value}, Vals [] us → us = []
  | _, .nil => rfl
theorem Vals.eraseIdx : ∀ {xs : List V} {us : List Value} (i : Nat), Vals xs us → Vals (xs.eraseIdx i) (us.eraseIdx i)
  | _, _, _, .nil => .nil
  | _, _, 0, .cons _ t => t
  | _, _, i + 1, .cons r t => .cons r (Vals.eraseIdx i t)
theorem Vals.reverse {xs : List V} {us : List Value} (h : Vals xs us) : Vals xs.reverse us.reverse := by
  induction h with
  | nil => exact .nil
  | cons r t ih => rw [List.reverse_cons, List.reverse_cons]; exact Vals.append ih (.cons r .nil)
section
variable {X : Cx} {pins : List (Addr × Obj)} {σ : St} {H : Hp} {s : Shared} {l b : Addr} {xs ys zs : List V}
theorem Inv.lset {its its' : List Value} {n : Nat} {f : Array Value → Array Value} {t' : Nat} (I : Inv X pins σ H s) (hH : H l = some (.lst xs))
    (e : s.heap.get? l = some { cls := .type "list", data := .seq its.toArray n }) (hf : f its.toArray = its'.toArray) (hv : Vals ys its') (hz : ys.length ≤ sizeLine) :
    Inv X pins σ (upd H l (.lst ys)) { s with heap := s.heap.update l (Obj.mapSeq f), toks := t' } := by
  have q := PySem.IsL.update e f
  rw [hf] at q
  refine I.write (x := l) (e := l) (by rw [hH]; exact trivial) (.inl rfl) (fun b' u hb hu => (Heap.get?_update_other s.heap (Obj.mapSeq f) (Ne.symm hb)).trans hu) ⟨_, q⟩ ?_
  exact ⟨hz, its', _, hv, q⟩
theorem Inv.lnew {its : List Value} {t' : Nat} (I : Inv X pins σ H s) (hv : Vals ys its) (hz : ys.length ≤ sizeLine) :
    Inv X pins σ (upd H s.heap.objs.size (.lst ys)) { s with heap := s.heap.push { cls := .type "list", data := .seq its.toArray }, toks := t' } :=
  I.laid (fun _ _ q => Heap.get?_push_of_some _ q) (Nat.le_refl _) ⟨hz, its, 0, hv, Heap.get?_push_size _ rfl⟩
theorem Inv.fresh (I : Inv X pins σ H s) : H s.heap.objs.size = none := I.hok.fresh (Nat.le_refl _)
theorem Inv.lstM (I : Inv X pins σ H s) (hH : H l = some (.lst xs)) : xs.length ≤ sizeLine ∧ ∃ (its : List Value) (n : Nat), Vals xs its ∧ xs.length = its.length ∧ s.heap.get? l = some { cls := .type "list", data := .seq its.toArray n } := by
  obtain ⟨z, its, n, r, e⟩ := I.hok l _ hH
  exact ⟨z, its, n, r, r.length, e⟩
end
section
variable {X : Cx}
def rAppend : V → List V → Hp → VK → Prop := fun x vs H Q => ∃ l xs y, x = .ref l ∧ vs = [y] ∧ H l = some (.lst xs) ∧ xs.length < sizeLine ∧ Q .non (upd H l (.lst (xs ++ [y])))
theorem mt_append : MtM X "list.append" rAppend := by
  intro pins s σ H x vs v us Q I rx rv h
  obtain ⟨l, xs, y, rfl, rfl, hH, hz, q⟩ := h
  cases rx
  obtain ⟨u, rfl, ru⟩ := rv.one
  obtain ⟨z, its, n, r, hl, e⟩ := I.lstM hH
  refine call_meets F.slot_list_append ⟨_, e, rfl⟩ F.entry_list_append (F.args_list_append_2 _ _) (PySem.list_append l its.toArray n u (by rw [List.size_toArray]; omega)) ⟨e, ?_⟩
  refine ⟨.non, _, I.lset (its' := its ++ [u]) hH e (by simp) (r.append (.cons ru .nil)) ?_, rfl, q⟩
  rw [List.length_append, List.length_singleton]
  omega
def rCat : R2 := fun x y H Q => ∃ l b xs zs, x = .ref l ∧ y = .ref b ∧ H l = some (.lst xs) ∧ H b = some (.lst zs) ∧ xs.length + zs.length ≤ sizeLine ∧ ∀ p, H p = none → Q (.ref p) (upd H p (.lst (xs ++ zs)))
theorem op_cat : OpR X (binaryOp .Add) rCat := by
  intro pins s σ H x y v u Q I rx ry h
  obtain ⟨l, b, xs, zs, rfl, rfl, hH, hB, hz, q⟩ := h
  cases rx
  cases ry
  obtain ⟨z, its, n, r, hl, e⟩ := I.lstM hH
  obtain ⟨z2, its2, n2, r2, hl2, e2⟩ := I.lstM hB
  refine PySem.P.add_list e e2 ?_ (by rw [List.size_toArray, List.size_toArray]; omega)
  have ea : its.toArray ++ its2.toArray = (its ++ its2).toArray := by simp
  rw [ea]
  exact ⟨.ref _, _, I.lnew (t' := s.toks) (r.append r2) (by rw [List.length_append]; omega), rfl, q _ I.fresh⟩
end
end L2
namespace Att
open PySem PySem.W PySem.Calls PyProof.Rows
theorem ints_of_wellAll {P : Params} {h : Heap} : ∀ (ns : List Int) (vs : List Value), WellAll P h vs (ns.map WData.int) → IntsAre vs ns := by
  intro ns
  induction ns with
  | nil =>
    intro vs w
    rw [List.map_nil] at w
    cases w
    exact .nil
  | cons n ns ih =>
    intro vs w
    rw [List.map_cons] at w
    cases w with
    | cons a b =>
      cases a
      exact .cons _ _ (ih _ b)
theorem script_of {l : OpenLaw} {n : Nat} (hn : l.most = some n) {P : Params} {h : Heap} {args : List WData} {vals : List Value}
    (hpre : l.row.toRowW.claim.pre args = true) (hwl : WellAll P h vals args) :
    ∃ a vs ns, vals = [Value.ref a] ∧ args = [WData.list (ns.map WData.int)] ∧ h.get? a = some { cls := .type "list", data := .seq vs.toArray } ∧ IntsAre vs ns ∧ ns.length ≤ n := by
  have hsh : WShape.hasAll [] args [.list .int] = true := (pre_splitW hpre).1
  have hc : l.pre.holds [] { args := args } = true := (pre_splitW hpre).2
  obtain ⟨d, r, rfl, h1, h2⟩ := hasAllW_cons hsh
  obtain rfl := hasAllW_nil h2
  obtain ⟨xs, rfl, h3⟩ := hasW_list h1
  obtain ⟨ns, rfl⟩ := items_int h3
  have hlen : ns.length ≤ n := by
    unfold OpenLaw.pre at hc
    have h4 : (WTm.not (.lt (.lit (.int (n : Int))) (.len (.arg 0)))).holds [] { args := [.list (ns.map .int)] } = true := by
      have h4 := (holds_andW hc).1
      rw [hn] at h4
      exact h4
    have h5 := condW_of h4 (w_not (w_lt w_lit (w_len_list (w_arg rfl))))
    rw [List.length_map] at h5
    refine Nat.le_of_not_lt fun q => ?_
    have q' : (n : Int) < ((ns.length : Nat) : Int) := by omega
    first
      | (rw [decide_eq_true q'] at h5; exact absurd h5 (by decide))
      | (simp at h5; omega)
  cases hwl with
  | cons w1 w2 =>
    cases w2
    cases w1 with
    | list ho hall => exact ⟨_, _, ns, rfl, rfl, ho, ints_of_wellAll ns _ hall, hlen⟩
theorem post_true (l : OpenLaw) (args : List WData) : l.row.toRowW.claim.post args (.bool true) args = true :=
  postW_of (r := l.row.toRowW) (X := (true == true))
    (show WShape.has [] (.bool true) .bool = true by first | rfl | decide | simp [WShape.has, WShape.arms, WShape.armsAll])
    (show (WTm.eq .res (.lit (.bool true))).value [] { args := args, res := some (.bool true), after := args } = some (.bool (true == true)) from w_eq_bool (w_res rfl) w_lit) rfl
theorem attach_call {l : OpenLaw} {n : Nat} {q : Program} {loose : List Str} {XP : (Str → Option Value) → Heap → Prop} {YP : World → Heap → Prop} {d : DefRec}
    (hn : l.most = some n) (hdf : d.params.defaults = [])
    (call : ∀ (w : World) (s₀ s₁ : Shared) (mg mb : Str → Option Value) (fa : Addr) (o : Obj) (pm cd doc : Value) (a : Addr) (vs : List Value) (ns : List Int),
      Ground q loose [] XP w s₀ mg mb s₁.heap → YP w s₁.heap →
      s₁.heap.get? fa = some o → o.data = .func (docDef d.name d.params d.body d.scope pm cd doc) → s₁.heap.CodeRec cd d.name → mg d.name = some (.ref fa) →
      s₁.heap.get? a = some { cls := .type "list", data := .seq vs.toArray } → IntsAre vs ns → ns.length ≤ n → s₁.gens = #[] →
      codeAny (model l.prog w) callerA (.call (.ref fa) ⟨[.ref a], []⟩) (fun r s' => r = .ok (.ret (.bool true)) ∧ OldK s₁.heap s'.heap ∧ s'.os = s₁.os ∧ AllBare s'.gens) s₁) :
    WalkO q loose XP YP l.row.toRowW d [] (fun f vs => PySem.call f vs) := by
  intro w s₀ s₁ mg mb G Y fa o pm cd doc dV kV ho hd hcd hD hmg hg args vals as hpre hlay hrd hwl hlo
  obtain rfl : dV = .none := Dflts.none hD hdf
  obtain rfl : kV = .none := Dflts.noKw hD
  obtain ⟨a, vs, ns, rfl, rfl, hobj, hints, hlen⟩ := script_of hn hpre hwl
  refine enter_call (codeAny_mono (call w s₀ s₁ mg mb fa o pm cd doc a vs ns G Y ho (fd_plain hd) hcd hmg hobj hints hlen hg) fun r s' hq => ?_)
  obtain ⟨rfl, h2, h3, h4⟩ := hq
  exact ⟨.inl ⟨.bool true, .bool true, [], rfl, fun _ => rfl, .bool true, post_true l _, fun _ => ⟨List.Pairwise.nil, fun _ hm => (nomatch hm)⟩⟩, h2, h3, h4⟩
end Att
namespace L2
open PySem PySem.Spec PyProof.Rows
theorem vals_ints : ∀ {vs : List Value} {ns : List Int}, IntsAre vs ns → Vals (ns.map V.int) vs
  | _, _, .nil => .nil
  | _, _, .cons n t h => .cons ⟨t, rfl⟩ (vals_ints h)
def Only (H : Hp) : Prop := ∀ b, H b = none ∨ ∃ o xs, H b = some (.frz o (.lst xs))
theorem law_call {P : Program} {w : World} {K : PySem.W.Frag} {mg mb : Str → Option Value} {CX : CXT} {k : Nat} {fa a : Addr} {fd : FuncData} {x : Str} {sp : Sp} {s₁ : Shared} {vs : List Value} {ns : List Int}
    (KX : K.In s₁.heap) (hns : s₁.heap.Ns mainGlobals mg) (hb : s₁.heap.Ns builtinsNs mb) (hbb : ∀ x : Str, x ≠ "__name__" → mb x = bootBuiltins x) (hlim : s₁.heap.NoLimit) (hg : s₁.gens = #[])
    (ha : s₁.heap.get? a = some { cls := .type "list", data := .seq vs.toArray }) (hi : IntsAre vs ns) (hl : ns.length ≤ sizeLine) (hr : Room k callerA)
    (F : ∀ base : Heap, K.In base → base.Ns mainGlobals mg → FnOk P w K mg base CX k fa fd [x] sp) (hbind : ∀ (s : Shared) (u : Value), BindsTo s fd ⟨[u], []⟩ [(x, u)])
    (hsp : ∀ H : Hp, Only H → SqL K H a (ns.map V.int) → sp [.ref a] H (fun v _ => v = .bl true) fun _ _ _ => False)
    (hCX : ∀ H e s', CX [] H s₁ (fun _ _ _ => False) e s' → False) :
    codeAny (model P w) callerA (.call (.ref fa) ⟨[.ref a], []⟩) (fun r s' => r = .ok (.ret (.bool true)) ∧ OldK s₁.heap s'.heap ∧ s'.os = s₁.os ∧ AllBare s'.gens) s₁ := by
  have rv := vals_ints hi
  have lenV := hi.length
  -- from an abstract heap in which nothing but the script may be tracked
  have core : ∀ H : Hp, Only H → SqL K H a (ns.map V.int) → HOk P w H s₁.heap → (∀ b, H b ≠ none → b = a) → (H a ≠ none → K.lookup a = none) →
      codeAny (model P w) callerA (.call (.ref fa) ⟨[.ref a], []⟩) (fun r s' => r = .ok (.ret (.bool true)) ∧ OldK s₁.heap s'.heap ∧ s'.os = s₁.os ∧ AllBare s'.gens) s₁ := by
    intro H hO hS hok hA hK
    have base_of : ∀ {b : Addr} {o : Obj}, s₁.heap.get? b = some o → H b = none → (hidT s₁.heap H).get? b = some o := fun e n => hidT_get e n
    have noA : ∀ {b : Addr} {o : Obj} {es : Array DictEntry} {ep : Nat}, s₁.heap.get? b = some o → o.data = .dict es ep → H b = none := fun {b o es ep} e d => by
      cases q : H b with
      | none => rfl
      | some u =>
        have e' : b = a := hA b (by rw [q]; simp)
        subst e'
        rw [ha] at e; cases e
        have d' : Data.seq vs.toArray _ = Data.dict es ep := d
        cases d'
    have nsK : ∀ {b : Addr} {m : Str → Option Value}, s₁.heap.Ns b m → (hidT s₁.heap H).Ns b m := fun {b m} ⟨o, es, ep, e, d, r⟩ => ⟨o, es, ep, base_of e (noA e d), d, r⟩
    have hKb : K.In (hidT s₁.heap H) := fun b o e => base_of (KX b o e) (by
      cases q : H b with
      | none => rfl
      | some u =>
        have e' : b = a := hA b (by rw [q]; simp)
        subst e'
        rw [hK (by rw [q]; simp)] at e; cases e)
    have hM : Mod K mg (hidT s₁.heap H) := ⟨hKb, nsK hns, ⟨mb, nsK hb, hbb⟩, let ⟨mc, h1, h2⟩ := hlim; ⟨mc, nsK h1, h2⟩⟩
    have e0 : Env0 P w K mg (hidT s₁.heap H) callerA [] s₁ H := ⟨rfl, hM, fun b o e => of_hidT e, Nat.le_of_eq (hidT_size _ _), trivial, fun b hb => absurd (show b ∈ ([] : List Addr) from hb) (by simp), hok, .of_eq hg⟩
    refine codeAny_mono ((F _ hKb (nsK hns)).run callerA [] s₁ H ⟨[.ref a], []⟩ [.ref a] [.ref a] _ _ hr e0 (hbind s₁ (.ref a)) (.cons rfl .nil) (hsp H hO hS)) fun r s' h => ?_
    cases r with
    | error e => exact (hCX H e s' h).elim
    | ok fl =>
      cases fl with
      | next => exact False.elim h
      | brk => exact False.elim h
      | cont => exact False.elim h
      | ret u =>
        obtain ⟨v, H', os, bare, un, hok', r', q⟩ := h
        have q' : v = .bl true := q
        subst q'
        obtain rfl : u = Value.bool true := r'
        refine ⟨rfl, OldK.of_keep fun b o e => ?_, os, bare⟩
        cases q : H b with
        | none => exact un.keep b o e q (by intro z; exact absurd (show b ∈ ([] : List Addr) from z) (by simp)) (by simp)
        | some u =>
          rcases hO b with z | ⟨ob, xs, z⟩
          · rw [q] at z; cases z
          · have z2 := un.frzs b ob _ z
            obtain ⟨e1, _⟩ := hok b _ z
            obtain ⟨e2, _⟩ := hok' b _ z2
            rw [e] at e1; cases e1
            exact e2
  cases hk : K.lookup a with
  | some o =>
    -- the script is one of the module's own objects
    have e := KX a o hk
    rw [ha] at e
    cases e
    refine core (fun _ => none) (fun _ => .inl rfl) (.inr ⟨_, vs.toArray, _, hk, rfl, rfl, rfl, by rw [List.size_toArray, lenV]; exact hl, by simpa using rv⟩) (fun b u z => by have z' : (none : Option HO) = some u := z; cases z') (fun b z => absurd rfl z) fun z => absurd rfl z
  | none =>
    refine core (fun b => if b = a then some (.frz { cls := .type "list", data := .seq vs.toArray } (.lst (ns.map V.int))) else none) (fun b => ?_) (.inl (.inr ⟨{ cls := .type "list", data := .seq vs.toArray }, if_pos rfl⟩)) (fun b u z => ?_) (fun b z => ?_) fun _ => hk
    · by_cases hb : b = a
      · exact .inr ⟨_, _, if_pos hb⟩
      · exact .inl (if_neg hb)
    · by_cases hb : b = a
      · have z' := (if_pos hb).symm.trans z
        cases z'
        subst hb
        exact ⟨ha, by rw [List.length_map]; exact hl, vs, _, rv, ha⟩
      · have z' := (if_neg hb).symm.trans z
        cases z'
    · by_cases hb : b = a
      · exact hb
      · exact absurd (if_neg hb) z
end L2
namespace L2
open PySem PySem.Spec PyProof.Rows
theorem walk_of {l : PySem.W.OpenLaw} {n k : Nat} {q : Program} {loose : List Str} {XP : (Str → Option Value) → Heap → Prop} {YP : World → Heap → Prop} {d : DefRec} {K : Params → PySem.W.Frag} {CX : World → CXT} {sp : World → Sp} {x : Str}
    (hn : l.most = some n) (hn2 : n ≤ sizeLine) (hdf : d.params.defaults = []) (hr : Room k callerA)
    (hY : ∀ (w : World) (h : Heap), YP w h → (K w.params).In h)
    (F : ∀ (w : World) (mg : Str → Option Value) (fa : Addr) (h : Heap), (K w.params).In h → h.Ns mainGlobals mg → mg d.name = some (.ref fa) →
      ∃ fd : FuncData, (∀ (s : Shared) (u : Value), BindsTo s fd ⟨[u], []⟩ [(x, u)]) ∧
        ∀ base : Heap, (K w.params).In base → base.Ns mainGlobals mg → FnOk l.prog w (K w.params) mg base (CX w) k fa fd [x] (sp w))
    (hsp : ∀ (w : World) (H : Hp) (a : Addr) (ns : List Int), ns.length ≤ n → Only H → SqL (K w.params) H a (ns.map V.int) → sp w [.ref a] H (fun v _ => v = .bl true) fun _ _ _ => False)
    (hCX : ∀ (w : World) (H : Hp) (s : Shared) (e : Value) (s' : Shared), CX w [] H s (fun _ _ _ => False) e s' → False) :
    PySem.W.WalkO q loose XP YP l.row.toRowW d [] (fun f vs => PySem.call f vs) := by
  refine Att.attach_call hn hdf fun w s₀ s₁ mg mb fa o pm cd doc a vs ns G Y ho hd hcd hmg hobj hints hlen hg => ?_
  have KX := hY w _ Y
  obtain ⟨fd, hb, hF⟩ := F w mg fa _ KX G.T.g hmg
  exact law_call KX G.T.g G.T.b G.T.builtins G.T.nolimit hg hobj hints (Nat.le_trans hlen hn2) hr hF hb (fun H hO hS => hsp w H a ns hlen hO hS) fun H e s' => hCX w H s₁ e s'
end L2
namespace L2
open PySem PySem.Spec PyProof.Rows
def defArgs (s : Stmt) : Arguments := match s with
  | .FunctionDef _ a _ _ _ _ _ _ _ _ => a
  | _ => { posonlyargs := [], args := [], vararg := none, kwonlyargs := [], kw_defaults := [], kwarg := none, defaults := [] }
def defBody (s : Stmt) : List Stmt := match s with
  | .FunctionDef _ _ b _ _ _ _ _ _ _ => b
  | _ => []
def defScope (s : Stmt) : Scope := match s with
  | .FunctionDef _ _ _ _ _ _ sc _ _ _ => sc
  | _ => { kind := .function, names := [], isGenerator := false, isCoroutine := false }
abbrev CX0 : CXT := fun _ _ _ _ _ _ => False
abbrev E0 : XK := fun _ _ _ => False
theorem pass0 {X : Cx} : Passes CX0 X E0 := fun _ _ _ _ _ _ _ h => h.elim
structure Fun (K : PySem.W.Frag) (x qual : Str) (st : Stmt) (f : Addr) (fd : FuncData) : Prop where
  ex : ∃ (oc : Value) (od : Option Addr) (kV doc pm : Value) (an : Option Addr) (cdv ct : Value) (osl : Array (Option Value)),
    fd = PySem.W.fnOf x qual (defArgs st) (defBody st) (defScope st) .none kV doc pm an cdv ct ∧ K.lookup f = some ⟨oc, od, .func fd, osl⟩ ∧ PySem.W.codeIn K cdv qual = true
  kp : PySem.W.keepIn K (.ref f) = true
section
variable {P : Program} {w : World} {K : PySem.W.Frag} {mg : Str → Option Value} {base : Heap}
theorem Fun.ok {x qual : Str} {st : Stmt} {f : Addr} {fd : FuncData} {N ps : List Str} {k : Nat} {sp : Sp} (F : Fun K x qual st f fd) (S : FnScope N ps (defScope st)) (len : ∀ vs H Q E, sp vs H Q E → vs.length = ps.length)
    (hbody : ∀ (cdv : Value) (A : Around) (outer : List Env) (s : Shared) (H : Hp) (vs : List V) (Q : VK) (E : XK), Room k (A.deeper (envOfC qual (defScope st) s.heap.objs.size f cdv)) → sp vs H Q E →
      ∃ t, PSs (cxOf CX0 P w K mg base N qual (defScope st) f cdv A outer s H E).nox (defBody st) t ∧ t { nx := fun _ H' => Q .non H', rt := Q } (start N vs) H) : FnOk P w K mg base CX0 (k + 1) f fd ps sp := by
  obtain ⟨oc, od, kV, doc, pm, an, cdv, ct, osl, rfl, lk, hcd⟩ := F.ex
  refine fn_of lk hcd S len fun A outer s H vs Q E hr hsp => ?_
  obtain ⟨t, h, q⟩ := hbody cdv A outer s H vs Q E hr hsp
  exact ⟨t, h.nox, q⟩
theorem Fun.binds {x qual : Str} {st : Stmt} {f : Addr} {fd : FuncData} {ps : List Str} (F : Fun K x qual st f fd)
    (h : ∀ (kV doc pm : Value) (an : Option Addr) (cdv ct : Value) (us : List Value), us.length = ps.length → bindArgs (PySem.W.fnOf x qual (defArgs st) (defBody st) (defScope st) .none kV doc pm an cdv ct) ⟨us, []⟩ = pure (ps.zip us)) : Binds K fd ps [] := by
  obtain ⟨oc, od, kV, doc, pm, an, cdv, ct, osl, rfl, lk, hcd⟩ := F.ex
  exact .all (h kV doc pm an cdv ct)
theorem fun_mk {x qual : Str} {st : Stmt} {f : Addr} {oc : Value} {od an : Option Addr} {osl : Array (Option Value)} {kV doc pm cdv ct : Value} (l : K.lookup f = some ⟨oc, od, .func (PySem.W.fnOf x qual (defArgs st) (defBody st) (defScope st) .none kV doc pm an cdv ct), osl⟩)
    (c : PySem.W.codeIn K cdv qual = true) (k : PySem.W.keepIn K (.ref f) = true) : Fun K x qual st f (PySem.W.fnOf x qual (defArgs st) (defBody st) (defScope st) .none kV doc pm an cdv ct) := ⟨⟨oc, od, kV, doc, pm, an, cdv, ct, osl, rfl, l, c⟩, k⟩
end
theorem hu_of {A : Around} {k : Nat} (hr : Room k A) : A.units + 1 < cLine := Nat.lt_of_le_of_lt (Nat.add_le_add_left (by decide : 1 ≤ 64) _) hr.units
theorem small1000 {n : Nat} (h : n ≤ 1000) : n < sizeLine := Nat.lt_of_le_of_lt h (by decide)
section
variable {X : Cx}
theorem pv (i : Nat) {x : Str} {pos : Pos} (hN : X.N[i]? = some x := by rfl) (hv : Vis X.env.scope x := by first | exact Or.inl rfl | exact Or.inr (Or.inl rfl) | exact Or.inr (Or.inr rfl)) (hd : (x == ("__debug__" : Str)) = false := by decide)
    (hcd : (x == ("__classdict__" : Str)) = false := by decide) : PE X (.Name x pos) (tVar i) := pe_var hN hv hd hcd
end
theorem iteF {A B : Prop} (h : B) : if false = true then A else B := by
  rw [if_neg Bool.false_ne_true]
  exact h
theorem iteT {A B : Prop} (h : A) : if true = true then A else B := by
  rw [if_pos rfl]
  exact h
theorem ite2 {c A B : Prop} [Decidable c] (h1 : c → A) (h2 : ¬ c → B) : if c then A else B := by
  by_cases h : c
  · rw [if_pos h]
    exact h1 h
  · rw [if_neg h]
    exact h2 h
theorem iteNS {c A B : Prop} [Decidable c] (hc : c) (h : B) : if (!decide c) = true then A else B := by
  rw [decide_eq_true hc]
  exact iteF h
def Same (H H' : Hp) : Prop := ∀ b o, H b = some o → H' b = some o
theorem Same.refl (H : Hp) : Same H H := fun _ _ h => h
theorem Same.trans {H H1 H2 : Hp} (a : Same H H1) (b : Same H1 H2) : Same H H2 := fun c o h => b c o (a c o h)
theorem Same.free {H H' : Hp} (e : Same H H') {l : Addr} (h : H' l = Option.none) : H l = Option.none := by
  cases q : H l with
  | none => rfl
  | some o =>
    rw [e l o q] at h
    cases h
theorem Same.seq {K : PySem.W.Frag} {H H' : Hp} {a : Addr} {xs : List V} (e : Same H H') (h : SqL K H a xs) : SqL K H' a xs := by
  rcases h with (h | ⟨o, h⟩) | h
  · exact .inl (.inl (e _ _ h))
  · exact .inl (.inr ⟨o, e _ _ h⟩)
  · exact .inr h
end L2
namespace Nd
open PySem PySem.Spec PyProof.Rows L2
def cxComp (X : Cx) (scope : Scope) (cl : List (Str × Addr)) (N : List Str) (fp : List Addr) (s : Shared) (H : Hp) : Cx where
  prog := X.prog
  w := X.w
  K := X.K
  mg := X.mg
  base := X.base
  A := X.A
  N := N
  s₀ := s
  H₀ := H
  env := compEnvC scope (cellsFrom (s.heap.objs.size + 1) scope.names cl) s.heap.objs.size X.env
  outer := X.stack
  stack := X.stack
  ex := fp
  fn := fun y => decide (scope.names.lookup y = some NameKind.cell)
  calm := X.calm
  pn := []
  xe := fun _ _ => False
section
variable {prog : Program} {w : World} {A : Around} {R : Result → Shared → Prop} {s : Shared}
theorem comp_turns {elt tg iter : Expr} {ifs : List Expr} {scope : Scope} {pos : Pos} {it acc : Value} {env : Env} (J : Nat → Shared → Prop)
    (turn : ∀ n s, J n s → wpAny (model prog w) A (pyNext it) (fun r s1 => match r with
        | none => R (.ok .next) s1
        | some v => wpAny (model prog w) A (letOwnedTupleGo tg it v) (fun _ s2 => wpAny (model prog w) A (assign tg env v) (fun _ s3 =>
            wpAny (model prog w) A (forIn ifs true fun c r => if r = true then (do
                let ok ← isTrue c env (eval c env)
                pure (ForInStep.yield ok)) else pure (ForInStep.yield r)) (fun ok s4 =>
              if ok = true then
                wpAny (model prog w) A (eval elt env) (fun x s5 => wpAny (model prog w) A (call (.builtin "list.append") [acc, x]) (fun _ s6 => ∃ m, m < n ∧ J m s6) (fun _ _ => False) s5) (fun _ _ => False) s4
              else ∃ m, m < n ∧ J m s4) (fun _ _ => False) s3) (fun _ _ => False) s2) (fun _ _ => False) s1) (fun _ _ => False) s)
    (n : Nat) (h : J n s) : codeAny (model prog w) A (.compLoop (.ListComp elt [⟨tg, iter, ifs, 0⟩] scope pos) 0 it acc env) R s := by
  refine codeAny_loop rfl J (fun n s hJ => ?_) n h
  show wpAny _ A (Sem.onRaise (compTurn (.ListComp elt [⟨tg, iter, ifs, 0⟩] scope pos) 0 it acc env) (fun x => do noteFrame x env; theTreesLotGoes x)) _ _ s
  refine wpAny_noted ?_
  rw [compTurn_list]
  refine wpAny_bind (wpAny_standAt (wpAny_bind (wpAny_mono (turn n s hJ) (fun r s1 h1 => ?_) fun _ _ z => z.elim)))
  cases r with
  | none => exact wpAny_pure h1
  | some v =>
    refine wpAny_bind (wpAny_mono h1 (fun _ s2 h2 => ?_) fun _ _ z => z.elim)
    refine wpAny_bind (wpAny_mono h2 (fun _ s3 h3 => ?_) fun _ _ z => z.elim)
    refine wpAny_bind (wpAny_mono h3 (fun ok s4 h4 => ?_) fun _ _ z => z.elim)
    cases ok with
    | false => exact wpAny_pure ⟨rfl, h4⟩
    | true =>
      refine wpAny_bind (wpAny_bind (wpAny_mono h4 (fun x s5 h5 => ?_) fun _ _ z => z.elim))
      exact wpAny_bind (wpAny_mono h5 (fun _ s6 h6 => wpAny_pure (wpAny_pure ⟨rfl, h6⟩)) fun _ _ z => z.elim)
end
section
variable {X : Cx} {pins : List (Addr × Obj)} {σ : L2.St} {H : Hp} {s : Shared} {scope : Scope} {cl : List (Str × Addr)} {fp : List Addr} {N : List Str}
def OwnN (scope : Scope) (x : Str) : Prop := scope.names.lookup x = some .local ∨ scope.names.lookup x = some .cell
structure CompScope (X : Cx) (scope : Scope) (cl : List (Str × Addr)) (x : Str) (ys : List Str) (js : List Nat) : Prop where
  clos : closureFor scope X.env = pure cl
  oc : (∀ y ∈ scope.names, y.2 ≠ .cell) ∨ ∃ z : Str, (∀ n, cellsFrom n scope.names [] = [(z, n)]) ∧ scope.names.lookup z = some .cell ∧ ∀ y ∈ scope.names, y.2 = .cell → y.1 = z
  kind : scope.kind = .function
  locs : ∀ y ∈ scope.names, y.2 = .local → scope.names.lookup y.1 = some .local
  own : OwnN scope x
  sub : ∀ y c, cl.lookup y = some c → X.env.cells.lookup y = some c
  has_ : (scope.names.all fun y => !(y.2 == NameKind.free) || (cl.lookup y.1).isSome) = true
  nd : (x :: ys).Nodup
  len : ys.length = js.length
  at_ : ∀ (k : Nat) (y : Str) (j : Nat), ys[k]? = some y → js[k]? = some j → X.N[j]? = some y ∧ scope.names.lookup y = some .free ∧ (X.env.kindOf y = some .cell ∨ X.env.kindOf y = some .free)
theorem CompScope.has {x : Str} {ys : List Str} {js : List Nat} (C : CompScope X scope cl x ys js) : ∀ y ∈ scope.names, y.2 = .free → (cl.lookup y.1).isSome = true := fun y hy e => by
  have h := List.all_eq_true.mp C.has_ y hy
  rw [e] at h
  simpa using h
theorem compScope1 {x y : Str} {j : Nat} (clos : closureFor scope X.env = pure cl) (nocell : ∀ y ∈ scope.names, y.2 ≠ .cell) (kind : scope.kind = .function) (locs : ∀ y ∈ scope.names, y.2 = .local → scope.names.lookup y.1 = some .local)
    (own : scope.names.lookup x = some .local) (sub : ∀ y c, cl.lookup y = some c → X.env.cells.lookup y = some c) (has_ : (scope.names.all fun y => !(y.2 == NameKind.free) || (cl.lookup y.1).isSome) = true) (nd : [x, y].Nodup)
    (hN : X.N[j]? = some y) (hfree : scope.names.lookup y = some .free) (hk : X.env.kindOf y = some .cell) : CompScope X scope cl x [y] [j] :=
  ⟨clos, .inl nocell, kind, locs, .inl own, sub, has_, nd, rfl, fun k z i e1 e2 => by
    cases k with
    | zero =>
      have h1 : y = z := by simpa using e1
      have h2 : j = i := by simpa using e2
      subst h1 h2
      exact ⟨hN, hfree, .inl hk⟩
    | succ k => simp at e1⟩
theorem relabel_lookup {env : Env} {y : Str} {k : NameKind} : ∀ {names : List (Str × NameKind)},
    (names.map fun (n, k) => if (k == NameKind.free && env.scope.kind == .function && env.kindOf n == some .cell) then (n, NameKind.cell) else (n, k)).lookup y = some k →
    ∃ k0, names.lookup y = some k0 ∧ (k = k0 ∨ (k0 = .free ∧ k = .cell))
  | [], h => by simp at h
  | (n, k0) :: r, h => by
    have ih := @relabel_lookup env y k r
    rw [List.map_cons] at h
    by_cases hc : (k0 == NameKind.free && env.scope.kind == .function && env.kindOf n == some .cell) = true
    · have h' : List.lookup y ((n, NameKind.cell) :: (r.map fun (n, k) => if (k == NameKind.free && env.scope.kind == .function && env.kindOf n == some .cell) then (n, NameKind.cell) else (n, k))) = some k := by
        simpa [hc] using h
      cases hy : y == n with
      | true =>
        rw [List.lookup_cons, hy] at h'
        have e : k = NameKind.cell := by simpa using h'.symm
        refine ⟨k0, by rw [List.lookup_cons, hy], .inr ⟨?_, e⟩⟩
        rw [Bool.and_eq_true, Bool.and_eq_true] at hc
        exact eq_of_beq hc.1.1
      | false =>
        rw [List.lookup_cons, hy] at h'
        obtain ⟨q, e1, e2⟩ := ih h'
        exact ⟨q, by rw [List.lookup_cons, hy]; exact e1, e2⟩
    · have h' : List.lookup y ((n, k0) :: (r.map fun (n, k) => if (k == NameKind.free && env.scope.kind == .function && env.kindOf n == some .cell) then (n, NameKind.cell) else (n, k))) = some k := by
        simpa [hc] using h
      cases hy : y == n with
      | true =>
        rw [List.lookup_cons, hy] at h'
        exact ⟨k0, by rw [List.lookup_cons, hy], .inl (by simpa using h'.symm)⟩
      | false =>
        rw [List.lookup_cons, hy] at h'
        obtain ⟨q, e1, e2⟩ := ih h'
        exact ⟨q, by rw [List.lookup_cons, hy]; exact e1, e2⟩
theorem relabel_free {env : Env} {y : Str} : ∀ {names : List (Str × NameKind)}, names.lookup y = some .free →
    (names.map fun (n, k) => if (k == NameKind.free && env.scope.kind == .function && env.kindOf n == some .cell) then (n, NameKind.cell) else (n, k)).lookup y = some .cell ∨
    (names.map fun (n, k) => if (k == NameKind.free && env.scope.kind == .function && env.kindOf n == some .cell) then (n, NameKind.cell) else (n, k)).lookup y = some .free
  | [], h => by simp at h
  | (n, k0) :: r, h => by
    have ih := @relabel_free env y r
    show List.lookup y ((if (k0 == NameKind.free && env.scope.kind == .function && env.kindOf n == some .cell) = true then (n, NameKind.cell) else (n, k0)) :: _) = _ ∨ List.lookup y ((if (k0 == NameKind.free && env.scope.kind == .function && env.kindOf n == some .cell) = true then (n, NameKind.cell) else (n, k0)) :: _) = _
    by_cases hc : (k0 == NameKind.free && env.scope.kind == .function && env.kindOf n == some .cell) = true
    · rw [if_pos hc]
      cases hy : y == n with
      | true => exact .inl (by rw [List.lookup_cons, hy])
      | false =>
        rw [List.lookup_cons, hy] at h
        simp only [List.lookup_cons, hy]
        exact ih h
    · rw [if_neg hc]
      cases hy : y == n with
      | true =>
        rw [List.lookup_cons, hy] at h
        exact .inr (by rw [List.lookup_cons, hy]; exact h)
      | false =>
        rw [List.lookup_cons, hy] at h
        simp only [List.lookup_cons, hy]
        exact ih h
theorem lookup_mem {α β : Type} [BEq α] [LawfulBEq α] {y : α} {k : β} : ∀ {l : List (α × β)}, l.lookup y = some k → (y, k) ∈ l
  | [], h => by simp at h
  | (n, v) :: r, h => by
    cases hy : y == n with
    | true =>
      rw [List.lookup_cons, hy] at h
      have e := eq_of_beq hy
      subst e
      have : v = k := by simpa using h
      subst this
      exact List.mem_cons_self
    | false =>
      rw [List.lookup_cons, hy] at h
      exact List.mem_cons_of_mem _ (lookup_mem h)
end
theorem no_cell {a c : Nat} (h : c < a) (e : c = a + 1) : False := by omega
theorem cellsFrom_app : ∀ (names : List (Str × NameKind)) (n : Nat) (acc : List (Str × Addr)), cellsFrom n names acc = cellsFrom n names [] ++ acc
  | [], _, _ => rfl
  | (x, k) :: r, n, acc => by
    unfold cellsFrom
    by_cases h : (k == NameKind.cell) = true
    · rw [if_pos h, if_pos h, cellsFrom_app r _ ((x, n) :: acc), cellsFrom_app r _ [(x, n)], List.append_assoc]; rfl
    · rw [if_neg h, if_neg h]; exact cellsFrom_app r n acc
theorem cellsFrom_none : ∀ (names : List (Str × NameKind)) (n : Nat) (acc : List (Str × Addr)), (∀ y ∈ names, y.2 ≠ .cell) → cellsFrom n names acc = acc
  | [], _, _, _ => rfl
  | (x, k) :: r, n, acc, h => by
    unfold cellsFrom
    rw [if_neg (by have := h (x, k) List.mem_cons_self; simpa using this)]
    exact cellsFrom_none r n acc fun y hy => h y (List.mem_cons_of_mem _ hy)
theorem relabel_cell {env : Env} {y : Str} : ∀ {names : List (Str × NameKind)}, names.lookup y = some .cell → (names.map fun (n, k) => if (k == NameKind.free && env.scope.kind == .function && env.kindOf n == some .cell) then (n, NameKind.cell) else (n, k)).lookup y = some .cell
  | [], h => by simp at h
  | (n, k0) :: r, h => by
    have ih := @relabel_cell env y r
    show List.lookup y ((if (k0 == NameKind.free && env.scope.kind == .function && env.kindOf n == some .cell) = true then (n, NameKind.cell) else (n, k0)) :: _) = _
    by_cases hc : (k0 == NameKind.free && env.scope.kind == .function && env.kindOf n == some .cell) = true
    · rw [if_pos hc]
      cases hy : y == n with
      | true => rw [List.lookup_cons, hy]
      | false => rw [List.lookup_cons, hy] at h ⊢; exact ih h
    · rw [if_neg hc]
      cases hy : y == n with
      | true => rw [List.lookup_cons, hy] at h ⊢; exact h
      | false => rw [List.lookup_cons, hy] at h ⊢; exact ih h
theorem own_loc {env : Env} {scope : Scope} {x : Str} (o : OwnN scope x) : Loc (relabel scope env) x := o.imp lookup_relabel_local relabel_cell
section
variable {X : Cx} {scope : Scope} {cl : List (Str × Addr)} {x y : Str} {ys : List Str} {js : List Nat} {n c : Nat} {N : List Str} {fp : List Addr} {s : Shared} {H : Hp}
theorem own_fn (o : OwnN scope x) : (cxComp X scope cl N fp s H).fn x = true ∨ (cxComp X scope cl N fp s H).env.scope.names.lookup x = some .local := by
  rcases o with o | o
  · exact .inr (lookup_relabel_local o)
  · exact .inl (decide_eq_true o)
theorem CompScope.split (C : CompScope X scope cl x ys js) (h : (cellsFrom n scope.names cl).lookup y = some c) : cl.lookup y = some c ∨ (c = n ∧ cellsFrom 0 scope.names [] = [(y, 0)] ∧ cellsFrom n scope.names [] = [(y, n)] ∧ scope.names.lookup y = some .cell) := by
  rcases C.oc with o | ⟨z, o1, o2, _⟩
  · rw [cellsFrom_none _ _ _ o] at h; exact .inl h
  · rw [cellsFrom_app, o1] at h
    have h2 : List.lookup y ((z, n) :: cl) = some c := h
    rw [List.lookup_cons] at h2
    cases e : y == z with
    | true =>
      rw [e] at h2
      have ec : c = n := (Option.some.inj h2).symm
      have ey := eq_of_beq e
      subst ey
      exact .inr ⟨ec, o1 0, o1 n, o2⟩
    | false => rw [e] at h2; exact .inl h2
theorem CompScope.find (C : CompScope X scope cl x ys js) (h : cl.lookup y = some c) (hy : scope.names.lookup y = some .free) : (cellsFrom n scope.names cl).lookup y = some c := by
  rcases C.oc with o | ⟨z, o1, o2, _⟩
  · rw [cellsFrom_none _ _ _ o]; exact h
  · rw [cellsFrom_app, o1]
    show List.lookup y ((z, n) :: cl) = some c
    rw [List.lookup_cons]
    cases e : y == z with
    | true => rw [eq_of_beq e, o2] at hy; cases hy
    | false => exact h
theorem CompScope.cellAt (C : CompScope X scope cl x ys js) (hy : (y, NameKind.cell) ∈ scope.names) : (cellsFrom n scope.names cl).lookup y = some n := by
  rcases C.oc with o | ⟨z, o1, o2, o3⟩
  · exact absurd rfl (o _ hy)
  · have ez : y = z := o3 _ hy rfl
    subst ez
    rw [cellsFrom_app, o1]
    show List.lookup y ((y, n) :: cl) = some n
    rw [List.lookup_cons, beq_self_eq_true]
theorem new_block {M : Model} {A : Around} {E : Value → Shared → Prop} {Q : Env → Shared → Prop} (C : CompScope X scope cl x ys js)
    (hQ : ∀ h4, h4.Ns s.heap.objs.size (fun _ => none) → (∀ b u, s.heap.get? b = some u → h4.get? b = some u) → (∀ z n, cellsFrom (s.heap.objs.size + 1) scope.names [] = [(z, n)] → h4.IsCell n none) →
      Q (newEnv scope s.heap.objs.size X.env.globals (cellsFrom (s.heap.objs.size + 1) scope.names cl) X.env.qual none .none (some X.env) builtinsNs) { s with heap := h4, toks := s.toks + ([] : List (Str × Value)).length }) :
    wpAny M A (newFunctionEnv scope X.env.globals cl [] X.env.qual none .none (some X.env)) Q E s := by
  simp only [newFunctionEnv, Option.isSome_some, if_true]
  refine wpAny_bind (wpAny_alloc (wpAny_bind (wpAny_layCells _ (fun x k cs => by cases e : k == NameKind.cell <;> simp [e]) _ _ _ _ ?_)))
  have hsz : ({ s with heap := s.heap.push { cls := .type "dict", data := .dict #[] } } : Shared).heap.objs.size = s.heap.objs.size + 1 := Heap.size_push ..
  rw [hsz]
  refine wpAny_bind (wpAny_pure (wpAny_pure (hQ _ ((Heap.Ns.new s.heap (.type "dict")).keeps (pushCells_keeps _ _)) (fun b u e => pushCells_keeps _ _ b u (Heap.get?_push_of_some _ e)) fun z n e => ?_)))
  have ok := (cellsFrom_ok scope.names (s.heap.push { cls := .type "dict", data := .dict #[] }) 0 [] ⟨fun _ _ hm => (nomatch hm), List.Pairwise.nil⟩ (Nat.zero_le _)).empty z n
  rw [show (s.heap.push { cls := .type "dict", data := .dict #[] }).objs.size = s.heap.objs.size + 1 from hsz, e] at ok
  exact (ok (List.mem_singleton.mpr rfl)).1
end
section
variable {X : Cx} {pins : List (Addr × Obj)} {σ : L2.St} {H : Hp} {s : Shared} {scope : Scope} {cl : List (Str × Addr)} {fp : List Addr} {N : List Str}
theorem comp_ok {x : Str} {ys : List Str} {js : List Nat} (C : CompScope X scope cl x ys js) (I : Inv X pins σ H s) (hf : ∀ b ∈ fp, FpOk X pins H b) (ho : ∀ b ∈ fp, ∃ o, s.heap.get? b = some o) :
    (cxComp X scope cl N fp s H).Ok where
  mod := I.ok.mod
  kind := C.kind
  glob := I.ok.glob
  blt := I.ok.blt
  above := Nat.le_refl _
  inj := fun y z c h1 h2 => by
    have lt : ∀ y, cl.lookup y = some c → c < s.heap.objs.size := fun y e => let ⟨_, q⟩ := I.cell y c (C.sub y c e); q.lt
    rcases C.split h1 with h1 | ⟨e1, a1, _⟩
    · rcases C.split h2 with h2 | ⟨e2, _⟩
      · exact I.ok.inj y z c (C.sub y c h1) (C.sub z c h2)
      · exact (no_cell (lt y h1) e2).elim
    · rcases C.split h2 with h2 | ⟨e2, a2, _⟩
      · exact (no_cell (lt z h2) e1).elim
      · rw [a1] at a2
        simpa using a2
  has := fun y hy => by
    have key : ∀ k, (k = NameKind.cell ∨ k = NameKind.free) → (compEnvC scope cl s.heap.objs.size X.env).kindOf y = some k → ∃ c, (cellsFrom (s.heap.objs.size + 1) scope.names cl).lookup y = some c := by
      intro k hk e
      obtain ⟨k0, e0, e1⟩ := relabel_lookup (names := scope.names) (env := X.env) (y := y) (k := k) e
      have m := lookup_mem e0
      by_cases hk0 : k0 = .cell
      · exact ⟨_, C.cellAt (hk0 ▸ m)⟩
      have hfree : k0 = .free := by
        rcases e1 with e1 | e1
        · subst e1
          rcases hk with hk | hk
          · exact absurd hk hk0
          · exact hk
        · exact e1.1
      obtain ⟨c, hc⟩ := Option.isSome_iff_exists.mp (C.has _ m hfree)
      exact ⟨c, C.find hc (hfree ▸ e0)⟩
    rcases hy with hy | hy
    · exact key _ (.inl rfl) hy
    · exact key _ (.inr rfl) hy
  cab := fun y c h e => by
    have h : scope.names.lookup y = some .cell := of_decide_eq_true h
    have := (C.cellAt (n := s.heap.objs.size + 1) (lookup_mem h)).symm.trans e
    show s.heap.objs.size ≤ c
    have := Option.some.inj this
    omega
  hd := I.ok.hd
  frames := I.ok.frames
  stk := .inl rfl
  exf := fun b hb => by
    obtain ⟨o, e⟩ := ho b hb
    refine ⟨Nat.ne_of_lt (Heap.lt_size e), fun y c hc => ?_⟩
    rcases C.split hc with hc | ⟨hc, _⟩
    · exact (hf b hb).2.2.2.2.1 y c (C.sub y c hc)
    · exact fun z => no_cell (Heap.lt_size e) (z.symm.trans hc)
  bs := I.bs
  bsz := Nat.le_trans I.ok.bsz I.sz
  noex := fun b o e hb => by
    rcases (hf b hb).2.2.2.1 with z | z
    · exact I.ok.noex b o e z
    · exact absurd (Nat.lt_of_lt_of_le (Heap.lt_size (I.ok.bs b o e).1) z) (Nat.lt_irrefl _)
  exfs := fun b hb z => by
    rcases List.mem_cons.mp (I.stkSub b z) with e | e
    · exact (hf b hb).2.1 e
    · exact (hf b hb).2.2.1 e
  funs := I.stack
  frf := I.stkFree
def frees (σ : L2.St) (js : List Nat) : L2.St := js.map fun j => (σ[j]?).join
theorem comp_start {x : Str} {pre ys : List Str} {js : List Nat} {h1 : Heap} {tk : Nat} {m1 : Str → Option Value} (C : CompScope X scope cl x ys js) (I : Inv X pins σ H s) (hf : ∀ b ∈ fp, FpOk X pins H b) (ho : ∀ b ∈ fp, ∃ o, s.heap.get? b = some o)
    (hns : h1.Ns s.heap.objs.size m1) (keep : ∀ b u, s.heap.get? b = some u → h1.get? b = some u) (new : ∀ z n, cellsFrom (s.heap.objs.size + 1) scope.names [] = [(z, n)] → h1.IsCell n none) :
    Inv (cxComp X scope cl (pre ++ ys) fp s H) [] (pre.map (fun _ => none) ++ frees σ js) H { s with heap := h1, toks := tk } := by
  have cellK : ∀ y c, cl.lookup y = some c → ∃ v, s.heap.IsCell c v ∧ h1.IsCell c v := fun y c e => by
    obtain ⟨v, o, q, d⟩ := I.cell y c (C.sub y c e)
    exact ⟨v, ⟨o, q, d⟩, o, keep c o q, d⟩
  refine ⟨comp_ok C I hf ho, rfl, I.bare, Un.kept keep, ⟨m1, hns, fun i y v e1 e2 _ => ?_⟩, fun y c e => ?_, I.hok.fresh (Nat.le_refl _), fun y c e => ?_, fun p hp => ?_, I.hok.kept keep, ?_⟩
  · have e2 : (pre.map (fun _ => (none : Option V)) ++ frees σ js)[i]? = some (some v) := e2
    have e1 : (pre ++ ys)[i]? = some y := e1
    by_cases hi : i < pre.length
    · rw [List.getElem?_append_left (by rw [List.length_map]; exact hi), List.getElem?_map] at e2
      cases q : pre[i]? with
      | none => rw [q] at e2; cases e2
      | some z => rw [q] at e2; cases e2
    · rw [List.getElem?_append_right (by rw [List.length_map]; omega), List.length_map] at e2
      rw [List.getElem?_append_right (by omega)] at e1
      have e1' := e1
      have e2' := e2
      generalize i - pre.length = k at e1' e2'
      unfold frees at e2'
      rw [List.getElem?_map] at e2'
      cases ej : js[k]? with
      | none => rw [ej] at e2'; simp at e2'
      | some j =>
        rw [ej] at e2'
        have e3 : (σ[j]?).join = some v := by simpa using e2'
        have e4 : σ[j]? = some (some v) := by
          cases q : σ[j]? with
          | none => rw [q] at e3; simp at e3
          | some z => rw [q] at e3; simp at e3; rw [e3]
        obtain ⟨a1, a2, a3⟩ := C.at_ k y j e1' ej
        obtain ⟨m0, _, hl⟩ := I.loc
        have vis : Vis X.env.scope y := a3.elim (fun a3 => .inr (.inl a3)) fun a3 => .inr (.inr a3)
        obtain ⟨u, r, l⟩ := hl j y v a1 e4 vis
        refine ⟨u, r, ?_⟩
        rcases l with ⟨k1, _⟩ | ⟨_, c, hc, hv⟩
        · rcases a3 with a3 | a3 <;> rw [k1] at a3 <;> cases a3
        · obtain ⟨c', hc'⟩ := Option.isSome_iff_exists.mp (C.has _ (lookup_mem a2) rfl)
          have ec : c' = c := by
            have := C.sub y c' hc'
            rw [hc] at this
            exact (Option.some.inj this).symm
          subst ec
          obtain ⟨o, q, d⟩ := hv
          exact .inr ⟨relabel_free a2, c', C.find hc' a2, o, keep c' o q, d⟩
  · rcases C.split e with e | ⟨e, _, e', _⟩
    · obtain ⟨v, _, z⟩ := cellK y c e
      exact ⟨v, z⟩
    · exact ⟨_, e ▸ new _ _ e'⟩
  · rcases C.split e with e | ⟨e, _⟩
    · exact I.freeC y c (C.sub y c e)
    · exact I.hok.fresh (by omega)
  · cases (show p ∈ ([] : List (Addr × Obj)) from hp)
  · show (pre.map (fun _ => (none : Option V)) ++ frees σ js).length = (pre ++ ys).length
    simp [frees, C.len]
end
section
variable {X : Cx}
def CompW (J : It) (js : List Nat) (tc : TT) (te : TE) (σ : L2.St) (H1 : Hp) (Q : VK) : Prop := ∀ D, H1 D = none → ∃ W : Nat → Nat → Hp → Prop, (∃ m, W 0 m (upd H1 D (.lst []))) ∧ ∀ i m H, W i m H →
  (J.stop i H ∧ Q (.ref D) H) ∨ (J.go i H ∧ ∀ x H', J.yld i H x H' → ∃ (N1 : Hp → Prop) (N2 : VK), (∀ H2, N1 H2 → ∃ m', m' < m ∧ W (i + 1) m' H2) ∧
    (∀ y H3, N2 y H3 → ∃ acc, H3 D = some (.lst acc) ∧ acc.length < sizeLine ∧ ∃ m', m' < m ∧ W (i + 1) m' (upd H3 D (.lst (acc ++ [y])))) ∧
    tc (some x :: frees σ js) H' fun c H2 => if c = true then te (some x :: frees σ js) H2 N2 else N1 H2)
def tComp (wi : TI) (js : List Nat) (tc : TT) (te : TE) : TE := fun σ H Q => wi σ H fun J H1 => CompW J js tc te σ H1 Q
def tNoTest : TT := fun _ H Q => Q true H
theorem noTest {σ : L2.St} {H : Hp} {te : TE} {N1 : Hp → Prop} {N2 : VK} {σ' : L2.St} (h : te σ' H N2) : tNoTest σ H fun c H2 => if c = true then te σ' H2 N2 else N1 H2 := by
  show if true = true then te σ' H N2 else N1 H
  exact iteT h
def PTs (X : Cx) (ifs : List Expr) (t : TT) : Prop :=
  ∀ (pins : List (Addr × Obj)) (s : Shared) (σ : L2.St) (H : Hp) (Q : Bool → Hp → Prop), Inv X pins σ H s → t σ H Q →
    wpAny (model X.prog X.w) X.A (forIn ifs true fun c r => if r = true then (do
      let ok ← isTrue c X.env (eval c X.env)
      pure (ForInStep.yield ok)) else pure (ForInStep.yield r)) (TP X pins σ Q) X.xe s
theorem pts_none : PTs X [] tNoTest := fun pins s σ H Q I h => wpAny_tests_nil ⟨H, I, h⟩
theorem pts_one {c : Expr} {t : TT} (h : PT X c t) : PTs X [c] t := fun pins s σ H Q I q => wpAny_tests_one (h pins s σ H Q I q)
theorem pe_comp {elt iter : Expr} {x : Str} {px pos : Pos} {ifs : List Expr} {scope : Scope} {cl : List (Str × Addr)} {ys : List Str} {js : List Nat} {wi : TI} {tc : TT} {te : TE} (C : CompScope X scope cl x ys js) (hc : X.calm = true)
    (hi : PI X (.Name x px) iter wi) (ht : ∀ fp s H, PTs (cxComp X scope cl (x :: ys) fp s H) ifs tc) (he : ∀ fp s H, PE (cxComp X scope cl (x :: ys) fp s H) elt te)
    (hs : ∀ x, foldedSetIterable iter X.env x = pure x := by intro _; rfl) :
    PE X (.ListComp elt [⟨.Name x px, iter, ifs, 0⟩] scope pos) (tComp wi js tc te) := by
  intro pins s σ H Q I h
  rw [eval_ListComp]
  refine wpAny_comprehension_free (use := none) rfl hs C.clos C.kind C.locs (thn (hi pins s σ H _ I h) fun v s1 h1 => thn h1 fun itv s2 h2 => ?_)
  obtain ⟨it, fp, tn, J, H2, e, I2, T, st2, f2, q2⟩ := h2
  subst e
  have fD : H2 s2.heap.objs.size = none := I2.hok.fresh (Nat.le_refl _)
  obtain ⟨W, ⟨m0, w0⟩, turn⟩ := q2 s2.heap.objs.size fD
  refine wpAny_newObj_type ?_
  have I3 : Inv X pins σ (upd H2 s2.heap.objs.size (.lst [])) { s2 with heap := s2.heap.push { cls := .type "list", dict := none, data := .seq ([] : List Value).toArray } } :=
    I2.laid (t' := s2.toks) (fun b u q => Heap.get?_push_of_some _ q) (Nat.le_refl _) ⟨Nat.zero_le _, [], 0, .nil, Heap.get?_push_size _ rfl⟩
  have nfp : ∀ b ∈ fp, b ≠ s2.heap.objs.size := fun b hb z => by
    obtain ⟨o, q, _⟩ := T.obj _ _ st2 b hb
    have := Heap.lt_size q
    rw [z] at this
    exact absurd this (Nat.lt_irrefl _)
  have f3 : ∀ b ∈ fp, FpOk X pins (upd H2 s2.heap.objs.size (.lst [])) b := fun b hb => ⟨by rw [upd_ne (nfp b hb)]; exact (f2 b hb).1, (f2 b hb).2⟩
  generalize hS3 : ({ s2 with heap := s2.heap.push { cls := .type "list", dict := none, data := .seq ([] : List Value).toArray } } : Shared) = s3 at I3
  have st3 : tn 0 s3.heap := T.keep 0 _ _ st2 fun b hb o q => by rw [← hS3]; exact Heap.get?_push_of_some _ q
  have o3 : ∀ b ∈ fp, ∃ o, s3.heap.get? b = some o := fun b hb => let ⟨o, q, _⟩ := T.obj _ _ st3 b hb; ⟨o, q⟩
  show wpAny _ _ (newFunctionEnv scope X.env.globals cl [] X.env.qual none .none (some X.env)) _ _ _
  refine new_block C fun h4 hns4 keep4 new4 => ?_
  have I4 : ∀ tk, Inv (cxComp X scope cl (x :: ys) fp s3 (upd H2 s2.heap.objs.size (.lst []))) [] (none :: frees σ js) (upd H2 s2.heap.objs.size (.lst [])) { s3 with heap := h4, toks := tk } := fun tk => comp_start (pre := [x]) C I3 f3 o3 hns4 keep4 new4
  have st4 : tn 0 h4 := T.keep 0 _ _ st3 fun b hb o q => keep4 b o q
  generalize hX' : cxComp X scope cl (x :: ys) fp s3 (upd H2 s2.heap.objs.size (.lst [])) = X' at I4
  have eP : X'.prog = X.prog := by rw [← hX']; rfl
  have eW : X'.w = X.w := by rw [← hX']; rfl
  have eK : X'.K = X.K := by rw [← hX']; rfl
  have eA : X'.A = X.A := by rw [← hX']; rfl
  have eC : X'.calm = true := by rw [← hX']; exact hc
  have stat : ∀ {H' : Hp}, (∀ b ∈ fp, H' b = none) → ∀ b ∈ fp, FpOk X' [] H' b := fun {H'} hn b hb => by
    have ok := (I4 0).ok
    have hex : b ∈ X'.ex := by rw [← hX']; exact hb
    exact ⟨hn b hb, (ok.exf b hex).1, ok.exfs b hex, .inl hex, (ok.exf b hex).2, fun p hp => by rw [← hX'] at hp; cases (show p ∈ ([] : List (Addr × Obj)) from hp)⟩
  have loop : ∀ s5 : Shared, s5 = { s3 with heap := h4, toks := s3.toks + ([] : List (Str × Value)).length } →
      codeAny (model X.prog X.w) X.A (.compLoop (.ListComp elt [⟨.Name x px, iter, ifs, 0⟩] scope pos) 0 (.ref it) (.ref s2.heap.objs.size) (compEnvC scope (cellsFrom (s3.heap.objs.size + 1) scope.names cl) s3.heap.objs.size X.env))
        (compPost (model X.prog X.w) X.A X.xe none (EP X pins σ Q) (.ref s2.heap.objs.size) s3.heap.objs.size) s5 := by
    rintro s5 rfl
    refine comp_turns (fun n s' => ∃ i o H', Inv X' [] (o :: frees σ js) H' s' ∧ tn i s'.heap ∧ (∀ b ∈ fp, H' b = none) ∧ W i n H') ?_ m0
      ⟨0, none, _, I4 _, st4, fun b hb => (f3 b hb).1, w0⟩
    rintro n s6 ⟨i, o, H6, I6, st6, fr6, w6⟩
    rcases turn i n H6 w6 with ⟨stop, qn⟩ | ⟨go, step⟩
    · have hd := T.done X' eP eW eK eC i [] s6 _ H6 (fun _ _ => False) I6 (stat fr6) st6 stop
      rw [eA] at hd
      refine thn hd fun r s7 ⟨hr, I7⟩ => ?_
      subst hr
      obtain ⟨m7, hn7, _⟩ := I7.loc
      have hn7' : s7.heap.Ns s3.heap.objs.size m7 := by rw [← hX'] at hn7; exact hn7
      refine ⟨m7, hn7', fun h8 hs8 => ?_⟩
      have I7f : H6 s3.heap.objs.size = none := by have := I7.free; rw [← hX'] at this; exact this
      have b7 : Un (frs X.stack) fp (upd H2 s2.heap.objs.size (.lst [])) H6 s3.heap s7.heap := by have := I7.base; rw [← hX'] at this; exact this
      have ne8 : ∀ b o, s3.heap.get? b = some o → b ≠ s3.heap.objs.size := fun b o q => Nat.ne_of_lt (Heap.lt_size q)
      have u8 : Un (frs X.stack) fp (upd H2 s2.heap.objs.size (.lst [])) H6 s3.heap h8 := by
        refine ⟨fun b o q n hb hx => (hs8.2 b (ne8 b o q)).trans (b7.keep b o q n hb hx), fun b o q n hb hx => ?_, b7.free, fun b o q hx => ?_, b7.tups, b7.frzs, b7.tbls⟩
        · obtain ⟨sl, z⟩ := b7.slot b o q n hb hx
          exact ⟨sl, (hs8.2 b (ne8 b o q)).trans z⟩
        · obtain ⟨o', z⟩ := b7.there b o q hx
          exact ⟨o', (hs8.2 b (ne8 b o q)).trans z⟩
      have hok8 : HOk X.prog X.w H6 h8 := fun b ob e => by
        have hk7 := I7.hok
        rw [eP, eW] at hk7
        refine (hk7 b ob e).stay (fun c w' hcc q => (hs8.2 c ?_).trans q) (fun _ q => q) fun _ _ q => q
        rintro rfl
        rcases hcc with rfl | hcc
        · rw [I7f] at e; cases e
        · rw [I7f] at hcc; cases hcc
      have os7 : s7.os = s3.os := by have := I7.os; rw [← hX'] at this; exact this
      exact ⟨.ref s2.heap.objs.size, H6, I3.call' (s' := { s7 with heap := h8 }) (ch := fp) os7 u8 hok8 I7.bare (fun b hb => ⟨(f3 b hb).2.2.2.1, (f3 b hb).2.1, (f3 b hb).2.2.2.2.1, (f3 b hb).2.2.2.2.2⟩), rfl, qn⟩
    · have hit := T.item X' eP eW eK eC i [] s6 _ H6 (fun _ _ => False) I6 (stat fr6) st6 go
      rw [eA] at hit
      refine thn hit fun r s7 ⟨u, hr, h7⟩ => ?_
      subst hr
      refine thn h7 fun _ s8 ⟨y, H8, I8, r8, y8, st8, fr8⟩ => ?_
      have I8' := I8.pinned (stat fr8) (T.obj _ _ st8)
      obtain ⟨N1, N2, hN1, hN2, hst⟩ := step y H8 y8
      have again : ∀ {H9 : Hp} {s9 : Shared} {m' : Nat}, Inv X' ([] ++ pinsAt fp s8.heap) (some y :: frees σ js) H9 s9 → m' < n → W (i + 1) m' H9 → ∃ m, m < n ∧ ∃ i o H', Inv X' [] (o :: frees σ js) H' s9 ∧ tn i s9.heap ∧ (∀ b ∈ fp, H' b = none) ∧ W i m H' := fun {H9 s9 m'} I9 hm w9 => by
        refine ⟨m', hm, i + 1, some y, H9, I9.unpinned, T.keep _ _ _ st8 fun b hb o e => (I9.pin (b, o) (List.mem_append_right _ (List.mem_append_right _ (mem_pinsAt hb e)))).1, fun b hb => ?_, w9⟩
        obtain ⟨o, e, _⟩ := T.obj _ _ st8 b hb
        exact (I9.pin (b, o) (List.mem_append_right _ (List.mem_append_right _ (mem_pinsAt hb e)))).2.1
      subst hX'
      refine thn (pg_name (i := 0) (x := x) (pos := px) C.nd rfl (own_loc C.own) (own_fn C.own) _ s8 _ H8 y u (fun σ' H' => σ' = some y :: frees σ js ∧ H' = H8) I8' r8 ⟨rfl, rfl⟩) fun _ s9 ⟨σ9, H9, I9, e9, e9'⟩ => ?_
      subst e9 e9'
      refine thn (ht fp s3 _ _ s9 _ _ _ I9 hst) fun ok s10 ⟨H10, I10, q10⟩ => ?_
      cases ok with
      | false =>
        rw [if_neg Bool.false_ne_true] at q10 ⊢
        obtain ⟨m', hm, w10⟩ := hN1 _ q10
        exact again I10 hm w10
      | true =>
        rw [if_pos rfl] at q10 ⊢
        refine thn (he fp s3 _ _ s10 _ _ _ I10 q10) fun z s11 ⟨vz, H11, I11, r11, q11⟩ => ?_
        obtain ⟨acc, ha, hz, m', hm, w11⟩ := hN2 _ _ q11
        refine thn (mt_append _ s11 _ H11 (.ref s2.heap.objs.size) [vz] (.ref s2.heap.objs.size) [z] (fun _ H' => H' = upd H11 s2.heap.objs.size (.lst (acc ++ [vz]))) I11 rfl (.cons r11 .nil) ⟨_, acc, vz, rfl, rfl, ha, hz, rfl⟩) fun _ s12 ⟨_, H12, I12, _, e12⟩ => ?_
        subst e12
        exact again I12 hm w11
  exact codeAny_compStart_list (loop _ rfl) (T.self X.A 0 _ _ _ st4 (loop _ rfl))
end
structure Walked (J : It) (G : Hp → Prop) (xs : List V) : Prop where
  go : ∀ i H, i < xs.length → G H → J.go i H
  yld : ∀ i H x H', i < xs.length → G H → J.yld i H x H' → H' = H ∧ xs[i]? = some x
  stop : ∀ H, G H → J.stop xs.length H
theorem walked_tup {K : PySem.W.Frag} {a : Addr} {xs : List V} : Walked (Itt K a) (fun H => SqT K H a xs) xs where
  go := fun i H h q => ⟨xs, xs[i], q, by simp [h]⟩
  yld := fun i H x H' _ q y => ⟨y.1, y.2 xs q⟩
  stop := fun H q => ⟨xs, q, Nat.le_refl _⟩
theorem walked_range {lo : Int} {n : Nat} : Walked (Itr lo n) (fun _ => True) ((List.range n).map fun i : Nat => V.int (lo + i)) where
  go := fun i H h _ => by
    rw [List.length_map, List.length_range] at h
    exact h
  yld := fun i H x H' h _ y => by
    obtain ⟨e, y⟩ := y
    rw [List.length_map, List.length_range] at h
    refine ⟨e, ?_⟩
    rw [List.getElem?_map, List.getElem?_range h, y]
    rfl
  stop := fun H _ => by
    rw [List.length_map, List.length_range]
    exact Nat.le_refl n
theorem comp_by {J : It} {G : Hp → Prop} {xs : List V} {js : List Nat} {tc : TT} {te : TE} {σ : L2.St} {H1 : Hp} {Q : VK} (wk : Walked J G xs) (hz : xs.length ≤ sizeLine) (Pv : Addr → Nat → List V → Hp → Prop)
    (h0 : ∀ D, H1 D = none → Pv D 0 [] (upd H1 D (.lst []))) (hg : ∀ D i acc H, Pv D i acc H → G H)
    (hs : ∀ D i x acc H, H1 D = none → xs[i]? = some x → H D = some (.lst acc) → Pv D i acc H → tc (some x :: frees σ js) H fun c H2 => if c = true then te (some x :: frees σ js) H2 fun y H3 => H3 D = some (.lst acc) ∧ Pv D (i + 1) (acc ++ [y]) (upd H3 D (.lst (acc ++ [y])))
      else H2 D = some (.lst acc) ∧ Pv D (i + 1) acc H2)
    (hd : ∀ D acc H, H1 D = none → H D = some (.lst acc) → Pv D xs.length acc H → Q (.ref D) H) : CompW J js tc te σ H1 Q := by
  intro D nD
  refine ⟨fun i m H => m = xs.length - i ∧ i ≤ xs.length ∧ ∃ acc, H D = some (.lst acc) ∧ acc.length ≤ i ∧ Pv D i acc H, ⟨xs.length, by simp, Nat.zero_le _, [], upd_same, Nat.le_refl _, h0 D nD⟩, ?_⟩
  rintro i m H ⟨rfl, hi, acc, ha, hl, p⟩
  have g := hg D i acc H p
  by_cases hlt : i < xs.length
  · refine .inr ⟨wk.go i H hlt g, fun x H' y => ?_⟩
    obtain ⟨e, hx⟩ := wk.yld i H x H' hlt g y
    subst e
    refine ⟨fun H2 => H2 D = some (.lst acc) ∧ Pv D (i + 1) acc H2, fun y H3 => H3 D = some (.lst acc) ∧ Pv D (i + 1) (acc ++ [y]) (upd H3 D (.lst (acc ++ [y]))), fun H2 q => ?_, fun z H3 q => ?_, hs D i x acc _ nD hx ha p⟩
    · exact ⟨xs.length - (i + 1), by omega, rfl, hlt, acc, q.1, by omega, q.2⟩
    · exact ⟨acc, q.1, by omega, xs.length - (i + 1), by omega, rfl, hlt, acc ++ [z], upd_same, by rw [List.length_append, List.length_singleton]; omega, q.2⟩
  · have e : i = xs.length := by omega
    subst e
    exact .inl ⟨wk.stop H g, hd D acc H nD ha p⟩
theorem same_new {H : Hp} {p : Addr} (h : H p = none) (o : HO) : Same H (upd H p o) := fun b u q => by rw [upd_ne (ne_of_none q h)]; exact q
theorem take_more {α : Type} {xs : List α} {i : Nat} {x : α} (h : xs[i]? = some x) : xs.take (i + 1) = xs.take i ++ [x] := by
  rw [List.take_succ, h]; rfl
theorem comp_pure {J : It} {G : Hp → Prop} {xs : List V} {js : List Nat} {tc : TT} {te : TE} {σ : L2.St} {H1 : Hp} {Q : VK} (wk : Walked J G xs) (hz : xs.length ≤ sizeLine) (p : V → Bool) (f : V → V)
    (hg : ∀ H, Same H1 H → G H)
    (htc : ∀ x ∈ xs, ∀ H, Same H1 H → ∀ Q' : Bool → Hp → Prop, (∀ H2, Same H H2 → Q' (p x) H2) → tc (some x :: frees σ js) H Q')
    (hte : ∀ x ∈ xs, p x = true → ∀ H, Same H1 H → ∀ Q' : VK, (∀ H2, Same H H2 → Q' (f x) H2) → te (some x :: frees σ js) H Q')
    (hd : ∀ D H, H1 D = none → H D = some (.lst ((xs.filter p).map f)) → Same H1 H → Q (.ref D) H) : CompW J js tc te σ H1 Q := by
  refine comp_by wk hz (fun _ i acc H => acc = ((xs.take i).filter p).map f ∧ Same H1 H) (fun D nD => ⟨by simp, same_new nD _⟩) (fun D i acc H h => hg H h.2) (fun D i x acc H nD hx ha ⟨e, sm⟩ => ?_) (fun D acc H nD ha ⟨e, sm⟩ => ?_)
  · have mx : x ∈ xs := List.mem_of_getElem? hx
    refine htc x mx H sm _ fun H2 s2 => ?_
    cases hp : p x with
    | false =>
      rw [if_neg Bool.false_ne_true]
      refine ⟨s2 _ _ ha, ?_, sm.trans s2⟩
      rw [take_more hx, List.filter_append, e]
      simp [hp]
    | true =>
      rw [if_pos rfl]
      refine hte x mx hp H2 (sm.trans s2) _ fun H3 s3 => ?_
      refine ⟨s3 _ _ (s2 _ _ ha), ?_, ?_⟩
      · rw [take_more hx, List.filter_append, e]
        simp [hp]
      · intro b o q
        have nb : b ≠ D := ne_of_none q nD
        rw [upd_ne nb]
        exact s3 _ _ (s2 _ _ (sm _ _ q))
  · rw [List.take_length] at e
    subst e
    exact hd D H nD ha sm
end Nd
namespace Nd
open PySem PySem.Spec PyProof.Rows L2
def okV : V → Bool
  | .byt _ => false
  | .flt _ => false
  | _ => true
theorem eqAt_self {A : Around} {s : Shared} {x : V} {u v : Value} (hx : okV x = true) (ru : RelV x u) (rv : RelV x v) : SeqAt.EqAt A s u v true := by
  cases x with
  | non => cases ru; cases rv; exact SeqAt.EqAt.same _
  | bl b => cases ru; cases rv; exact SeqAt.EqAt.same _
  | int i =>
    obtain ⟨t, rfl⟩ := ru
    obtain ⟨t', rfl⟩ := rv
    have h := SeqAt.EqAt.int_int (A := A) (s := s) i t i t'
    rw [beq_self_eq_true] at h
    exact h
  | str y =>
    obtain ⟨t, rfl⟩ := ru
    obtain ⟨t', rfl⟩ := rv
    have h := SeqAt.EqAt.str_str (A := A) (s := s) y t y t'
    rw [beq_self_eq_true] at h
    exact h
  | byt _ => cases hx
  | flt _ => cases hx
  | ref a => cases ru; cases rv; exact SeqAt.EqAt.same _
  | ty n => cases ru; cases rv; exact SeqAt.EqAt.same _
theorem Vals.at' {xs : List V} {us : List Value} (r : Vals xs us) {j : Nat} (h : j < us.length) : ∃ x, xs[j]? = some x ∧ RelV x us[j] := by
  have hl := r.length
  have hj : j < xs.length := by omega
  obtain ⟨u, hu, ru⟩ := r.get (i := j) (x := xs[j]) (by simp [hj])
  rw [List.getElem?_eq_getElem h] at hu
  cases hu
  exact ⟨xs[j], by simp [hj], ru⟩
def EqV1 (K : PySem.W.Frag) (H : Hp) (x y : V) : Prop :=
  (x = y ∧ okV x = true) ∨ ∃ (p q : Addr) (zs : List V), x = .ref p ∧ y = .ref q ∧ zs.all okV = true ∧ ((SqL K H p zs ∧ SqL K H q zs) ∨ (SqT K H p zs ∧ SqT K H q zs))
section
variable {X : Cx} {pins : List (Addr × Obj)} {σ : L2.St} {H : Hp} {s : Shared} {A : Around}
theorem all_true (n : Nat) : ((List.range n).all fun _ => true) = true := by simp
theorem eqAt_items {zs : List V} {us vs : List Value} (hz : zs.all okV = true) (r1 : Vals zs us) (r2 : Vals zs vs) (j : Nat) (h1 : j < us.toArray.size) (h2 : j < vs.toArray.size) : SeqAt.EqAt A s us.toArray[j] vs.toArray[j] true := by
  have h1' : j < us.length := by simpa using h1
  have h2' : j < vs.length := by simpa using h2
  obtain ⟨x, e1, q1⟩ := Vals.at' r1 h1'
  obtain ⟨y, e2, q2⟩ := Vals.at' r2 h2'
  rw [e1] at e2
  cases e2
  have ok : okV x = true := List.all_eq_true.mp hz x (List.mem_of_getElem? e1)
  simpa using eqAt_self ok q1 q2
theorem eqAt_1 {x y : V} {u v : Value} (I : Inv X pins σ H s) (h : EqV1 X.K H x y) (ru : RelV x u) (rv : RelV y v) (hu : A.units < cLine) : SeqAt.EqAt A s u v true := by
  rcases h with ⟨rfl, ok⟩ | ⟨p, q, zs, rfl, rfl, hz, h⟩
  · exact eqAt_self ok ru rv
  · cases ru
    cases rv
    by_cases hpq : p = q
    · subst hpq
      exact SeqAt.EqAt.same _
    · refine SeqAt.EqAt.of_refs hpq ?_
      rcases h with ⟨h1, h2⟩ | ⟨h1, h2⟩
      · obtain ⟨us, r1, p1, _⟩ := I.list h1
        obtain ⟨vs, r2, p2, _⟩ := I.list h2
        have hs : us.toArray.size = vs.toArray.size := by
          rw [List.size_toArray, List.size_toArray, ← r1.length, ← r2.length]
        have h := SeqAt.RcAt.lists (A := A) (e := fun _ => true) p1.isList p2.isList hs hu (fun j h1 h2 => eqAt_items hz r1 r2 j h1 h2)
        rw [all_true] at h
        exact h
      · obtain ⟨us, r1, p1, _⟩ := I.tuple h1
        obtain ⟨vs, r2, p2, _⟩ := I.tuple h2
        have hs : us.toArray.size = vs.toArray.size := by
          rw [List.size_toArray, List.size_toArray, ← r1.length, ← r2.length]
        have h := SeqAt.RcAt.tuples (A := A) (e := fun _ => true) (show s.heap.IsTuple p us.toArray from p1) (show s.heap.IsTuple q vs.toArray from p2) hu (fun j h1 h2 => eqAt_items hz r1 r2 j h1 h2)
        rw [all_true, hs, beq_self_eq_true] at h
        exact h
def EqVs (K : PySem.W.Frag) (H : Hp) (xs ys : List V) : Prop := xs.length = ys.length ∧ ∀ (i : Nat) x y, xs[i]? = some x → ys[i]? = some y → EqV1 K H x y
theorem EqVs.same {K : PySem.W.Frag} {xs : List V} (h : xs.all okV = true) : EqVs K H xs xs := ⟨rfl, fun i x y e1 e2 => by
  rw [e1] at e2
  cases e2
  exact .inl ⟨rfl, List.all_eq_true.mp h x (List.mem_of_getElem? e1)⟩⟩
theorem eqAt_all {xs ys : List V} {us vs : List Value} (I : Inv X pins σ H s) (h : EqVs X.K H xs ys) (r1 : Vals xs us) (r2 : Vals ys vs) (hu : A.units < cLine) (j : Nat) (h1 : j < us.toArray.size) (h2 : j < vs.toArray.size) : SeqAt.EqAt A s us.toArray[j] vs.toArray[j] true := by
  have h1' : j < us.length := by simpa using h1
  have h2' : j < vs.length := by simpa using h2
  obtain ⟨x, e1, q1⟩ := Vals.at' r1 h1'
  obtain ⟨y, e2, q2⟩ := Vals.at' r2 h2'
  simpa using eqAt_1 I (h.2 j x y e1 e2) q1 q2 hu
def rCmpL (K : PySem.W.Frag) (ne : Bool) : R2 := fun x y H Q => ∃ a b xs ys, x = .ref a ∧ y = .ref b ∧ SqL K H a xs ∧ SqL K H b ys ∧ ((EqVs K H xs ys ∧ Q (.bl (!ne)) H) ∨ (xs.length ≠ ys.length ∧ Q (.bl ne) H))
def rCmpT (K : PySem.W.Frag) (ne : Bool) : R2 := fun x y H Q => ∃ a b xs ys, x = .ref a ∧ y = .ref b ∧ SqT K H a xs ∧ SqT K H b ys ∧ EqVs K H xs ys ∧ Q (.bl (!ne)) H
theorem in1_units (A : Around) : A.in1.units ≤ A.units + 1 := by
  first | exact Nat.le_refl _ | (simp [Around.in1]; done) | (unfold Around.in1; simp)
theorem op_eqL (hu : X.A.units + 1 < cLine) : OpR X (compareOp .Eq) (rCmpL X.K false) := by
  intro pins s σ H x y v u Q I rx ry h
  obtain ⟨a, b, xs, ys, rfl, rfl, ha, hb, h⟩ := h
  cases rx
  cases ry
  obtain ⟨us, r1, p1, _⟩ := I.list ha
  obtain ⟨vs, r2, p2, _⟩ := I.list hb
  have l1 := r1.length
  have l2 := r2.length
  rcases h with ⟨h, q⟩ | ⟨h, q⟩
  · have hs : us.toArray.size = vs.toArray.size := by rw [List.size_toArray, List.size_toArray, ← l1, ← l2]; exact h.1
    have := SeqAt.RcAt.lists (A := X.A) (e := fun _ => true) p1.isList p2.isList hs (by omega) (fun j h1 h2 => eqAt_all I h r1 r2 (Nat.lt_of_le_of_lt (in1_units _) hu) j h1 h2)
    rw [all_true] at this
    exact this _ _ _ _ ⟨.bl true, H, I, rfl, q⟩
  · have hs : (us.toArray.size != vs.toArray.size) = true := by rw [List.size_toArray, List.size_toArray, ← l1, ← l2]; simpa using h
    exact SeqAt.RcAt.lists_lengths (A := X.A) p1.isList p2.isList hs (by omega) _ _ _ _ ⟨.bl false, H, I, rfl, q⟩
theorem op_neT (hu : X.A.units + 1 < cLine) : OpR X (compareOp .NotEq) (rCmpT X.K true) := by
  intro pins s σ H x y v u Q I rx ry h
  obtain ⟨a, b, xs, ys, rfl, rfl, ha, hb, h, q⟩ := h
  cases rx
  cases ry
  obtain ⟨us, r1, p1, _⟩ := I.tuple ha
  obtain ⟨vs, r2, p2, _⟩ := I.tuple hb
  have l1 := r1.length
  have l2 := r2.length
  have hs : us.toArray.size = vs.toArray.size := by rw [List.size_toArray, List.size_toArray, ← l1, ← l2]; exact h.1
  have := SeqAt.RcNeAt.tuples (A := X.A) (e := fun _ => true) (show s.heap.IsTuple a us.toArray from p1) (show s.heap.IsTuple b vs.toArray from p2) (by omega) (fun j h1 h2 => eqAt_all I h r1 r2 (Nat.lt_of_le_of_lt (in1_units _) hu) j h1 h2)
  rw [all_true, hs, beq_self_eq_true] at this
  exact this _ _ _ _ ⟨.bl false, H, I, rfl, q⟩
theorem call_isinst : CallR X (.builtin "isinstance") (fun xs H Q => ∃ x n t b, xs = [x, .ty n] ∧ TyOf X.K H x t ∧ PySem.W.kitOne X.K t (.type n) = some b ∧ Q (.bl b) H) := by
  intro pins s σ H xs us Q I r h
  obtain ⟨x, n, t, b, rfl, ty, e, q⟩ := h
  obtain ⟨u, v, rfl, ru, rv⟩ := vals2 r
  cases rv
  exact isinst_ok I ru ty e fun tk => ⟨.bl b, H, I.tok _, rfl, q⟩
theorem call_all (hc : X.calm = true) : CallR X (.builtin "all") (fun xs H Q => ∃ (p : Addr) (bs : List Bool), xs = [.ref p] ∧ SqL X.K H p (bs.map V.bl) ∧ Q (.bl (bs.all id)) H) := by
  intro pins s σ H xs us Q I r h
  obtain ⟨p, bs, rfl, hp, q⟩ := h
  obtain ⟨u, rfl, ru⟩ := vals1 r
  cases ru
  obtain ⟨its, rv, pl, _⟩ := I.list hp
  have hlen : its.toArray.size = bs.length := by
    have := rv.length
    rw [List.length_map] at this
    rw [List.size_toArray]; omega
  refine call_all_walk (wpAny_pyIter_list pl.isList ?_)
  have hd : X.A.in1.handled = none := I.ok.hd hc
  have ne : p ≠ s.heap.objs.size := Nat.ne_of_lt (let ⟨o, q, _⟩ := pl.isList; Heap.lt_size q)
  refine ⟨s.heap.objs.size, _, _, _, _, _, fun i => bs.getD i false, rfl, Walks.list hd s.heap.objs.size p ne its.toArray, ⟨⟨_, Heap.get?_push_size _ rfl, rfl, rfl⟩, pl.isList.push _⟩, ?_, ?_⟩
  · intro i v s' Q' E' hv hq
    have hv' : its[i]? = some v := by simpa using hv
    have hi : i < its.length := (List.getElem?_eq_some_iff.mp hv').1
    obtain ⟨x, e1, q1⟩ := Vals.at' rv hi
    rw [List.getElem?_eq_getElem hi] at hv'
    have hv'' : its[i] = v := Option.some.inj hv'
    rw [hv''] at q1
    rw [List.getElem?_map] at e1
    cases eb : bs[i]? with
    | none => rw [eb] at e1; cases e1
    | some b =>
      rw [eb] at e1
      cases e1
      cases q1
      have : bs.getD i false = b := by simp [List.getD_eq_getElem?_getD, eb]
      have hq' : Q' (bs.getD i false) s' := hq
      rw [this] at hq'
      exact wpAny_truthy_bool hq'
  · intro h' tk hk
    have e : ((List.range its.toArray.size).all fun i => bs.getD i false) = bs.all id := by
      rw [hlen]
      have : bs = (List.range bs.length).map (fun j => bs.getD j false) := (range_getD bs false).symm
      conv => rhs; rw [this]
      rw [List.all_map]
      rfl
    rw [e]
    refine ⟨.bl _, H, I.kept (h' := h') (t' := tk) (fun b o qq => hk b o ?_ (Heap.get?_push_of_some _ qq)), rfl, q⟩
    intro z
    have e2 : b = s.heap.objs.size := by simpa using z
    have e3 := Heap.lt_size qq
    rw [e2] at e3
    exact absurd e3 (Nat.lt_irrefl _)
end
section
variable {prog : Program} {w : World} {A : Around} {E : Value → Shared → Prop} {s : Shared}
theorem getItem_tuple_whole {t sl : Addr} {items : Array Value} {vl vu : Value} {lo hi : Option Int} {Q : Value → Shared → Prop} (ht : IsTup s.heap t items) (hs : s.heap.IsSliceOf sl vl vu .none) (pl : IsPart vl lo) (pu : IsPart vu hi)
    (hw : HT.sIx items.size 0 lo = 0 ∧ HT.sIx items.size items.size hi = items.size) (h : Q (.ref t) s) : wpAny (model prog w) A (getItem (.ref t) (.ref sl)) Q E s := by
  obtain ⟨os, hos, hcs, hds⟩ := id hs
  have hTs : s.TypeIs (.ref sl) "slice" := ⟨os, hos, hcs⟩
  unfold getItem
  try with_reducible refine wpAny_holding ?_
  first | refine wpAny_bind (wpAny_pure ?_) | skip
  refine wpAny_bind (wpAny_sequenceKey ht.typeIs (by decide) ?_)
  refine wpAny_bind (wpAny_callSpecial?_slot (name := Str.ofString "__getitem__") ht.typeIs PyProof.Rows.slot_tuple_getitem
    (wpAny_call_entry PyProof.Rows.slot_tuple_getitem ht.typeIs entry_tuple_getitem ?_ (args_tuple_getitem _ _)))
  show wpAny _ _ (Builtin.Tuple.tupleItemsOf (.ref t) >>= _) _ _ s
  refine wpAny_bind (tupleItemsOf_ ht ?_)
  refine wpAny_bind (wpAny_typeOf hTs ?_)
  rw [if_pos (by decide)]
  refine wpAny_bind (HT.sliceApplied_gen hs pl pu ?_)
  rw [hw.1, hw.2]
  have hyes : (((0 : Nat) : Int) == 0 && (1 : Int) == 1 && (items.size - 0) == items.size) = true := by simp
  show wpAny _ _ (if (((0 : Nat) : Int) == 0 && (1 : Int) == 1 && (items.size - 0) == items.size) = true then _ else _) _ _ s
  rw [if_pos hyes]
  have hex : ∀ {R : Bool → Shared → Prop}, R true s → wpAny (model prog w) A.in1 (Builtin.Tuple.tupleIsExact (.ref t)) R E s := fun {R} hR => by
    unfold Builtin.Tuple.tupleIsExact
    refine wpAny_bind (wpAny_typeOf ht.typeIs (wpAny_pure ?_))
    rw [beq_self_eq_true]
    exact hR
  refine wpAny_bind (hex ?_)
  rw [if_pos rfl]
  exact wpAny_bind (wpAny_rule (wpAny_pure ⟨_, rfl, wpAny_pure h⟩))
end
section
variable {X : Cx}
def rSlTA (K : PySem.W.Frag) : V → Option Int → Option Int → Hp → VK → Prop := fun x lo hi H Q => ∃ a xs, x = .ref a ∧ SqT K H a xs ∧ Q (.ref a) H ∧ ∀ p, H p = none → Q (.ref p) (upd H p (.tup (cutV xs lo hi)))
theorem sl_tupA : SlR X (rSlTA X.K) := by
  intro pins s σ H x v vl vu lo hi sl Q I rx hs pl pu h
  obtain ⟨a, xs, rfl, hx, q1, q2⟩ := h
  cases rx
  by_cases hw : HT.sIx xs.length 0 lo = 0 ∧ HT.sIx xs.length xs.length hi = xs.length
  · obtain ⟨its, r, ht, hz⟩ := I.tuple hx
    have hlen : its.toArray.size = xs.length := by rw [List.size_toArray]; exact r.length.symm
    refine ⟨"tuple", _, PyProof.Rows.slot_tuple_getitem.lookup, ht.typeIs, ?_⟩
    exact getItem_tuple_whole ht hs pl pu (by rw [hlen]; exact hw) ⟨.ref a, H, I, rfl, q1⟩
  · exact sl_tup pins s σ H (.ref a) (.ref a) vl vu lo hi sl Q I rfl hs pl pu ⟨a, xs, rfl, hx, hw, q2⟩
end
end Nd
namespace K1
open PySem L2 Nd
def top (i : Nat) : Stmt := PySem.Challenge.pw_needledeck_k01_words_looked_at.main.body.getD i (.Pass ⟨0, 0, 0, 0⟩)
abbrev sWhole : Stmt := top 13
abbrev sIsWord : Stmt := top 14
abbrev sCheckH : Stmt := top 15
abbrev sCheck : Stmt := top 16
abbrev sWithin : Stmt := top 17
abbrev sTogether : Stmt := top 18
abbrev sBeyond : Stmt := top 19
abbrev sDraws : Stmt := top 21
abbrev sNext : Stmt := top 22
abbrev sWord : Stmt := top 23
abbrev sLWithin : Stmt := top 24
abbrev sKind : Stmt := top 25
abbrev sSaid : Stmt := top 26
abbrev sLWhole : Stmt := top 27
abbrev sDue : Stmt := top 28
abbrev sBent : Stmt := top 29
abbrev sLIs : Stmt := top 30
abbrev sLaw : Stmt := top 31
def SameB (d : Addr) (H H' : Hp) : Prop := ∀ b o, b ≠ d → H b = some o → H' b = some o
theorem SameB.refl (d : Addr) (H : Hp) : SameB d H H := fun _ _ _ h => h
theorem SameB.trans {d : Addr} {H H1 H2 : Hp} (a : SameB d H H1) (b : SameB d H1 H2) : SameB d H H2 := fun c o n h => b c o n (a c o n h)
theorem SameB.of {d : Addr} {H H' : Hp} (a : Same H H') : SameB d H H' := fun b o _ h => a b o h
theorem SameB.upd {d : Addr} {H : Hp} {o : HO} : SameB d H (upd H d o) := fun b o n h => by rw [upd_ne n]; exact h
theorem SameB.free {d : Addr} {H H' : Hp} (a : SameB d H H') {l : Addr} (n : l ≠ d) (h : H' l = none) : H l = none := by
  cases q : H l with
  | none => rfl
  | some o => rw [a l o n q] at h; cases h
theorem Same.tup {K : PySem.W.Frag} {H H' : Hp} {a : Addr} {xs : List V} (e : Same H H') (h : SqT K H a xs) : SqT K H' a xs := by
  rcases h with (h | ⟨o, h⟩) | h
  · exact .inl (.inl (e _ _ h))
  · exact .inl (.inr ⟨o, e _ _ h⟩)
  · exact .inr h
theorem small {n : Nat} (h : n ≤ 1000) : n ≤ sizeLine := Nat.le_of_lt (small1000 h)
theorem atI_in {α : Type} {xs : List α} {i : Int} (h0 : 0 ≤ i) (h : i < xs.length) : ∃ v, atI xs i = some v ∧ v ∈ xs := by
  have hk : i.toNat < xs.length := by omega
  have ek : i = ((i.toNat : Nat) : Int) := by omega
  have q : atI xs ((i.toNat : Nat) : Int) = some xs[i.toNat] := atI_nat (by simp [hk])
  rw [← ek] at q
  exact ⟨_, q, List.getElem_mem hk⟩
theorem emod_in (a b : Int) (h : 0 < b) : 0 ≤ a % b ∧ a % b < b := ⟨Int.emod_nonneg _ (by omega), Int.emod_lt_of_pos _ h⟩
def Rising (h : Int) (ns : List Int) : Prop := ns.Pairwise (· < ·) ∧ ∀ x ∈ ns, 0 ≤ x ∧ x < h
theorem Rising.nil (h : Int) : Rising h [] := ⟨List.Pairwise.nil, fun x hx => by cases hx⟩
theorem Rising.more {h : Int} {ns : List Int} (r : Rising h ns) (h0 : 0 ≤ h) : Rising (h + 1) (ns ++ [h]) :=
  ⟨List.pairwise_append.mpr ⟨r.1, List.pairwise_singleton _ _, fun a ha b hb => by rw [List.mem_singleton.mp hb]; exact (r.2 a ha).2⟩, fun x hx => by
    rcases List.mem_append.mp hx with z | z
    · have := r.2 x z; omega
    · have := List.mem_singleton.mp z; omega⟩
theorem Rising.up {h h' : Int} {ns : List Int} (r : Rising h ns) (l : h ≤ h') : Rising h' ns := ⟨r.1, fun x hx => by have := r.2 x hx; omega⟩
def Draw (H : Hp) (d : Addr) (c k : Int) (f : Bool) : Prop := H d = some (.lst [.int c, .int k, .bl f])
def spDraws : Sp := fun vs H Q _ => ∃ c : Int, vs = [.int c] ∧ ∀ (p : Addr) (f : Bool) (H' : Hp), H p = none → Draw H' p c 0 f → Same H H' → Q (.ref p) H'
def spNext : Sp := fun vs H Q _ => ∃ (d : Addr) (c k : Int) (f : Bool), vs = [.ref d] ∧ Draw H d c k f ∧ 0 ≤ k ∧ k ≤ 1000000 ∧ ∀ (r c' : Int) (H' : Hp), Draw H' d c' (k + 1) f → SameB d H H' → Q (.int r) H'
def spWord : Sp := fun vs H Q _ => ∃ (d : Addr) (h c k : Int) (f : Bool), vs = [.ref d, .int h] ∧ Draw H d c k f ∧ 0 ≤ k ∧ k ≤ 500000 ∧ 0 ≤ h ∧ h ≤ 60 ∧
  ∀ (r : Addr) (ns : List Int) (c' k' : Int) (H' : Hp), H r = none → H' r = some (.tup (ns.map V.int)) → ns.length ≤ 60 → Rising h ns → Draw H' d c' k' f → k ≤ k' → k' ≤ k + 100 → SameB d H H' → Q (.ref r) H'
def Wd (H : Hp) (r : Addr) : Prop := ∃ ns : List Int, ns.length ≤ 60 ∧ H r = some (.tup (ns.map V.int))
section
variable {P : Program} {w : World} {K : PySem.W.Frag} {mg : Str → Option Value} {base : Heap}
theorem scD : FnScope ["_law_cell"] ["_law_cell"] (defScope sDraws) := ⟨rfl, rfl, rfl, by decide +kernel, rfl, by decide +kernel, by decide +kernel⟩
theorem ok_draws {f : Addr} {fd : FuncData} (F : Fun K "_law_draws" "_law_draws" sDraws f fd) : FnOk P w K mg base CX0 1 f fd ["_law_cell"] spDraws := by
  refine F.ok scD (fun vs H Q E h => ?_) (fun cdv A outer s H vs Q E hr h => ?_)
  · obtain ⟨c, rfl, _⟩ := h
    rfl
  obtain ⟨c, rfl, q⟩ := h
  refine ⟨_, pss_one (ps_ret (pe_lst (pa_cons (pv 0) (pa_cons pe_int (pa_cons (pe_cmpR op_ge (pv 0) (pe_op op_pow pe_int pe_int) (nomark _)) pa_nil))))), ?_⟩
  refine ⟨_, rfl, _, rfl, 10, 18, rfl, rfl, ⟨by decide, by decide, by decide⟩, _, _, rfl, rfl, (by show 3 ≤ sizeLine; decide), fun p hp => ?_⟩
  exact q p _ _ hp upd_same (same_new hp _)
theorem scN : FnScope ["_law_draws_here", "_law_k", "_law_number"] ["_law_draws_here"] (defScope sNext) := ⟨rfl, rfl, rfl, by decide +kernel, rfl, by decide +kernel, by decide +kernel⟩
theorem ok_next {f : Addr} {fd : FuncData} (F : Fun K "_law_next" "_law_next" sNext f fd) : FnOk P w K mg base CX0 1 f fd ["_law_draws_here"] spNext := by
  refine F.ok scN (fun vs H Q E h => ?_) (fun cdv A outer s H vs Q E hr h => ?_)
  · obtain ⟨d, c, k, fl, rfl, _⟩ := h
    rfl
  obtain ⟨d, c, k, fl, rfl, hd, h0, h1, q⟩ := h
  refine ⟨_, pss_cons (ps_asg (pe_op op_add (pe_ix ix_list (pv 0) pe_int (fun _ _ => rfl)) pe_int) (pg_sub (pv 0) pe_int set_list))
    (pss_cons (ps_set (i := 1) scN.nd rfl (Or.inl rfl) (pe_ix ix_list (pv 0) pe_int (fun _ _ => rfl)))
    (pss_cons (ps_if (pt_val (pe_ix ix_list (pv 0) pe_int (fun _ _ => rfl)))
      (pss_cons (ps_set (i := 2) scN.nd rfl (Or.inl rfl) (pe_op op_mod (pe_ix ix_list (pv 0) pe_int (fun _ _ => rfl)) (pe_op op_pow pe_int pe_int)))
        (pss_cons (ps_asg (pe_op op_fdiv (pe_ix ix_list (pv 0) pe_int (fun _ _ => rfl)) (pe_op op_pow pe_int pe_int)) (pg_sub (pv 0) pe_int set_list))
        (pss_one (ps_ret (pv 2))))) pss_nil)
    (pss_cons (ps_set (i := 2) scN.nd rfl (Or.inl rfl) (pe_op op_mod (pe_op op_mul (pe_op op_add (pe_op op_add (pe_op op_mod (pe_ix ix_list (pv 0) pe_int (fun _ _ => rfl)) pe_int) (pe_op op_mul (pe_op op_mul (pv 1) (pv 1)) pe_int)) (pv 1)) pe_int) pe_int))
    (pss_cons (ps_set (i := 2) scN.nd rfl (Or.inl rfl) (pe_op op_mod (pe_op op_mul (pv 2) (pv 2)) pe_int))
    (pss_one (ps_ret (pe_op op_fdiv (pe_op op_mod (pe_op op_mul (pv 2) (pe_op op_add (pv 2) pe_int)) pe_int) pe_int))))))), ?_⟩
  -- draws[1] = draws[1] + 1
  refine ⟨_, rfl, d, _, 1, _, rfl, rfl, SqL.of hd, rfl, _, _, rfl, rfl, _, rfl, d, _, 1, 1, rfl, rfl, hd, rfl, ?_⟩
  have e1 : (upd H d (.lst ([V.int c, V.int k, V.bl fl].set 1 (V.int (k + 1))))) d = some (.lst [.int c, .int (k + 1), .bl fl]) := upd_same
  generalize hH1 : upd H d (.lst ([V.int c, V.int k, V.bl fl].set 1 (V.int (k + 1)))) = H1 at e1
  have s1 : SameB d H H1 := by rw [← hH1]; exact SameB.upd
  -- k = draws[1]; if draws[2]
  refine ⟨_, rfl, d, _, 1, _, rfl, rfl, SqL.of e1, rfl, _, rfl, d, _, 2, _, rfl, rfl, SqL.of e1, rfl, _, rfl, ?_⟩
  refine ite2 (fun _ => ?_) (fun _ => ?_)
  · refine ⟨_, rfl, d, _, 0, _, rfl, rfl, SqL.of e1, rfl, 10, 6, rfl, rfl, ⟨by decide, by decide, by decide⟩, _, _, rfl, rfl, (by show (0 : Int) < 10 ^ (6 : Int).toNat; decide), ?_⟩
    refine ⟨_, rfl, d, _, 0, _, rfl, rfl, SqL.of e1, rfl, 10, 6, rfl, rfl, ⟨by decide, by decide, by decide⟩, _, _, rfl, rfl, ⟨by decide, by decide⟩, _, rfl, d, _, 0, 0, rfl, rfl, e1, rfl, _, rfl, ?_⟩
    exact q _ _ _ upd_same (s1.trans SameB.upd)
  · have m1 := emod_in c 1000003 (by decide)
    have b1 := emod_in ((c % 1000003 + (k + 1) * (k + 1) * 7919 + (k + 1)) * 48271) 2147483629 (by decide)
    refine ⟨_, rfl, d, _, 0, _, rfl, rfl, SqL.of e1, rfl, _, _, rfl, rfl, (by show (0 : Int) < 1000003; decide), _, rfl, _, rfl, _, _, rfl, rfl, .inl ⟨by omega, by omega⟩, _, _, rfl, rfl, .inr ⟨by decide, by decide⟩, _, _, rfl, rfl, _, rfl, _, _, rfl, rfl,
      _, _, rfl, rfl, .inr ⟨by decide, by decide⟩, _, _, rfl, rfl, (by show (0 : Int) < 2147483629; decide), ?_⟩
    generalize ((c % 1000003 + (k + 1) * (k + 1) * 7919 + (k + 1)) * 48271) % 2147483629 = x at b1
    have b2 := emod_in (x * x) 2147483587 (by decide)
    refine ⟨_, rfl, _, rfl, _, _, rfl, rfl, .inl ⟨by omega, by omega⟩, _, _, rfl, rfl, (by show (0 : Int) < 2147483587; decide), ?_⟩
    generalize (x * x) % 2147483587 = y at b2
    refine ⟨_, rfl, _, rfl, _, _, rfl, rfl, _, _, rfl, rfl, .inl ⟨by omega, by omega⟩, _, _, rfl, rfl, (by show (0 : Int) < 2147483579; decide), _, _, rfl, rfl, ⟨by decide, by decide⟩, ?_⟩
    exact q _ _ _ e1 s1
end
def inside (ns ms : List Int) : Bool := ns.all fun i => inV (.int i) (ms.map V.int)
theorem flat_ints (ms : List Int) : (ms.map V.int).all flatV = true := by
  rw [List.all_map]
  exact List.all_eq_true.mpr fun _ _ => rfl
theorem mem_int {x : V} {ns : List Int} (h : x ∈ ns.map V.int) : ∃ i, i ∈ ns ∧ x = .int i := by
  obtain ⟨i, hi, e⟩ := List.mem_map.mp h
  exact ⟨i, hi, e.symm⟩
def spIn (K : PySem.W.Frag) : Sp := fun vs H Q _ => ∃ (a b : Addr) (ns ms : List Int), vs = [.ref a, .ref b] ∧ SqT K H a (ns.map V.int) ∧ SqT K H b (ms.map V.int) ∧ ns.length ≤ 60 ∧ ∀ H', Same H H' → Q (.bl (inside ns ms)) H'
section
variable {P : Program} {w : World} {K : PySem.W.Frag} {mg : Str → Option Value} {base : Heap}
theorem scW : FnScope ["one", "other"] ["one", "other"] (defScope sWithin) := ⟨rfl, rfl, rfl, by decide +kernel, rfl, by decide +kernel, by decide +kernel⟩
theorem ok_within {f : Addr} {fd : FuncData} (F : Fun K "within" "within" sWithin f fd) (mA : mg "all" = none) : FnOk P w K mg base CX0 1 f fd ["one", "other"] (spIn K) := by
  refine F.ok scW (fun vs H Q E h => ?_) (fun cdv A outer s H vs Q E hr h => ?_)
  · obtain ⟨a, b, ns, ms, rfl, _⟩ := h
    rfl
  obtain ⟨a, b, ns, ms, rfl, hA, hB, hl, q⟩ := h
  refine ⟨_, pss_one (ps_ret (pe_callB (call_all rfl) rfl mA (by decide +kernel) (pa_cons
    (pe_comp (compScope1 (x := "place") (y := "other") (j := 1) (cl := [("other", s.heap.objs.size + 1)]) (by rfl) (by decide +kernel) (by rfl) (by decide +kernel) (by rfl) (fun _ _ h => h) (by rfl) (by decide +kernel) (by rfl) (by rfl) (by rfl)) rfl (pi_tup (pv 0)) (fun _ _ _ => pts_none)
      (fun _ _ _ => pe_cmpR (r := rIn K false) op_in_seq (pv 0) (pv 1) (by with_unfolding_all rfl))) pa_nil))), ?_⟩
  refine ⟨_, rfl, a, rfl, ⟨_, hA⟩, comp_pure (walked_tup (xs := ns.map V.int)) (by rw [List.length_map]; exact small (by omega)) (fun _ => true) (fun x => .bl (inV x (ms.map V.int))) (fun H' sm => Same.tup sm hA) (fun x hx H' sm Q' k => k H' (Same.refl _)) ?_ ?_⟩
  · intro x hx _ H' sm Q' k
    obtain ⟨i, _, rfl⟩ := mem_int hx
    exact ⟨_, rfl, _, rfl, b, _, rfl, .inr (Same.tup sm hB), rfl, flat_ints ms, k H' (Same.refl _)⟩
  · intro D H' nD eD sm
    have e : ((ns.map V.int).filter fun _ => true).map (fun x => V.bl (inV x (ms.map V.int))) = (ns.map fun i => inV (.int i) (ms.map V.int)).map V.bl := by
      rw [List.filter_eq_self.mpr (fun _ _ => rfl), List.map_map, List.map_map]
      rfl
    rw [e] at eD
    refine ⟨D, _, rfl, SqL.of eD, ?_⟩
    have e2 : (ns.map fun i => inV (.int i) (ms.map V.int)).all id = inside ns ms := by
      rw [List.all_map]
      rfl
    rw [e2]
    exact q H' sm
theorem scLW : FnScope ["_law_one", "_law_other"] ["_law_one", "_law_other"] (defScope sLWithin) := ⟨rfl, rfl, rfl, by decide +kernel, rfl, by decide +kernel, by decide +kernel⟩
theorem ok_lwithin {f : Addr} {fd : FuncData} (F : Fun K "_law_within" "_law_within" sLWithin f fd) : FnOk P w K mg base CX0 1 f fd ["_law_one", "_law_other"] (spIn K) := by
  refine F.ok scLW (fun vs H Q E h => ?_) (fun cdv A outer s H vs Q E hr h => ?_)
  · obtain ⟨a, b, ns, ms, rfl, _⟩ := h
    rfl
  obtain ⟨a, b, ns, ms, rfl, hA, hB, hl, q⟩ := h
  have hu := hu_of hr
  refine ⟨_, pss_one (ps_ret (pe_cmpR (op_eqL hu)
    (pe_comp (compScope1 (x := "_law_place") (y := "_law_other") (j := 1) (cl := [("_law_other", s.heap.objs.size + 1)]) (by rfl) (by decide +kernel) (by rfl) (by decide +kernel) (by rfl) (fun _ _ h => h) (by rfl) (by decide +kernel) (by rfl) (by rfl) (by rfl)) rfl (pi_tup (pv 0))
      (fun _ _ _ => pts_one (pt_cmpR (r := rIn K true) op_notIn_seq (pv 0) (pv 1) (by with_unfolding_all rfl))) (fun _ _ _ => pv 0)) (pe_lst pa_nil) (nomark _))), ?_⟩
  refine ⟨_, rfl, a, rfl, ⟨_, hA⟩, comp_pure (walked_tup (xs := ns.map V.int)) (by rw [List.length_map]; exact small (by omega)) (fun x => !inV x (ms.map V.int)) (fun x => x) (fun H' sm => Same.tup sm hA) ?_ (fun x hx _ H' sm Q' k => ⟨_, rfl, k H' (Same.refl _)⟩) ?_⟩
  · intro x hx H' sm Q' k
    obtain ⟨i, _, rfl⟩ := mem_int hx
    exact ⟨_, rfl, _, rfl, b, _, rfl, .inr (Same.tup sm hB), rfl, flat_ints ms, _, rfl, k H' (Same.refl _)⟩
  · intro D H' nD eD sm
    refine ⟨(by show 0 ≤ sizeLine; decide), fun p hp => ?_⟩
    have s2 := same_new hp (.lst [])
    rw [List.map_id'] at eD
    refine ⟨D, p, _, [], rfl, rfl, SqL.of (s2 _ _ eD), SqL.of upd_same, ?_⟩
    cases hi : inside ns ms with
    | true =>
      have e : (ns.map V.int).filter (fun x => !inV x (ms.map V.int)) = [] := by
        rw [List.filter_eq_nil_iff]
        intro x hx
        obtain ⟨i, hm, rfl⟩ := mem_int hx
        have z : inV (.int i) (ms.map V.int) = true := List.all_eq_true.mp hi i hm
        rw [z]
        decide
      rw [e]
      refine .inl ⟨EqVs.same rfl, ?_⟩
      have := q _ (sm.trans s2)
      rw [hi] at this
      exact this
    | false =>
      refine .inr ⟨?_, ?_⟩
      · intro z
        have z' : (ns.map V.int).filter (fun x => !inV x (ms.map V.int)) = [] := List.eq_nil_of_length_eq_zero (by simpa using z)
        rw [List.filter_eq_nil_iff] at z'
        have : inside ns ms = true := List.all_eq_true.mpr fun i hm => by
          have := z' (.int i) (List.mem_map.mpr ⟨i, hm, rfl⟩)
          simpa using this
        rw [this] at hi
        cases hi
      · have := q _ (sm.trans s2)
        rw [hi] at this
        exact this
end
theorem Draw.same {H H' : Hp} {d : Addr} {c k : Int} {f : Bool} (h : Draw H d c k f) (s : Same H H') : Draw H' d c k f := s _ _ h
theorem mods (pk : Int) : ∃ m : Int, atI [V.int 2, V.int 2, V.int 4, V.int 1] (pk % 4) = some (.int m) ∧ 0 < m := by
  have h := emod_in pk 4 (by decide)
  obtain ⟨v, e, m⟩ := atI_in (xs := [V.int 2, V.int 2, V.int 4, V.int 1]) h.1 (by simpa using h.2)
  rw [e]
  simp only [List.mem_cons, List.not_mem_nil, or_false] at m
  rcases m with rfl | rfl | rfl | rfl
  · exact ⟨2, rfl, by decide⟩
  · exact ⟨2, rfl, by decide⟩
  · exact ⟨4, rfl, by decide⟩
  · exact ⟨1, rfl, by decide⟩
section
variable {P : Program} {w : World} {K : PySem.W.Frag} {mg : Str → Option Value} {base : Heap}
theorem scWd : FnScope ["_law_draws_here", "_law_holes", "_law_pick", "_law_bits", "_law_told", "_law_place"] ["_law_draws_here", "_law_holes"] (defScope sWord) := ⟨rfl, rfl, rfl, by decide +kernel, rfl, by decide +kernel, by decide +kernel⟩
theorem ok_word {f g : Addr} {fd gd : FuncData} (F : Fun K "_law_word" "_law_word" sWord f fd) (G : FnOk P w K mg base CX0 1 g gd ["_law_draws_here"] spNext) (bG : Binds K gd ["_law_draws_here"] []) (kG : PySem.W.keepIn K (.ref g) = true) (mG : mg "_law_next" = some (.ref g))
    (mR : mg "range" = none) (mT : mg "tuple" = none) : FnOk P w K mg base CX0 2 f fd ["_law_draws_here", "_law_holes"] spWord := by
  refine F.ok scWd (fun vs H Q E h => ?_) (fun cdv A outer s H vs Q E hr h => ?_)
  · obtain ⟨d, h, c, k, fl, rfl, _⟩ := h
    rfl
  obtain ⟨d, h, c, k, fl, rfl, hd, k0, k1, h0, h1, q⟩ := h
  refine ⟨_, pss_cons (ps_set (i := 2) scWd.nd rfl (Or.inl rfl) (pe_call G hr rfl mG kG bG .nil pass0 (pa_cons (pv 0) pa_nil)))
    (pss_cons (ps_set (i := 3) scWd.nd rfl (Or.inl rfl) (pe_op op_fdiv (pv 2) pe_int))
    (pss_cons (ps_set (i := 4) scWd.nd rfl (Or.inl rfl) (pe_lst pa_nil))
    (pss_cons (ps_for PassesOwn.never rfl (pi_range1 rfl mR (pa_cons (pv 1) pa_nil)) (pg_name (i := 5) scWd.nd rfl (Or.inl rfl))
      (pss_cons (ps_if (pt_cmpR op_eq (pe_op op_mod (pv 5) pe_int) pe_int (nomark _)) (pss_one (ps_set (i := 3) scWd.nd rfl (Or.inl rfl) (pe_call G hr rfl mG kG bG .nil pass0 (pa_cons (pv 0) pa_nil)))) pss_nil)
      (pss_cons (ps_if (pt_cmpR op_eq (pe_op op_mod (pv 3) (pe_ix ix_list (pe_lst (pa_cons pe_int (pa_cons pe_int (pa_cons pe_int (pa_cons pe_int pa_nil))))) (pe_op op_mod (pv 2) pe_int) (fun _ _ => rfl))) pe_int (nomark _))
        (pss_one (ps_expr (pe_bm PySem.F.plainAttrs_list PySem.F.slot_list_append PySem.F.type_list_append mt_append (pv 4) (pa_cons (pv 5) pa_nil)))) pss_nil)
      (pss_one (ps_set (i := 3) scWd.nd rfl (Or.inl rfl) (pe_op op_fdiv (pv 3) pe_int))))))
    (pss_one (ps_ret (pe_callTy call_tuple_of rfl mT (by decide +kernel) (pa_cons (pv 4) pa_nil))))))), ?_⟩
  -- pick = next(draws)
  refine ⟨_, rfl, d, c, k, fl, rfl, hd, k0, by omega, fun pk c1 H1 d1 s1 => ?_⟩
  -- bits = pick // 4; told = []
  refine ⟨_, rfl, _, _, rfl, rfl, ⟨by decide, by decide⟩, (by show 0 ≤ sizeLine; decide), fun l nl => ?_⟩
  have ld : l ≠ d := fun z => by
    rw [z] at nl
    have := d1
    unfold Draw at this
    rw [nl] at this
    cases this
  have nl0 : H l = none := s1.free ld nl
  have sl : Same H1 (upd H1 l (.lst [])) := same_new nl _
  -- for place in range(holes)
  refine ⟨_, rfl, h, rfl, by omega, by omega, for_range (lo := 0) (n := h.toNat) (fun i σ H2 => ∃ (b : Int) (ts : List Int) (c2 k2 : Int) (pl : Option V), σ = [some (.ref d), some (.int h), some (.int pk), some (.int b), some (.ref l), pl] ∧ (ts.length ≤ i ∧ Rising i ts) ∧
      H2 l = some (.lst (ts.map V.int)) ∧ Draw H2 d c2 k2 fl ∧ k + 1 ≤ k2 ∧ k2 ≤ k + 1 + i ∧ SameB d H H2)
    ⟨_, [], c1, k + 1, none, rfl, ⟨Nat.le_refl _, Rising.nil _⟩, upd_same, d1.same sl, Int.le_refl _, by omega, s1.trans (SameB.of sl)⟩ ?_ ?_⟩
  · rintro i σ H2 hi ⟨b, ts, c2, k2, pl, rfl, ⟨hts, hri⟩, e1, d2, a1, a2, sm⟩
    -- the second half of the turn, for any bits, heap
    have rest : ∀ (b' c3 k3 : Int) (H3 : Hp) (D : Ends), H3 l = some (.lst (ts.map V.int)) → Draw H3 d c3 k3 fl → k + 1 ≤ k3 → k3 ≤ k + 1 + i + 1 → SameB d H H3 →
        (∀ σ' H', (∃ (b : Int) (ts : List Int) (c2 k2 : Int) (pl : Option V), σ' = [some (.ref d), some (.int h), some (.int pk), some (.int b), some (.ref l), pl] ∧ (ts.length ≤ i + 1 ∧ Rising ((i + 1 : Nat) : Int) ts) ∧
          H' l = some (.lst (ts.map V.int)) ∧ Draw H' d c2 k2 fl ∧ k + 1 ≤ k2 ∧ k2 ≤ k + 1 + ((i + 1 : Nat) : Int) ∧ SameB d H H') → D.nx σ' H') →
        tSeq (tIfS (tTest (tOp rEq (tOp (rI (fun _ j => 0 < j) fun i j => .int (i % j)) (tVar 3) (tOp (rIxL K) (tLst (tCons (tC (.int 2)) (tCons (tC (.int 2)) (tCons (tC (.int 4)) (tCons (tC (.int 1)) tNil))))) (tOp (rI (fun _ j => 0 < j) fun i j => .int (i % j)) (tVar 2) (tC (.int 4))))) (tC (.int 0))))
          (tDrop (tBM K "list" rAppend (tVar 4) (tCons (tVar 5) tNil))) tNext) (tAsg (tOp (rI CDiv fun i j => .int (i / j)) (tVar 3) (tC (.int 2))) (gName 3)) D
          [some (.ref d), some (.int h), some (.int pk), some (.int b'), some (.ref l), some (.int (0 + i))] H3 := by
      intro b' c3 k3 H3 D e3 d3 x1 x2 sm3 fin
      obtain ⟨m, hm, mpos⟩ := mods pk
      refine ⟨_, rfl, (by show 4 ≤ sizeLine; decide), fun p hp => ⟨_, rfl, _, _, rfl, rfl, (by show (0 : Int) < 4; decide), p, _, _, _, rfl, rfl, SqL.of upd_same, hm, _, _, rfl, rfl, mpos, rfl, _, rfl, ?_⟩⟩
      have s3 : Same H3 (upd H3 p (.lst [.int 2, .int 2, .int 4, .int 1])) := same_new hp _
      have e3' := s3 _ _ e3
      have d3' := d3.same s3
      have sm3' := sm3.trans (SameB.of s3)
      generalize upd H3 p (.lst [.int 2, .int 2, .int 4, .int 1]) = H4 at e3' d3' sm3'
      refine ite2 (fun _ => ?_) (fun _ => ?_)
      · refine ⟨_, rfl, .inl ⟨rfl, _, SqL.of e3'⟩, _, rfl, l, _, _, rfl, rfl, e3', by rw [List.length_map]; exact small1000 (by omega), _, rfl, _, _, rfl, rfl, ⟨by decide, by decide⟩, ?_⟩
        refine fin _ _ ⟨_, ts ++ [0 + (i : Int)], c3, k3, _, rfl, ⟨by rw [List.length_append, List.length_singleton]; omega, by rw [Int.zero_add]; exact hri.more (by omega)⟩, ?_, ?_, x1, by omega, fun b o n z => ?_⟩
        · rw [upd_same, List.map_append]; rfl
        · exact (upd_ne (Ne.symm ld)).trans d3'
        · rw [upd_ne (ne_of_none z nl0)]; exact sm3' b o n z
      · refine ⟨_, rfl, _, _, rfl, rfl, ⟨by decide, by decide⟩, ?_⟩
        exact fin _ _ ⟨_, ts, c3, k3, _, rfl, ⟨by omega, hri.up (by omega)⟩, e3', d3', x1, by omega, sm3'⟩
    -- if place % 16 == 15: bits = next(draws)
    refine ⟨_, rfl, _, _, rfl, rfl, (by show (0 : Int) < 16; decide), rfl, _, rfl, ?_⟩
    refine ite2 (fun _ => ?_) (fun _ => ?_)
    · refine ⟨_, rfl, d, c2, k2, fl, rfl, d2, by omega, by omega, fun b' c3 H3 d3 s3 => ?_⟩
      exact rest b' c3 (k2 + 1) H3 _ (s3 _ _ ld e1) d3 (by omega) (by omega) (sm.trans s3) fun σ' H' z => z
    · exact rest b c2 k2 H2 _ e1 d2 a1 (by omega) sm fun σ' H' z => z
  · rintro σ H2 ⟨b, ts, c2, k2, pl, rfl, ⟨hts, hri⟩, e1, d2, a1, a2, sm⟩
    refine ⟨_, rfl, l, _, rfl, .inl ⟨SqL.of e1, fun r nr => ?_⟩⟩
    have s3 : Same H2 (upd H2 r (.tup (ts.map V.int))) := same_new nr _
    have rd : r ≠ d := fun z => by
      rw [z] at nr
      have := d2
      unfold Draw at this
      rw [nr] at this
      cases this
    exact q r ts c2 k2 _ (sm.free rd nr) upd_same (by omega) (hri.up (by omega)) (d2.same s3) (by omega) (by omega) (sm.trans (SameB.of s3))
theorem Wd.same {H H' : Hp} {r : Addr} (h : Wd H r) (s : Same H H') : Wd H' r := let ⟨ns, a, b⟩ := h; ⟨ns, a, s _ _ b⟩
theorem Wd.sameB {H H' : Hp} {r d : Addr} {c k : Int} {f : Bool} (h : Wd H r) (hd : Draw H d c k f) (s : SameB d H H') : Wd H' r := let ⟨ns, a, b⟩ := h; ⟨ns, a, s _ _ (ne_of b hd (by intro z; cases z)) b⟩
theorem Wd.upd {H : Hp} {r l : Addr} {xs ys : List V} (h : Wd H r) (hl : H l = some (.lst xs)) : Wd (upd H l (.lst ys)) r := let ⟨ns, a, b⟩ := h; ⟨ns, a, by rw [upd_ne (ne_of b hl (by intro z; cases z))]; exact b⟩
theorem draw_ne {H : Hp} {d l : Addr} {c k : Int} {f : Bool} (h : Draw H d c k f) (n : H l = none) : l ≠ d := fun z => by
  rw [z] at n
  unfold Draw at h
  rw [n] at h
  cases h
end
end K1
namespace Nd
open PySem PySem.Spec PyProof.Rows L2
theorem okThere {P : Program} {w : World} {H : Hp} {h : Heap} {a : Addr} {o : HO} (x : ObjOk P w H h a o) : ∃ u, h.get? a = some u := by
  cases o with
  | lst xs => obtain ⟨_, _, _, _, e⟩ := x; exact ⟨_, e⟩
  | tup xs => obtain ⟨_, _, _, u, e, _⟩ := x; exact ⟨_, e⟩
  | dK kvs => obtain ⟨_, _, _, _, u, _, _, e, _⟩ := x; exact ⟨_, e⟩
  | dT kvs => obtain ⟨_, _, _, _, u, _, _, e, _⟩ := x; exact ⟨_, e⟩
  | set S n => obtain ⟨u, _, _, _, e, _⟩ := x; exact ⟨_, e⟩
  | ins C dx fs => obtain ⟨_, _, _, e, _⟩ := x; exact ⟨_, e⟩
  | own y => exact x
  | xd fs => obtain ⟨_, ⟨_, _, _, e, _⟩, _⟩ := x; exact ⟨_, e⟩
  | rng lo hi => obtain ⟨_, _, _, e⟩ := x; exact ⟨_, e⟩
  | frz ob u => obtain ⟨e, _⟩ := x; exact ⟨_, e⟩
  | tbl ps => exact ⟨_, (show h.get? a = some _ from x)⟩
  | met f y => exact ⟨_, (show h.get? a = some _ from x)⟩
  | ext φ => obtain ⟨_, e, _⟩ := x; exact e
structure Fly (P : Program) (w : World) (outer : List Env) (H H' : Hp) (s s' : Shared) (e C t : Addr) (B : Heap) : Prop where
  os : s'.os = s.os
  bare : AllBare s'.gens
  fly : Heap.FlyingW B outer e (.ref C) (.ref t) s'.heap
  cov : ∀ b o, s.heap.get? b = some o → b ∉ frs outer → ∃ o', B.get? b = some o' ∧ (H b = none → o' = o)
  slot : ∀ b o, s.heap.get? b = some o → b ∈ frs outer → H b = none → ∃ sl, s'.heap.get? b = some { o with slots := sl }
  free : ∀ b o, s.heap.get? b = some o → H b = none → H' b = none
  tups : ∀ b xs, H b = some (.tup xs) → H' b = some (.tup xs)
  frzs : ∀ b o u, H b = some (.frz o u) → H' b = some (.frz o u)
  tbls : ∀ b ps, H b = some (.tbl ps) → ∃ more, H' b = some (.tbl (ps ++ more))
  hok : HOk P w H' B
def CXN (P : Program) (w : World) : CXT := fun outer H s E ev s' => ∃ (e C t : Addr) (H' : Hp) (B : Heap), ev = .ref e ∧ Fly P w outer H H' s s' e C t B ∧ E (.ref C) none H'
section
variable {P : Program} {w : World} {outer : List Env} {H H' : Hp} {s s' : Shared} {e C t : Addr} {B : Heap}
theorem Fly.un (F : Fly P w outer H H' s s' e C t B) : Un (frs outer) [] H H' s.heap s'.heap where
  keep := fun b o q n hb _ => by
    obtain ⟨o', e1, e2⟩ := F.cov b o q hb
    rw [e2 n] at e1
    exact F.fly.1 b o e1
  slot := fun b o q n hb _ => F.slot b o q hb n
  free := fun b o q n _ => F.free b o q n
  there := fun b o q _ => by
    by_cases hb : b ∈ frs outer
    · obtain ⟨_, o', e1, _⟩ := F.fly.2.2.1.mem hb
      exact ⟨o', e1⟩
    · obtain ⟨o', e1, _⟩ := F.cov b o q hb
      exact ⟨o', F.fly.1 b o' e1⟩
  tups := F.tups
  frzs := F.frzs
  tbls := F.tbls
theorem Fly.held (F : Fly P w outer H H' s s' e C t B) : HOk P w H' s'.heap := F.hok.kept F.fly.1
theorem Fly.new (F : Fly P w outer H H' s s' e C t B) : H' e = none := by
  cases q : H' e with
  | none => rfl
  | some u =>
    obtain ⟨o, e1⟩ := okThere (F.hok e u q)
    rw [F.fly.2.1] at e1
    cases e1
theorem Fly.on {h' : Heap} (F : Fly P w outer H H' s s' e C t B) (f : Heap.FlyingW B outer e (.ref C) (.ref t) h') (u : s'.heap.UpToSlots h') : Fly P w outer H H' s { s' with heap := h' } e C t B :=
  ⟨F.os, F.bare, f, F.cov, fun b o q hb n => by
    obtain ⟨sl, e1⟩ := F.slot b o q hb n
    obtain ⟨_, o', e2, nf⟩ := F.fly.2.2.1.mem hb
    rw [e1] at e2
    cases e2
    obtain ⟨sl', e3⟩ := u b _ e1 nf
    exact ⟨sl', e3⟩, F.free, F.tups, F.frzs, F.tbls, F.hok⟩
end
section
variable {P : Program} {w : World} {K : PySem.W.Frag} {mg : Str → Option Value} {base : Heap} {N : List Str} {qual : Str} {scope : Scope} {f : Addr} {cd : Value} {A : Around} {outer : List Env} {s : Shared} {H : Hp} {E : XK}
theorem mem_frs {env : Env} {L b : Addr} {l : List Env} (he : env.frame = some L) (hm : b ∈ frs (env :: l)) : b = L ∨ b ∈ frs l := by
  obtain ⟨x, hx, hf⟩ := List.mem_filterMap.mp hm
  rcases List.mem_cons.mp hx with z | z
  · subst z
    rw [he] at hf
    exact .inl (Option.some.inj hf).symm
  · exact .inr (List.mem_filterMap.mpr ⟨x, z, hf⟩)
theorem raised_here {pins : List (Addr × Obj)} {σ : L2.St} {H1 : Hp} {s1 : Shared} {h' : Heap} {e C : Addr} {vs : List Value}
    (I : Inv (cxOf (CXN P w) P w K mg base N qual scope f cd A outer s H E) pins σ H1 s1) (hx : Heap.MadeExcOf s1.heap h' e (.ref C) vs) (q : E (.ref C) none H1) :
    (cxOf (CXN P w) P w K mg base N qual scope f cd A outer s H E).xe (.ref e) { s1 with heap := h' } := by
  have hst := I.stack
  have hfrz := I.stkFree
  have hab := I.ok.above
  have hb := I.base
  have hin : ∀ env ∈ (envOfC qual scope s.heap.objs.size f cd :: outer), ∀ b, env.frame = some b → b ∈ frs (envOfC qual scope s.heap.objs.size f cd :: outer) := fun env he b hf => List.mem_filterMap.mpr ⟨env, he, hf⟩
  have nL : ∀ b o, s.heap.get? b = some o → b ∉ frs outer → b ∉ frs (envOfC qual scope s.heap.objs.size f cd :: outer) := fun b o e1 hn hm => by
    rcases mem_frs (L := s.heap.objs.size) rfl hm with z | z
    · exact absurd (Heap.lt_size e1) (by rw [z]; exact Nat.lt_irrefl _)
    · exact hn z
  refine wpAny_leaves_madeW (base := PySem.W.hideAll s1.heap (frs (envOfC qual scope s.heap.objs.size f cd :: outer))) (L := s.heap.objs.size) I.ok.frames rfl (fun b o e1 => PySem.W.of_hideAll _ e1) (PySem.W.funFrames_hide hst hin) hx fun h2 t x1 x2 x3 x4 => ?_
  refine ⟨e, C, t, H1, _, rfl, ⟨I.os, I.bare, x1, fun b o e1 hn => ?_, fun b o e1 hm n => ?_, fun b o e1 n => hb.free b o e1 n (by intro z; exact nomatch z), hb.tups, hb.frzs, hb.tbls, fun a u e1 => ?_⟩, q⟩
  · obtain ⟨o', e2⟩ := hb.there b o e1 (by intro z; exact nomatch z)
    refine ⟨o', PySem.W.hideAll_get _ e2 (nL b o e1 hn), fun n => ?_⟩
    have e3 := hb.keep b o e1 n hn (by intro z; exact nomatch z)
    rw [e3] at e2
    exact (Option.some.inj e2).symm
  · obtain ⟨sl, e2⟩ := hb.slot b o e1 n hm (by intro z; exact nomatch z)
    have hm' : b ∈ frs (envOfC qual scope s.heap.objs.size f cd :: outer) := by
      obtain ⟨x, hx', hf⟩ := List.mem_filterMap.mp hm
      exact List.mem_filterMap.mpr ⟨x, List.mem_cons_of_mem _ hx', hf⟩
    obtain ⟨_, o', e3, nf⟩ := hst.mem hm'
    rw [e2] at e3
    cases e3
    obtain ⟨sl', e4⟩ := x4 b _ (hx.keeps _ _ e2) nf
    exact ⟨sl', e4⟩
  · refine (I.hok a u e1).stay (fun b v hc e2 => PySem.W.hideAll_get _ e2 fun hm => ?_) (fun _ z => z) (fun _ _ z => z)
    have z := hfrz b hm
    rcases hc with r | r
    · rw [r, e1] at z; cases z
    · rw [r] at z; cases z
theorem passN : Passes (CXN P w) (cxOf (CXN P w) P w K mg base N qual scope f cd A outer s H E) E := by
  intro pins σ H1 s1 ev s' I h
  obtain ⟨e, C, t, H', B, rfl, F, q⟩ := h
  have hb := I.base
  have nL : ∀ b o, s.heap.get? b = some o → b ∉ frs outer → b ∉ frs (envOfC qual scope s.heap.objs.size f cd :: outer) := fun b o e1 hn hm => by
    rcases mem_frs (L := s.heap.objs.size) rfl hm with z | z
    · exact absurd (Heap.lt_size e1) (by rw [z]; exact Nat.lt_irrefl _)
    · exact hn z
  refine wpAny_leaves_onW (L := s.heap.objs.size) I.ok.frames rfl F.fly fun h2 x1 x2 => ?_
  refine ⟨e, C, t, H', B, rfl, ⟨F.os.trans I.os, F.bare, x1, fun b o e1 hn => ?_, fun b o e1 hm n => ?_, fun b o e1 n => ?_, fun b xs z => F.tups b xs (hb.tups b xs z), fun b o u z => F.frzs b o u (hb.frzs b o u z), fun b ps z => ?_, F.hok⟩, q⟩
  · obtain ⟨o1, e2⟩ := hb.there b o e1 (by intro z; exact nomatch z)
    obtain ⟨o', e3, e4⟩ := F.cov b o1 e2 (nL b o e1 hn)
    refine ⟨o', e3, fun n => ?_⟩
    have e5 := hb.keep b o e1 n hn (by intro z; exact nomatch z)
    rw [e5] at e2
    rw [e4 (hb.free b o e1 n (by intro z; exact nomatch z))]
    exact (Option.some.inj e2).symm
  · obtain ⟨sl, e2⟩ := hb.slot b o e1 n hm (by intro z; exact nomatch z)
    have hm' : b ∈ frs (envOfC qual scope s.heap.objs.size f cd :: outer) := by
      obtain ⟨x, hx', hf⟩ := List.mem_filterMap.mp hm
      exact List.mem_filterMap.mpr ⟨x, List.mem_cons_of_mem _ hx', hf⟩
    obtain ⟨sl2, e3⟩ := F.slot b _ e2 hm' (hb.free b o e1 n (by intro z; exact nomatch z))
    obtain ⟨_, o', e4, nf⟩ := F.fly.2.2.1.mem hm'
    rw [e3] at e4
    cases e4
    obtain ⟨sl', e5⟩ := x2 b _ e3 nf
    exact ⟨sl', e5⟩
  · obtain ⟨o1, e2⟩ := hb.there b o e1 (by intro z; exact nomatch z)
    exact F.free b o1 e2 (hb.free b o e1 n (by intro z; exact nomatch z))
  · obtain ⟨m1, z1⟩ := hb.tbls b ps z
    obtain ⟨m2, z2⟩ := F.tbls b _ z1
    exact ⟨m1 ++ m2, by rw [z2, Array.append_assoc]⟩
theorem okX {x : Str} {st : Stmt} {fd : FuncData} {ps : List Str} {k : Nat} {sp : Sp} (F : Fun K x qual st f fd) (S : FnScope N ps (defScope st)) (len : ∀ vs H Q E, sp vs H Q E → vs.length = ps.length)
    (hbody : ∀ (cdv : Value) (A : Around) (outer : List Env) (s : Shared) (H : Hp) (vs : List V) (Q : VK) (E : XK), Room k (A.deeper (envOfC qual (defScope st) s.heap.objs.size f cdv)) → sp vs H Q E →
      ∃ t, PSs (cxOf (CXN P w) P w K mg base N qual (defScope st) f cdv A outer s H E) (defBody st) t ∧ t { nx := fun _ H' => Q .non H', rt := Q } (start N vs) H) : FnOk P w K mg base (CXN P w) (k + 1) f fd ps sp := by
  obtain ⟨oc, od, kV, doc, pm, an, cdv, ct, osl, rfl, lk, hcd⟩ := F.ex
  exact fn_of lk hcd S len fun A outer s H vs Q E hr hsp => hbody cdv A outer s H vs Q E hr hsp
end
abbrev bmV : List Value := [.type "ValueError", .type "Exception", .type "BaseException", .type "object"]
def OwnExc (h : Heap) (C : Addr) : Prop := ∃ bm N nm q bs hdct sn sub ab col dd k0 k1 k2 k3 k5 mN, h.get? C = some (excClassObj nm q C N bs bm hdct sn sub ab col dd k0 k1 k2 k3 k5 "ValueError.__new__") ∧ h.Ns N mN ∧ mN "__init__" = none ∧ OwnTail h bmV bm
theorem ownExc_of {K : PySem.W.Frag} {h : Heap} {C : Addr} (X : K.In h) (q : PySem.W.excIn K C bmV "ValueError.__new__" = true) : OwnExc h C := by
  unfold PySem.W.excIn at q
  split at q
  · rename_i dd cd sl ho
    split at q
    · rename_i C' bm k0 k1 k2 k3 n k5 hm hs
      simp only [Bool.and_eq_true, beq_iff_eq, Bool.not_eq_true'] at q
      obtain ⟨⟨⟨⟨⟨rfl, rfl⟩, hdel⟩, ht⟩, hok⟩, hni⟩ := q
      obtain ⟨nm, bs, mro, ns, qn, hd, sn, sub, ab, col, del⟩ := cd
      dsimp only at hm hdel hok hni
      subst hm hdel
      have hsl : sl = #[k0, k1, k2, k3, some (.builtin "ValueError.__new__"), k5] := by
        obtain ⟨l⟩ := sl
        simp only at hs
        rw [hs]
      subst hsl
      exact ⟨bm, ns, nm, qn, bs, hd, sn, sub, ab, col, dd, k0, k1, k2, k3, k5, _, X _ _ ho, .of_isNs (PySem.W.isNs_of_in X hok), PySem.W.nsMap_none_of_in X hok hni, PySem.W.tail_of_in X ht⟩
    · cases q
  · cases q
section
variable {P : Program} {w : World} {K : PySem.W.Frag} {mg : Str → Option Value} {base : Heap} {N : List Str} {qual : Str} {scope : Scope} {f : Addr} {cd : Value} {A : Around} {outer : List Env} {s : Shared} {H : Hp} {E : XK}
def tRaise (C : Addr) (E : XK) (ta : TA) : TS := fun _ σ H => ta σ H fun vs H1 => vs.length ≤ sizeLine ∧ E (.ref C) none H1
theorem ps_raise {C : Addr} {x : Str} {np cpos pos : Pos} {e₀ : Expr} {es : List Expr} {ta : TA} (hg : Gl (cxOf (CXN P w) P w K mg base N qual scope f cd A outer s H E) x) (hm : mg x = some (.ref C))
    (hc : PySem.W.excIn K C bmV "ValueError.__new__" = true)
    (ha : PA (cxOf (CXN P w) P w K mg base N qual scope f cd A outer s H E) (e₀ :: es) ta) (hd : (x == ("__debug__" : Str)) = false := by decide)
    (he : starEach (e₀ :: es) (envOfC qual scope s.heap.objs.size f cd) = (false, eval e₀ (envOfC qual scope s.heap.objs.size f cd)) :: starEach es (envOfC qual scope s.heap.objs.size f cd) := by rfl)
    (hpl : (backTo cpos (starEach es (envOfC qual scope s.heap.objs.size f cd))).any (·.1) = false := by rfl) :
    PS (cxOf (CXN P w) P w K mg base N qual scope f cd A outer s H E) (.Raise (some (.Call (.Name x np) (e₀ :: es) [] cpos)) none pos) (tRaise C E ta) := by
  intro pins s1 σ H1 D I h
  obtain ⟨bm, NN, nm, q, bs, hdct, sn, sub, ab, col, dd, k0, k1, k2, k3, k5, mN, hC, hN, hni, T⟩ := ownExc_of (h := base) I.ok.mod.kin hc
  refine wpAny_Raise_call_subT (C := C) (nm := nm) (q := q) (N := NN) (bs := bs) (bm := bm) (hdct := hdct) (sn := sn) (sub := sub) (ab := ab) (col := col) (dd := dd) (k0 := k0) (k1 := k1) (k2 := k2) (k3 := k3) (k5 := k5) F.excBase_ValueError (mN := mN)
    (T.hasType (by decide)) (I.ok.hd rfl) (by show (backTo cpos (starEach (e₀ :: es) (envOfC qual scope s.heap.objs.size f cd))).any (·.1) = false; rw [he]; show (false || (backTo cpos (starEach es (envOfC qual scope s.heap.objs.size f cd))).any (·.1)) = false; rw [hpl]; rfl) hni (ld_glob I hg hm ⟨rfl, ?_⟩ hd)
  show wpAny _ _ (evalArgs (.ref C) true (backTo cpos (starEach (e₀ :: es) (envOfC qual scope s.heap.objs.size f cd))) []) _ _ _
  rw [he]
  have hA := ha cpos pins s1 σ H1 _ I h
  rw [show starEach (e₀ :: es) (cxOf (CXN P w) P w K mg base N qual scope f cd A outer s H E).env = (false, eval e₀ (envOfC qual scope s.heap.objs.size f cd)) :: starEach es (envOfC qual scope s.heap.objs.size f cd) from he] at hA
  refine Calls.evalArgs_plain (wpAny_mono hA (fun us s2 h2 => ?_) fun _ _ y => y)
  obtain ⟨vs, H2, I2, rv, hz, hE⟩ := h2
  have hk : ∀ b o, base.get? b = some o → s2.heap.get? b = some o := I2.bk
  exact ⟨rfl, by rw [← rv.length]; exact hz, hk _ _ hC, hN.keeps hk, T.keeps hk, fun h' e hx => raised_here I2 hx hE⟩
end
end Nd
namespace Nd
open PySem PySem.Spec PyProof.Rows L2
abbrev marked (X : Cx) (v : Value) (E : Value → Shared → Prop) : Cx := { X with A := X.A.mark (some v), calm := false, xe := E }
section
variable {X : Cx} {pins : List (Addr × Obj)} {σ : L2.St} {H : Hp} {s : Shared} {v : Value} {E : Value → Shared → Prop}
theorem inv_marked (I : Inv X pins σ H s) : Inv (marked X v E) pins σ H s :=
  ⟨⟨I.ok.mod, I.ok.kind, I.ok.glob, I.ok.blt, I.ok.above, I.ok.inj, I.ok.has, I.ok.cab, (fun z => nomatch z), I.ok.frames, I.ok.stk, I.ok.exf, I.ok.bs, I.ok.bsz, I.ok.noex, I.ok.exfs, I.ok.funs, I.ok.frf⟩, I.os, I.bare, I.base, I.loc, I.cell, I.free, I.freeC, I.pin, I.hok, I.len⟩
theorem inv_unmarked (hc : X.calm = true → X.A.handled = none) (I : Inv (marked X v E) pins σ H s) : Inv X pins σ H s :=
  ⟨⟨I.ok.mod, I.ok.kind, I.ok.glob, I.ok.blt, I.ok.above, I.ok.inj, I.ok.has, I.ok.cab, hc, I.ok.frames, I.ok.stk, I.ok.exf, I.ok.bs, I.ok.bsz, I.ok.noex, I.ok.exfs, I.ok.funs, I.ok.frf⟩, I.os, I.bare, I.base, I.loc, I.cell, I.free, I.freeC, I.pin, I.hok, I.len⟩
theorem gone_ok {M : Model} {A : Around} {i : Nat} {n : Str} {pos : Pos} {Q : Unit → Shared → Prop} (I : Inv X pins σ H s) (hN : X.N.Nodup) (hi : X.N[i]? = some n) (hk : X.env.scope.names.lookup n = some .local)
    (h : ∀ s', Inv X pins (σ.set i none) H s' → Q () s') : wpAny M A (do bindName X.env n .none; unbindBehindTheSuite X.env n pos) Q E s := by
  obtain ⟨m, hn, hl⟩ := id I.loc
  have hiσ : i < σ.length := by rw [I.len]; exact (List.getElem?_eq_some_iff.mp hi).1
  refine wpAny_nameGoes_keeps hk hn (by rw [I.ok.kind]; rfl) fun h' v hn' hs => ?_
  obtain ⟨oL, _, _, hoL, _⟩ := id hn
  have old : ∀ b o, X.s₀.heap.get? b = some o → b ≠ X.env.locals := fun b o e => Nat.ne_of_lt (Nat.lt_of_lt_of_le (Heap.lt_size e) I.ok.above)
  refine h _ ⟨I.ok, I.os, I.bare, ⟨fun b o e n hb hx => (hs.2 b (old b o e)).trans (I.base.keep b o e n hb hx), fun b o e n hb hx => ?_, I.base.free, fun b o e hx => ?_, I.base.tups, I.base.frzs, I.base.tbls⟩, ⟨_, hn', fun j y v' e1 e2 e3 => ?_⟩, fun y c e => ?_, I.free, I.freeC, fun p hp => ?_, fun b ob e => ?_, by simpa using I.len⟩
  · obtain ⟨sl, e1⟩ := I.base.slot b o e n hb hx
    exact ⟨sl, (hs.2 b (old b o e)).trans e1⟩
  · obtain ⟨o', e1⟩ := I.base.there b o e hx
    exact ⟨o', (hs.2 b (old b o e)).trans e1⟩
  · by_cases hj : j = i
    · subst hj
      rw [List.getElem?_set_self hiσ] at e2
      cases e2
    · rw [List.getElem?_set_ne (Ne.symm hj)] at e2
      obtain ⟨u', r', q⟩ := hl j y v' e1 e2 e3
      refine ⟨u', r', ?_⟩
      rcases q with ⟨k, e⟩ | ⟨k, c, e, z⟩
      · have ny : y ≠ n := fun z => hj (nodup_ix hN e1 (z ▸ hi))
        exact .inl ⟨k, (if_neg ny).trans e⟩
      · exact .inr ⟨k, c, e, z.sameBut hs (I.cne y c e)⟩
  · obtain ⟨w', z⟩ := I.cell y c e
    exact ⟨w', z.sameBut hs (I.cne y c e)⟩
  · obtain ⟨e, n, ne, nf, d⟩ := I.pin p hp
    exact ⟨(hs.2 p.1 ne).trans e, n, ne, nf, d⟩
  · refine (I.hok b ob e).stay (fun c w' hc q => (hs.2 c ?_).trans q) (fun _ q => q) fun _ _ q => q
    intro z
    have f := I.free
    rw [← z] at f
    rcases hc with r | r
    · rw [r, e] at f; cases f
    · rw [r] at f; cases f
theorem PA.nox {es : List Expr} {t : TA} (h : PA X.nox es t) : PA X es t := fun pos pins s σ H Q I hw =>
  wpAny_mono (h pos pins s σ H Q (I.wish _) hw) (fun _ _ ⟨v, H', I', r, q⟩ => ⟨v, H', I'.unwish, r, q⟩) fun _ _ z => False.elim z
end
def IsExc (x C : Addr) (h : Heap) : Prop := ∃ oe vs, h.get? x = some oe ∧ oe.cls = .ref C ∧ oe.data = .fields vs
abbrev ExO (x C : Addr) : HO := .ext (IsExc x C)
theorem exO_ok {P : Program} {w : World} {H : Hp} {h : Heap} {x C : Addr} (e : IsExc x C h) : ObjOk P w H h x (ExO x C) :=
  ⟨e, let ⟨oe, _, e1, _⟩ := e; ⟨oe, e1⟩, fun h1 h2 ⟨oe, vs, e1, e2, e3⟩ k => ⟨oe, vs, k oe e1, e2, e3⟩⟩
section
variable {M : Model} {A : Around} {E : Value → Shared → Prop} {h : Heap} {g : Array GenState} {d : Drawn} {t : Nat} {os : OsState}
variable {nm q : Str} {N : Addr} {bs bm : List Value} {hdct : Bool} {sn : List Str} {sub : List Value} {ab : Bool} {col : Option Bool} {dd : Option Addr} {k0 k1 k2 k3 k5 : Option Value} {newId : String}
theorem matches_own {K : PySem.W.Frag} {e C D : Addr} {oe : Obj} {Q : Bool → Shared → Prop} (KX : K.In h) (hD : h.get? D = some (excClassObj nm q D N bs bm hdct sn sub ab col dd k0 k1 k2 k3 k5 newId)) (he : h.get? e = some oe) (hc : oe.cls = .ref C)
    (hb : bm.contains (.type "BaseException") = true) (hs : PySem.W.subIn K (.ref C) (.ref D) = some true) (hq : Q true ⟨h, g, d, t, os⟩) : wpAny M A (excMatches (.ref e) (.ref D)) Q E ⟨h, g, d, t, os⟩ := by
  have b1 : (Value.ref D :: bm).contains (.type "BaseException") = true := by rw [List.contains_cons, hb, Bool.or_true]
  have L := PySem.W.looks_subIn (M := M) KX hs
  have f := tc_notTuple
  unfold excMatches
  repeat (first | (with_reducible refine wpAny_loadPart_at he ?_; rw [hc]) | with_reducible refine wpAny_loadPart_at hD ?_ | with_reducible refine PySem.W.Looks.at L ?_ | (with_reducible refine wpAny_isSubtype_exc hD ?_; rw [b1]) | wp_step)
  exact hq
end
section
variable {P : Program} {w : World} {X : Cx} {pins : List (Addr × Obj)} {σ : L2.St} {H1 H2 : Hp} {s1 s2 : Shared} {e C t : Addr} {B : Heap}
theorem fly_inv (I : Inv X pins σ H1 s1) (F : Fly X.prog X.w X.stack H1 H2 s1 s2 e C t B) : Inv X pins σ H2 s2 :=
  I.call' (ch := []) F.os F.un F.held F.bare fun b z => nomatch z
theorem fly_exc (F : Fly P w X.stack H1 H2 s1 s2 e C t B) : IsExc e C s2.heap :=
  let ⟨oe, vs, e1, e2, e3, _⟩ := F.fly.first
  ⟨oe, vs, e1, e2, e3⟩
theorem inv_caught (I : Inv X pins σ H1 s1) (F : Fly X.prog X.w X.stack H1 H2 s1 s2 e C t B) : Inv X pins σ (upd H2 e (ExO e C)) s2 := by
  have un := F.un
  have he : B.get? e = none := F.fly.2.1
  have hn := F.new
  have nf : e ∉ frs X.stack := fun z => by
    obtain ⟨_, o, e1, nd⟩ := F.fly.2.2.1.mem z
    obtain ⟨oe, vs, e2, _, e3⟩ := fly_exc F
    rw [e1] at e2
    cases e2
    exact nd _ e3
  have new : ∀ b o, s1.heap.get? b = some o → b ≠ e := fun b o e1 z => by
    by_cases hb : b ∈ frs X.stack
    · exact nf (z ▸ hb)
    · obtain ⟨o', e2, _⟩ := F.cov b o e1 hb
      rw [z, he] at e2
      cases e2
  have I' : Inv X pins σ (upd H2 e (ExO e C)) s2 := I.call' (ch := []) F.os
    ⟨un.keep, un.slot, fun b o e1 n hx => by rw [upd_ne (new b o e1)]; exact un.free b o e1 n hx, un.there, fun b xs z => ?_, fun b o u z => ?_, fun b ps z => ?_⟩ ?_ F.bare fun b z => nomatch z
  · exact I'
  · have z2 := un.tups b xs z
    rw [upd_ne (ne_of_none z2 hn)]; exact z2
  · have z2 := un.frzs b o u z
    rw [upd_ne (ne_of_none z2 hn)]; exact z2
  · obtain ⟨m, z2⟩ := un.tbls b ps z
    exact ⟨m, by rw [upd_ne (ne_of_none z2 hn)]; exact z2⟩
  · intro a u z
    by_cases ha : a = e
    · subst ha
      rw [upd_same] at z
      cases z
      exact exO_ok (fly_exc F)
    · rw [upd_ne ha] at z
      refine (F.held a u z).stay (fun _ _ _ q => q) (fun b q => ?_) (fun b xs q => ?_)
      · rw [upd_ne (ne_of_none q hn)]; exact q
      · rw [upd_ne (ne_of_none q hn)]; exact q
end
section
variable {X : Cx} {E : XK}
theorem call_at {CX : CXT} {kk : Nat} {f : Addr} {fd : FuncData} {ps : List Str} {sp : Sp} {x : Str} {p pos : Pos} {e : Expr} {es : List Expr} {t : TA} (F : FnOk X.prog X.w X.K X.mg X.base CX kk f fd ps sp) (hr : Room kk X.A) (hg : Gl X x) (hm : X.mg x = some (.ref f))
    (hk : PySem.W.keepIn X.K (.ref f) = true) (hb : Binds X.K fd ps []) (ha : PA X.nox (e :: es) t) {pins : List (Addr × Obj)} {s : Shared} {σ : L2.St} {H : Hp} {Q : VK} {Ex : Value → Shared → Prop} (I : Inv X pins σ H s) (h : t σ H fun vs H1 => sp vs H1 Q E)
    (hE : ∀ H1 s1 ev s', Inv X pins σ H1 s1 → CX X.stack H1 s1 E ev s' → Ex ev s')
    (hdb : (x == ("__debug__" : Str)) = false := by decide) (he : starEach (e :: es) X.env = (false, eval e X.env) :: starEach es X.env := by rfl) (hpl : (backTo pos (starEach es X.env)).any (·.1) = false := by rfl) :
    wpAny (model X.prog X.w) X.A (eval (.Call (.Name x p) (e :: es) [] pos) X.env) (EP X pins σ Q) Ex s := by
  refine wpAny_Call_Name_kw (ld_glob I hg hm ?_ hdb)
  have hA := wpAny_mono (ha pos pins s σ H _ (I.wish _) h) (Q' := AP X pins σ fun vs H1 => sp vs H1 Q E) (E' := Ex) (fun _ _ ⟨v, H', I', r, q⟩ => ⟨v, H', I'.unwish, r, q⟩) (fun _ _ z => False.elim z)
  refine PySem.W.callWith_K (h₀ := X.base) I.ok.mod.kin hk (thn hA fun us s1 ⟨vs, H1, I1, r, q⟩ => ⟨I1.kIn, ?_⟩) he hpl
  have hl : us.length = ps.length := by rw [← r.length]; exact F.len _ _ _ _ q
  have hbb := hb s1 us I1.kIn (by simpa using hl)
  rw [List.append_nil] at hbb
  refine wpAny_call (codeAny_mono (F.run X.A X.stack s1 H1 ⟨us, []⟩ us vs Q E hr I1.env0 hbb r q) fun rs s' hq => ?_)
  cases rs with
  | error ev => exact hE H1 s1 ev s' I1 hq
  | ok fl =>
    cases fl with
    | ret u => exact I1.after hq
    | next => exact False.elim hq
    | brk => exact False.elim hq
    | cont => exact False.elim hq
def caughtSt (j k : Nat) (x : Addr) (σ : L2.St) : L2.St := ((σ.set k (some (.ref x))).set j (some (.ref x))).set k none
theorem caught_ok {pins : List (Addr × Obj)} {σ : L2.St} {H1 H2 : Hp} {s1 s2 : Shared} {e C D t : Addr} {B : Heap} {j k : Nat} {n y c : Str} {np hp ap yp vp : Pos} {De : Ends}
    (hst : X.stack = X.env :: X.outer) (hfr : X.env.frame = some X.env.locals) (hN : X.N.Nodup) (hk : X.N[k]? = some n) (hkl : X.env.scope.names.lookup n = some .local) (hj : X.N[j]? = some y) (hjl : X.env.scope.names.lookup y = some .local)
    (hg : Gl X c) (hm : X.mg c = some (.ref D)) (hD : PySem.W.excIn X.K D bmV "ValueError.__new__" = true) (hs : PySem.W.subIn X.K (.ref C) (.ref D) = some true)
    (I : Inv X pins σ H1 s1) (F : Fly X.prog X.w X.stack H1 H2 s1 s2 e C t B) (q : De.nx (caughtSt j k e σ) (upd H2 e (ExO e C))) (hdb : (c == ("__debug__" : Str)) = false := by decide) (hnd : (n == ("__debug__" : Str)) = false := by decide)
    (hsw : swapsWith (.Name n vp) (some (.Name y yp)) ap.line X.env = pure false := by rfl) (hcd : (n == ("__classdict__" : Str)) = false := by decide) :
    wpAny (model X.prog X.w) X.A (noteFrame (.ref e) X.env) (fun _ s3 => wpAny (model X.prog X.w) X.A (setFlight (.ref e) none) (fun _ s4 =>
      wpAny (model X.prog X.w) X.A (handleBy (.ref e) X.env [.ExceptHandler (some (.Name c np)) (some n) [.Assign [.Name y yp] (.Name n vp) ap] hp]) (SP X pins De) X.xe s4) X.xe s3) X.xe s2 := by
  have fr : X.A.frames = some (X.env :: X.outer) := by rw [← hst]; exact I.ok.frames
  have fl := F.fly
  rw [hst] at fl
  refine wpAny_looks_onW fr hfr fl fun h3 x1 x2 => ?_
  refine wpAny_landsW x1 fun h4 x3 x4 => ?_
  have F4 := F.on (h' := h4) (by rw [hst]; exact x3) (x2.trans x4)
  have I4 := fly_inv I F4
  refine wpAny_handleBy_cons (codeAny_handlers_test ?_) (by intro z; cases z)
  refine ld_glob (X := marked X (.ref e) X.xe) (inv_marked I4) hg hm ?_ hdb
  obtain ⟨bm, NN, nm, qn, bs, hdct, sn, sub, ab, col, dd, k0, k1, k2, k3, k5, mN, hC, _, _, T⟩ := ownExc_of (h := h4) I4.kIn hD
  obtain ⟨oe, vs, e1, e2, e3⟩ := fly_exc F4
  refine matches_own (d := s2.drawn) (g := s2.gens) (t := s2.toks) (os := s2.os) I4.kIn hC e1 e2 (T.hasType (by decide)) hs ?_
  show codeAny _ _ _ _ _
  refine codeAny_handlers_suite_as ?_
  refine lands_againW (s := { s2 with heap := h4 }) x3 fun h5 x5 x6 => ?_
  have F5 := F4.on (h' := h5) (by rw [hst]; exact x5) x6
  have I5 := inv_caught I F5
  refine store_ok (X := marked X (.ref e) X.xe) (v := .ref e) (inv_marked I5) hN hk (.inl hkl) rfl (fun s6 I6 => ?_) (.inr hkl)
  have hkσ : k < σ.length := by rw [I.len]; exact (List.getElem?_eq_some_iff.mp hk).1
  have P := pss_one (ps_set (X := marked X (.ref e) (fun _ _ => False))
      (i := j) (pos := ap) (pos' := yp) hN hj (.inl hjl) (pe_var (i := k) (x := n) (pos := vp) hk (.inl hkl) hnd hcd) hsw (.inr hjl))
    pins s6 (σ.set k (some (.ref e))) (upd H2 e (ExO e C)) { nx := fun σ' H' => σ' = (σ.set k (some (.ref e))).set j (some (.ref e)) ∧ H' = upd H2 e (ExO e C), rt := fun _ _ => False, bk := fun _ _ => False, ct := fun _ _ => False } (inv_marked (inv_unmarked I.ok.hd I6))
    ⟨.ref e, by rw [List.getElem?_set_self hkσ], rfl, rfl⟩
  refine wpAny_mono P (fun f s7 q7 => ?_) fun _ _ z => False.elim z
  cases f with
  | next =>
    obtain ⟨σ', H', I7, rfl, rfl⟩ := q7
    exact gone_ok (inv_unmarked I.ok.hd I7) hN hk hkl fun s8 I8 => ⟨_, _, I8, q⟩
  | ret u => obtain ⟨_, _, _, _, _, z⟩ := q7; exact z.elim
  | brk => obtain ⟨_, _, _, z⟩ := q7; exact z.elim
  | cont => obtain ⟨_, _, _, z⟩ := q7; exact z.elim
def tTry (K : PySem.W.Frag) (D : Addr) (sp : Sp) (put : V → L2.St → L2.St) (j k : Nat) (ta : TA) : TS := fun De σ H => ta σ H fun vs H1 => sp vs H1 (fun v H2 => De.nx (put v σ) H2)
  (fun cls _ H2 => ∃ C, cls = .ref C ∧ PySem.W.subIn K (.ref C) (.ref D) = some true ∧ ∀ x, H2 x = none → De.nx (caughtSt j k x σ) (upd H2 x (ExO x C)))
section
variable {kk : Nat} {f : Addr} {fd : FuncData} {ps : List Str} {sp : Sp} {x : Str} {p cpos bp pos : Pos} {e : Expr} {es : List Expr} {ta : TA} {D : Addr} {i j k : Nat} {n y c v : Str} {np hp ap yp vp ip : Pos}
theorem ps_tryA (hst : X.stack = X.env :: X.outer) (hfr : X.env.frame = some X.env.locals) (hN : X.N.Nodup) (hi : X.N[i]? = some v) (hil : X.env.scope.names.lookup v = some .local) (hk : X.N[k]? = some n) (hkl : X.env.scope.names.lookup n = some .local) (hj : X.N[j]? = some y) (hjl : X.env.scope.names.lookup y = some .local)
    (hg : Gl X c) (hm : X.mg c = some (.ref D)) (hD : PySem.W.excIn X.K D bmV "ValueError.__new__" = true)
    (F : FnOk X.prog X.w X.K X.mg X.base (CXN X.prog X.w) kk f fd ps sp) (hr : Room kk X.A) (hgf : Gl X x) (hmf : X.mg x = some (.ref f)) (hkf : PySem.W.keepIn X.K (.ref f) = true) (hb : Binds X.K fd ps []) (ha : PA X.nox (e :: es) ta)
    (hdb : (c == ("__debug__" : Str)) = false := by decide) (hnd : (n == ("__debug__" : Str)) = false := by decide) (hcd : (n == ("__classdict__" : Str)) = false := by decide) (hxd : (x == ("__debug__" : Str)) = false := by decide)
    (hsw : swapsWith (.Name n vp) (some (.Name y yp)) ap.line X.env = pure false := by rfl) (hsb : swapsWith (.Call (.Name x p) (e :: es) [] cpos) (some (.Name v ip)) bp.line X.env = pure false := by rfl)
    (he : starEach (e :: es) X.env = (false, eval e X.env) :: starEach es X.env := by rfl) (hpl : (backTo cpos (starEach es X.env)).any (·.1) = false := by rfl) :
    PS X (.Try [.Assign [.Name v ip] (.Call (.Name x p) (e :: es) [] cpos) bp] [.ExceptHandler (some (.Name c np)) (some n) [.Assign [.Name y yp] (.Name n vp) ap] hp] [] [] pos) (tTry X.K D sp (fun u σ => σ.set i (some u)) j k ta) := by
  intro pins s σ H De I h
  refine wpAny_Try_except (wpAny_execs_cons (wpAny_Assign_Name (wpAny_mono (call_at (E := fun cls _ H2 => ∃ C, cls = .ref C ∧ PySem.W.subIn X.K (.ref C) (.ref D) = some true ∧ ∀ x, H2 x = none → De.nx (caughtSt j k x σ) (upd H2 x (ExO x C))) F hr hgf hmf hkf hb ha I h (fun H1 s1 ev s' I1 hx => ?_) hxd he hpl) (fun u s1 ⟨y, H1, I1, r1, q1⟩ => ?_) fun _ _ z => z) hsb))
  · obtain ⟨ee, C, t, H', B, rfl, Fl, C', hC, hs, q⟩ := hx
    cases hC
    exact caught_ok hst hfr hN hk hkl hj hjl hg hm hD hs I1 Fl (q ee Fl.new) hdb hnd hsw hcd
  · exact store_ok I1 hN hi (.inl hil) r1 (fun s2 I2 => wpAny_execs_nil (wpAny_execs_nil ⟨_, H1, I2, q1⟩)) (.inr hil)
end
end
end Nd
namespace Nd
open PySem PySem.Spec PyProof.Rows L2
structure ExcK (K : PySem.W.Frag) (C : Addr) : Prop where
  cls : ∃ cd, PySem.W.clsIn K C = some cd
  ga : PySem.W.findIn K (.ref C) "__getattribute__" = some (some (.builtin "BaseException.__getattribute__"))
  gn : PySem.W.findIn K (.ref C) "__getattr__" = some none
  ca : PySem.W.findIn K (.ref C) "__class__" = some (some (.builtin "object.__class__"))
  sb : PySem.W.subIn K (.ref C) (.type "BaseException") = some true
  so : PySem.W.subIn K (.ref C) (.type "object") = some true
section
variable {prog : Program} {w : World} {A : Around} {E : Value → Shared → Prop} {h : Heap} {g : Array GenState} {d : Drawn} {t : Nat} {os : OsState} {a C : Addr} {o : Obj} {K : PySem.W.Frag}
theorem xcls_get {R : Result → Shared → Prop} (KX : K.In h) (T : ExcK K C) (hx : h.get? a = some o) (hc : o.cls = .ref C) (hq : R (.ok (.ret (.ref C))) ⟨h, g, d, t, os⟩) :
    codeAny (model prog w) A (.call (.builtin "getset_descriptor.__get__") ⟨[.builtin "object.__class__", .ref a, .ref C], []⟩) R ⟨h, g, d, t, os⟩ := by
  have ty : (⟨h, g, d, t, os⟩ : Shared).TypeIs (.builtin "object.__class__") "getset_descriptor" := PySem.F.typeOf_object_class
  have L := PySem.W.looks_subIn (M := model prog w) KX T.so
  rw [← PySem.F.owner_object_class] at L
  refine codeAny_call_builtin PySem.F.slot_gs_get.plain PySem.F.entry_gs_get (PySem.F.slot_gs_get.check _ _ _ _ _ _ _ _ ty (PySem.F.args_gs_get _ _ _) ?_)
  repeat (any_goals (first | assumption | (with_reducible refine wpAny_loadPart_at hx ?_; rw [hc]) | with_reducible refine PySem.W.Looks.at L ?_ | wp_step))
  refine ⟨Code.quiet_builtin _ (by decide +kernel), codeAny_builtin PySem.F.entry_object_class ?_⟩
  repeat (any_goals (first | assumption | (with_reducible refine wpAny_loadPart_at hx ?_; rw [hc]) | wp_step))
theorem xcls_entry {tk : Tok} {Q : Fin → Shared → Prop} (KX : K.In h) (T : ExcK K C) (hx : h.get? a = some o) (hc : o.cls = .ref C) (hq : Q (.done (.ret (.ref C))) ⟨h, g, d, t, os⟩) :
    wpAny (model prog w) A (Builtin.«object.__getattribute__» ⟨[.ref a, .str "__class__" tk], []⟩) Q E ⟨h, g, d, t, os⟩ := by
  have ty : (⟨h, g, d, t, os⟩ : Shared).TypeIs (.builtin "object.__class__") "getset_descriptor" := PySem.F.typeOf_object_class
  have f5 := PySem.F.typeOf_object_class
  have f6 := PySem.F.slot_gs_get.lookup
  have f7 := PySem.F.slot_gs_set.lookup
  have L := PySem.W.looks_findIn (M := model prog w) KX T.ca
  repeat (any_goals (first | assumption | (with_reducible refine wpAny_loadPart_at hx ?_; rw [hc]) | with_reducible refine PySem.W.Looks.at L ?_ | wp_step))
  refine xcls_get KX T hx hc ?_
  repeat (any_goals (first | assumption | wp_step))
theorem xcls_check {M : Model} {nv : Value} {Q : Unit → Shared → Prop} (KX : K.In h) (T : ExcK K C) (hx : h.get? a = some o) (hc : o.cls = .ref C) (hq : Q () ⟨h, g, d, t, os⟩) :
    wpAny M A (checkBuiltinCall "BaseException.__getattribute__" ⟨[.ref a, nv], []⟩) Q E ⟨h, g, d, t, os⟩ := by
  have k1 : builtinKind "BaseException.__getattribute__" = some .slot := by decide +kernel
  have k2 : splitId "BaseException.__getattribute__" = some ("BaseException", "__getattribute__") := by decide +kernel
  have k3 := PySem.F.args_bexc_ga (.ref a) nv
  have L := PySem.W.looks_subIn (M := M) KX T.sb
  simp only [checkBuiltinCall, k1, k2]
  refine wpAny_bind ?_
  unfold isInstance
  repeat (first | (with_reducible refine wpAny_loadPart_at hx ?_; rw [hc]) | with_reducible refine PySem.W.Looks.at L ?_ | wp_step)
  exact hq
theorem xcls_call {tk : Tok} {R : Result → Shared → Prop} (KX : K.In h) (T : ExcK K C) (hx : h.get? a = some o) (hc : o.cls = .ref C) (hq : R (.ok (.ret (.ref C))) ⟨h, g, d, t, os⟩) :
    codeAny (model prog w) A (.call (.builtin "BaseException.__getattribute__") ⟨[.ref a, .str "__class__" tk], []⟩) R ⟨h, g, d, t, os⟩ :=
  codeAny_call_builtin (by decide +kernel) PySem.F.entry_bexc_ga (xcls_check KX T hx hc (xcls_entry KX T hx hc hq))
theorem xcls_by {tk : Tok} {Q : Value → Shared → Prop} (KX : K.In h) (T : ExcK K C) (hx : h.get? a = some o) (hc : o.cls = .ref C) (hq : Q (.ref C) ⟨h, g, d, t, os⟩) :
    wpAny (model prog w) A (getAttrBy (.ref a) (.str "__class__" tk) false) Q E ⟨h, g, d, t, os⟩ := by
  have L1 := PySem.W.looks_findIn (M := model prog w) KX T.ga
  have L2 := PySem.W.looks_findIn (M := model prog w) KX T.gn
  have x2 : (Value.builtin "BaseException.__getattribute__" == Value.builtin "object.__getattribute__") = false := by decide +kernel
  have x1 : (onTheHeap (Value.ref C) && Value.builtin "BaseException.__getattribute__" == Value.builtin "object.__getattribute__") = false := by rw [x2]; rfl
  have f3 := PySem.F.excAttr_ValueError.ga.bind (.ref a)
  repeat (any_goals (first | assumption | (with_reducible refine wpAny_loadPart_at hx ?_; rw [hc]) | with_reducible refine PySem.W.Looks.at L1 ?_ | with_reducible refine PySem.W.Looks.at L2 ?_ | wp_step))
  refine xcls_call KX T hx hc ?_
  repeat (any_goals (first | assumption | wp_step))
theorem xcls_attr {Q : Option Value → Shared → Prop} (KX : K.In h) (T : ExcK K C) (hx : h.get? a = some o) (hc : o.cls = .ref C) (hq : Q (some (.ref C)) ⟨h, g, d, t + 1, os⟩) :
    wpAny (model prog w) A (getAttr? (.ref a) "__class__") Q E ⟨h, g, d, t, os⟩ := by
  unfold getAttr? getAttrBy?
  repeat (any_goals (first | assumption | with_reducible apply xcls_by KX T hx hc | wp_step))
end
theorem kitx_exc {K : PySem.W.Frag} {x C : Addr} (T : ExcK K C) : PySem.W.KitX K (.ref x) (.ref C) (IsExc x C) where
  ty := fun M h KX ⟨oe, vs, e1, e2, e3⟩ => e2 ▸ (PySem.W.Looks.ld e1).andThen .now
  it := fun M h KX _ => by
    obtain ⟨cd, hc⟩ := T.cls
    unfold PySem.W.clsIn at hc
    split at hc
    · rename_i ho
      intro A' Q' E' s' k q
      unfold isType loadHead
      exact wpAny_bind (wpAny_loadPart (k _ _ (KX _ _ ho)) (wpAny_pure q))
    · cases hc
  ne := fun h tp dd its n sl KX htp => by
    obtain ⟨cd, hc⟩ := T.cls
    unfold PySem.W.clsIn at hc
    split at hc
    · rename_i ho
      refine Bool.eq_false_iff.mpr fun q => ?_
      have e : C = tp := Value.ref.inj (beq_iff_eq.mp q)
      subst e
      have z := (KX _ _ ho).symm.trans htp
      cases z
    · cases hc
  ca := fun {prog w A E Q s} KX ⟨oe, vs, e1, e2, e3⟩ k => by
    obtain ⟨h, g, d, t, os⟩ := s
    exact xcls_attr KX T e1 e2 k
end Nd
namespace Nd
open PySem PySem.Spec PyProof.Rows L2
mutual
inductive RdV (K : PySem.W.Frag) (H : Hp) : V → PyData → Prop
  | non : RdV K H .non .none
  | bl (b : Bool) : RdV K H (.bl b) (.bool b)
  | int (i : Int) : RdV K H (.int i) (.int i)
  | str (x : Str) : RdV K H (.str x) (.str x)
  | lst {a : Addr} {xs : List V} {ds : List PyData} : SqL K H a xs → RdVs K H xs ds → RdV K H (.ref a) (.list ds)
  | tup {a : Addr} {xs : List V} {ds : List PyData} : SqT K H a xs → RdVs K H xs ds → RdV K H (.ref a) (.tuple ds)
inductive RdVs (K : PySem.W.Frag) (H : Hp) : List V → List PyData → Prop
  | nil : RdVs K H [] []
  | cons {x : V} {d : PyData} {xs : List V} {ds : List PyData} : RdV K H x d → RdVs K H xs ds → RdVs K H (x :: xs) (d :: ds)
end
section
variable {X : Cx} {pins : List (Addr × Obj)} {σ : L2.St} {H H' : Hp} {s : Shared} {K : PySem.W.Frag}
mutual
theorem RdV.reads (I : Inv X pins σ H s) : ∀ {v : V} {d : PyData} {u : Value}, RdV X.K H v d → RelV v u → ∃ as, Reads s.heap u d as
  | _, _, _, .non, r => by cases r; exact ⟨_, .none⟩
  | _, _, _, .bl b, r => by cases r; exact ⟨_, .bool b⟩
  | _, _, _, .int i, r => by obtain ⟨t, rfl⟩ := r; exact ⟨_, .int i t⟩
  | _, _, _, .str x, r => by obtain ⟨t, rfl⟩ := r; exact ⟨_, .str x t⟩
  | _, _, _, .lst h hs, r => by
    cases r
    obtain ⟨its, rv, ⟨o, n, e, hc, _, hd⟩, _⟩ := I.list h
    obtain ⟨as, ra⟩ := RdVs.reads I hs rv
    exact ⟨_, .list e hc hd (by simpa using ra)⟩
  | _, _, _, .tup h hs, r => by
    cases r
    obtain ⟨its, rv, ⟨o, e, hc, n, hd⟩, _⟩ := I.tuple h
    obtain ⟨as, ra⟩ := RdVs.reads I hs rv
    exact ⟨_, .tuple e hc hd (by simpa using ra)⟩
theorem RdVs.reads (I : Inv X pins σ H s) : ∀ {vs : List V} {ds : List PyData} {us : List Value}, RdVs X.K H vs ds → Vals vs us → ∃ as, ReadsAll s.heap us ds as
  | _, _, _, .nil, r => by cases r; exact ⟨_, .nil⟩
  | _, _, _, .cons h hs, r => by
    cases r with
    | cons r rs =>
      obtain ⟨as, ra⟩ := RdV.reads I h r
      obtain ⟨bs, rb⟩ := RdVs.reads I hs rs
      exact ⟨_, .cons ra rb⟩
end
mutual
theorem RdV.noDict : ∀ {v : V} {d : PyData}, RdV K H v d → d.hasDict = false
  | _, _, .non => by simp only [PyData.hasDict]
  | _, _, .bl b => by simp only [PyData.hasDict]
  | _, _, .int i => by simp only [PyData.hasDict]
  | _, _, .str x => by simp only [PyData.hasDict]
  | _, _, .lst h hs => by simp only [PyData.hasDict]; exact RdVs.noDict hs
  | _, _, .tup h hs => by simp only [PyData.hasDict]; exact RdVs.noDict hs
theorem RdVs.noDict : ∀ {vs : List V} {ds : List PyData}, RdVs K H vs ds → PyData.hasDictAll ds = false
  | _, _, .nil => by simp only [PyData.hasDictAll]
  | _, _, .cons h hs => by simp only [PyData.hasDictAll, RdV.noDict h, RdVs.noDict hs, Bool.or_self]
end
theorem Same.tup' {a : Addr} {xs : List V} (e : Same H H') (h : SqT K H a xs) : SqT K H' a xs := by
  rcases h with (h | ⟨o, h⟩) | h
  · exact .inl (.inl (e _ _ h))
  · exact .inl (.inr ⟨o, e _ _ h⟩)
  · exact .inr h
mutual
theorem RdV.same (e : Same H H') : ∀ {v : V} {d : PyData}, RdV K H v d → RdV K H' v d
  | _, _, .non => .non
  | _, _, .bl b => .bl b
  | _, _, .int i => .int i
  | _, _, .str x => .str x
  | _, _, .lst h hs => .lst (e.seq h) (RdVs.same e hs)
  | _, _, .tup h hs => .tup (Same.tup' e h) (RdVs.same e hs)
theorem RdVs.same (e : Same H H') : ∀ {vs : List V} {ds : List PyData}, RdVs K H vs ds → RdVs K H' vs ds
  | _, _, .nil => .nil
  | _, _, .cons h hs => .cons (RdV.same e h) (RdVs.same e hs)
end
theorem RdVs.ints : ∀ ns : List Int, RdVs K H (ns.map V.int) (ns.map PyData.int)
  | [] => .nil
  | n :: ns => .cons (.int n) (RdVs.ints ns)
end
mutual
def Fits (b : Nat) : PyData → Prop
  | .none => True
  | .bool _ => True
  | .int i => i.natAbs < 10 ^ b
  | .str x => (reprText x).length ≤ b
  | .list xs => FitsAll b xs
  | .tuple xs => FitsAll b xs
  | .dict _ => False
def FitsAll (b : Nat) : List PyData → Prop
  | [] => True
  | x :: xs => Fits b x ∧ FitsAll b xs
end
mutual
def nodes : PyData → Nat
  | .list xs => nodesAll xs + 1
  | .tuple xs => nodesAll xs + 1
  | _ => 1
def nodesAll : List PyData → Nat
  | [] => 0
  | x :: xs => nodes x + nodesAll xs
end
theorem fitsAll_iff {b : Nat} : ∀ {xs : List PyData}, FitsAll b xs ↔ ∀ x ∈ xs, Fits b x
  | [] => by simp [FitsAll]
  | x :: xs => by simp only [FitsAll, List.mem_cons, forall_eq_or_imp, fitsAll_iff (xs := xs)]
theorem nodesAll_le {m : Nat} : ∀ {xs : List PyData}, (∀ x ∈ xs, nodes x ≤ m) → nodesAll xs ≤ m * xs.length
  | [], _ => by simp [nodesAll]
  | x :: xs, h => by
    have h1 := h x (List.mem_cons_self ..)
    have h2 := nodesAll_le (xs := xs) fun y hy => h y (List.mem_cons_of_mem _ hy)
    simp only [nodesAll, List.length_cons, Nat.mul_add, Nat.mul_one]
    omega
theorem nodes_ints (ns : List Int) : nodesAll (ns.map PyData.int) = ns.length := by
  induction ns with
  | nil => rfl
  | cons n ns ih => simp only [List.map_cons, nodesAll, nodes, ih, List.length_cons]; omega
theorem depth_ints (ns : List Int) : PyData.depthAll (ns.map PyData.int) = 0 := by
  induction ns with
  | nil => rfl
  | cons n ns ih => simp only [List.map_cons, PyData.depthAll, PyData.depth, ih, Nat.max_self]
theorem depthAll_le {m : Nat} : ∀ {xs : List PyData}, (∀ x ∈ xs, x.depth ≤ m) → PyData.depthAll xs ≤ m
  | [], _ => by simp [PyData.depthAll]
  | x :: xs, h => by
    have h1 := h x (List.mem_cons_self ..)
    have h2 := depthAll_le (xs := xs) fun y hy => h y (List.mem_cons_of_mem _ hy)
    simp only [PyData.depthAll]
    omega
theorem listText_le (ts : List Str) : (listText ts).length ≤ piled ts + 2 := by
  cases ts with
  | nil => rw [listText_nil]; decide
  | cons t r =>
    have h := textFrom_length_pos r 1 (("[" : Str) ++ (if (0 : Nat) > 0 then ", " else "" : String) ++ t) (Nat.succ_pos 0)
    have e : ((("[" : Str) ++ (if (0 : Nat) > 0 then ", " else "" : String) ++ t)).length = 1 + t.length := by
      rw [strLen_append, strLen_append]; rfl
    have hX : (listText (t :: r)).length = (textFrom 0 "[" (t :: r)).length + 1 := by
      show (textFrom 0 "[" (t :: r) ++ "]").length = _
      rw [strLen_append]; rfl
    have hY : (textFrom 0 "[" (t :: r)).length = (textFrom 1 (("[" : Str) ++ (if (0 : Nat) > 0 then ", " else "" : String) ++ t) r).length := rfl
    rw [hX, hY, h, e, piled_cons]; omega
theorem tupleText_le (ts : List Str) : (tupleText ts).length ≤ piled ts + 3 := by
  unfold tupleText
  rw [strLen_append, strLen_append]
  have e1 : ((("(" : String) : Str)).length = 1 := rfl
  have e3 : (((if ts.length == 1 then ",)" else ")" : String) : Str)).length ≤ 2 := by split <;> decide
  rw [e1]
  by_cases h : ts = []
  · subst h
    have : (Str.join ", " []).length = 0 := rfl
    omega
  · have := join_length_add ts h
    omega
mutual
theorem shown_le {b : Nat} : ∀ {d : PyData}, Fits b d → d.shown.length + 4 ≤ (b + 12) * nodes d
  | .none, _ => by simp only [PyData.shown, nodes]; show 4 + 4 ≤ _; omega
  | .bool c, _ => by
    simp only [PyData.shown, nodes]
    cases c
    · show 5 + 4 ≤ _; omega
    · show 4 + 4 ≤ _; omega
  | .int i, h => by
    simp only [PyData.shown, nodes]
    have h' : i.natAbs < 10 ^ b := by simpa only [Fits] using h
    have h2 : i.natAbs < 10 ^ (b + 1) := Nat.lt_of_lt_of_le h' (Nat.pow_le_pow_right (by decide) (by omega))
    have h3 : (Str.ofString (toString i)).length ≤ b + 2 := by
      have h4 := int_text_length_le10 (a := i) (k := b + 1) (by omega) h2
      have h5 : (Str.ofString (toString i)).length = (toString i).length := PySem.ofString_length _
      omega
    have h6 : ((toString i : String) : Str).length = (Str.ofString (toString i)).length := rfl
    omega
  | .str x, h => by
    simp only [PyData.shown, nodes]
    have h' : (reprText x).length ≤ b := by simpa only [Fits] using h
    omega
  | .list xs, h => by
    simp only [PyData.shown, nodes]
    have h1 := shownAll_le (b := b) (xs := xs) (by simpa only [Fits] using h)
    have h2 := listText_le (PyData.shownAll xs)
    rw [Nat.mul_add]
    omega
  | .tuple xs, h => by
    simp only [PyData.shown, nodes]
    have h1 := shownAll_le (b := b) (xs := xs) (by simpa only [Fits] using h)
    have h2 := tupleText_le (PyData.shownAll xs)
    rw [Nat.mul_add]
    omega
  | .dict kvs, h => by simp only [Fits] at h
theorem shownAll_le {b : Nat} : ∀ {xs : List PyData}, FitsAll b xs → piled (PyData.shownAll xs) ≤ (b + 12) * nodesAll xs
  | [], _ => by simp only [PyData.shownAll, nodesAll, piled_nil]; omega
  | x :: xs, h => by
    simp only [FitsAll] at h
    have h1 := shown_le h.1
    have h2 := shownAll_le h.2
    simp only [PyData.shownAll, nodesAll, piled_cons]
    rw [Nat.mul_add]
    omega
end
theorem small_log {b i : Nat} (hb : b ≤ 400) (h : i < 10 ^ b) : i.log2 < 1920 := by
  have h1 : i < 2 ^ 1920 := Nat.lt_of_lt_of_le h (Nat.le_trans (Nat.pow_le_pow_right (by decide) hb) (by decide +kernel))
  by_cases z : i = 0
  · subst z; decide
  · exact (Nat.log2_lt z).mpr h1
mutual
theorem showable_of {b : Nat} (hb : b ≤ 400) : ∀ {d : PyData}, Fits b d → d.showable = true
  | .none, _ => by simp only [PyData.showable]
  | .bool c, _ => by simp only [PyData.showable]
  | .int i, h => by
    simp only [PyData.showable]
    exact decide_eq_true (small_log hb (by simpa only [Fits] using h))
  | .str x, h => by simp only [PyData.showable]
  | .list xs, h => by simp only [PyData.showable]; exact showableAll_of hb (by simpa only [Fits] using h)
  | .tuple xs, h => by simp only [PyData.showable]; exact showableAll_of hb (by simpa only [Fits] using h)
  | .dict kvs, h => by simp only [Fits] at h
theorem showableAll_of {b : Nat} (hb : b ≤ 400) : ∀ {xs : List PyData}, FitsAll b xs → PyData.showableAll xs = true
  | [], _ => by simp only [PyData.showableAll]
  | x :: xs, h => by
    simp only [FitsAll] at h
    simp only [PyData.showableAll, showable_of hb h.1, showableAll_of hb h.2, Bool.and_self]
end
def textOf : PyData → Str
  | .str x => x
  | d => d.shown
structure Tells (K : PySem.W.Frag) (H : Hp) (x : V) (d : PyData) : Prop where
  rd : RdV K H x d
  fits : ∃ b, b ≤ 400 ∧ Fits b d ∧ (b + 12) * nodes d ≤ sizeLine
  depth : d.depth ≤ 90
theorem Tells.same {K : PySem.W.Frag} {H H' : Hp} {x : V} {d : PyData} (e : Same H H') (t : Tells K H x d) : Tells K H' x d := ⟨t.rd.same e, t.fits, t.depth⟩
def rStr (K : PySem.W.Frag) : List V → Hp → VK → Prop := fun xs H Q => ∃ x d, xs = [x] ∧ Tells K H x d ∧ Q (.str (textOf d)) H
theorem call_strD {X : Cx} (hg : X.A.guards = some []) (hu : X.A.units + 100 < cLine) : CallR X (.type "str") (rStr X.K) := by
  intro pins s σ H xs us Q I r h
  obtain ⟨x, d, rfl, ⟨hr, ⟨b, hb, hf, hz⟩, hd⟩, q⟩ := h
  obtain ⟨u, rfl, ru⟩ := vals1 r
  have hs := showable_of hb hf
  have hl : d.shown.length ≤ sizeLine := by have := shown_le hf; omega
  have hnd := hr.noDict
  obtain ⟨as, rs⟩ := hr.reads I ru
  cases hr with
  | non => cases ru; exact PySem.P.str_of_none ⟨.str _, H, I.tok _, ⟨_, rfl⟩, q⟩
  | bl c => cases ru; exact PySem.P.str_of_bool ⟨.str _, H, I.tok _, ⟨_, rfl⟩, by cases c <;> exact q⟩
  | int i =>
    obtain ⟨t, rfl⟩ := ru
    exact PySem.P.str_of_int (by simpa [PyData.showable] using hs) ⟨.str _, H, I.tok _, ⟨_, rfl⟩, q⟩
  | str y =>
    obtain ⟨t, rfl⟩ := ru
    exact PySem.P.str_of_str ⟨.str _, H, I, ⟨_, rfl⟩, q⟩
  | lst h1 h2 =>
    cases ru
    exact str_of_reads rs hs (fun z => by rw [hnd] at z; cases z) hg (by omega) (fun _ _ e => e) (fun h' u tk hk => ⟨.str _, H, I.kept hk, ⟨_, rfl⟩, q⟩) hl
  | tup h1 h2 =>
    cases ru
    exact str_of_reads rs hs (fun z => by rw [hnd] at z; cases z) hg (by omega) (fun _ _ e => e) (fun h' u tk hk => ⟨.str _, H, I.kept hk, ⟨_, rfl⟩, q⟩) hl
theorem fits_int {i : Int} {b : Nat} (h : i.natAbs < 10 ^ b) : Fits b (.int i) := by simpa only [Fits] using h
theorem fits_tup {ds : List PyData} {b : Nat} (h : ∀ d ∈ ds, Fits b d) : Fits b (.tuple ds) := by simpa only [Fits] using fitsAll_iff.mpr h
theorem fits_lst {ds : List PyData} {b : Nat} (h : ∀ d ∈ ds, Fits b d) : Fits b (.list ds) := by simpa only [Fits] using fitsAll_iff.mpr h
end Nd
namespace Nd
open PySem PySem.Spec PyProof.Rows L2
def clsV : V → Value
  | .ref D => .ref D
  | .ty n => .type n
  | _ => .none
section
variable {X : Cx}
def rIsx (K : PySem.W.Frag) : List V → Hp → VK → Prop := fun xs H Q => ∃ (x C : Addr) (c : V) (b : Bool), xs = [.ref x, c] ∧ H x = some (ExO x C) ∧ ExcK K C ∧ RelV c (clsV c) ∧ PySem.W.kitOne K (.ref C) (clsV c) = some b ∧ Q (.bl b) H
theorem exc_of {P : Program} {w : World} {H : Hp} {h : Heap} {x C : Addr} (ok : HOk P w H h) (e : H x = some (ExO x C)) : IsExc x C h := (show ObjOk P w H h x (ExO x C) from ok x _ e).1
theorem call_isx : CallR X (.builtin "isinstance") (rIsx X.K) := by
  intro pins s σ H xs us Q I r h
  obtain ⟨x, C, c, b, rfl, hx, T, rc, k, q⟩ := h
  obtain ⟨u, v, rfl, ru, rv⟩ := vals2 r
  cases ru
  have ev : v = clsV c := by
    cases c with
    | ref D => cases rv; rfl
    | ty n => cases rv; rfl
    | non => cases rv; rfl
    | bl _ => cases rc
    | int _ => obtain ⟨t, z⟩ := rc; cases z
    | str _ => obtain ⟨t, z⟩ := rc; cases z
    | byt _ => obtain ⟨t, z⟩ := rc; cases z
    | flt _ => obtain ⟨t, z⟩ := rc; cases z
  rw [ev]
  exact PySem.W.kia_one (kitx_exc T) I.kIn (exc_of I.hok hx) k (fun z => nomatch z) fun tk => ⟨.bl b, H, I.tok _, rfl, q⟩
def rIsxT (K : PySem.W.Frag) : List V → Hp → VK → Prop := fun xs H Q => ∃ (x C tp : Addr) (cs : List Addr) (b : Bool), xs = [.ref x, .ref tp] ∧ H x = some (ExO x C) ∧ ExcK K C ∧ SqT K H tp (cs.map V.ref) ∧ PySem.W.kitAny K (.ref C) (cs.map Value.ref) = some b ∧ Q (.bl b) H
theorem refs_of : ∀ {rs : List Addr} {us : List Value}, Vals (rs.map V.ref) us → us = rs.map Value.ref
  | [], _, r => by cases r; rfl
  | a :: l, _, r => by
    rw [List.map_cons] at r
    cases r with
    | cons r1 r2 => cases r1; rw [refs_of r2]; rfl
theorem call_isxT : CallR X (.builtin "isinstance") (rIsxT X.K) := by
  intro pins s σ H xs us Q I r h
  obtain ⟨x, C, tp, cs, b, rfl, hx, T, ht, k, q⟩ := h
  obtain ⟨u, v, rfl, ru, rv⟩ := vals2 r
  cases ru
  cases rv
  obtain ⟨its, rv, ⟨o, e, hc, n, hd⟩, _⟩ := I.tuple ht
  have ei := refs_of rv
  subst ei
  obtain ⟨oc, od, odt, osl⟩ := o
  have hc' : oc = .type "tuple" := hc
  have hd' : odt = .seq (cs.map Value.ref).toArray n := hd
  subst hc' hd'
  exact PySem.W.kia_tup (kitx_exc T) I.kIn (exc_of I.hok hx) e k (fun z => nomatch z) fun tk => ⟨.bl b, H, I.tok _, rfl, q⟩
end
theorem kit_ref {K : PySem.W.Frag} {C D : Addr} {b : Bool} {cd : ClassData} (h1 : PySem.W.clsIn K D = some cd) (h2 : PySem.W.typeIn K (.ref D) = some (.type "type")) (h3 : PySem.W.subIn K (.ref C) (.ref D) = some b) (h4 : C ≠ D) : PySem.W.kitOne K (.ref C) (.ref D) = some b := by
  unfold PySem.W.kitOne PySem.W.kitCls
  rw [if_neg (by simpa using h4)]
  dsimp only
  rw [h1, h2, if_pos (by simp)]
  exact h3
theorem kit_self {K : PySem.W.Frag} {C : Addr} : PySem.W.kitOne K (.ref C) (.ref C) = some true := by
  unfold PySem.W.kitOne
  rw [if_pos (by simp)]
theorem kit_ty {K : PySem.W.Frag} {C : Addr} {n : String} {b : Bool} (h2 : PySem.W.kitMeta n = true) (h3 : PySem.W.subIn K (.ref C) (.type n) = some b) : PySem.W.kitOne K (.ref C) (.type n) = some b := by
  unfold PySem.W.kitOne PySem.W.kitCls
  rw [if_neg (by simp)]
  dsimp only
  rw [if_pos h2]
  exact h3
theorem kit_bb {K : PySem.W.Frag} {T n : String} {b : Bool} (h1 : (Value.type T == Value.type n) = false) (h2 : PySem.W.kitMeta n = true) (h3 : (fastBuiltinMro T).map (fun x => x.contains (Value.type n)) = some b) : PySem.W.kitOne K (.type T) (.type n) = some b := by
  unfold PySem.W.kitOne PySem.W.kitCls
  rw [h1, if_neg (by decide)]
  dsimp only
  rw [if_pos h2]
  exact h3
theorem kit_same {K : PySem.W.Frag} {T : String} : PySem.W.kitOne K (.type T) (.type T) = some true := by
  unfold PySem.W.kitOne
  rw [if_pos (by simp)]
section
variable {X : Cx} {a b : Expr} {ta tb : TE} {pos : Pos}
theorem pe_fmt {e : Expr} {te : TE} (he : PE X e te) : PE X (.FormattedValue e (-1) none pos) (fun σ H Q => te σ H fun x H1 => ∃ i, x = .int i ∧ i.natAbs.log2 < 1920 ∧ Q (.str (toString i)) H1) := by
  intro pins s σ H Q I h
  refine FormattedValue_plain (thn (he pins s σ H _ I h) fun v s1 ⟨x, H1, I1, r1, i, e1, hi, q⟩ => ?_)
  subst e1
  obtain ⟨t, rfl⟩ := r1
  exact formatField_int_small hi ⟨.str _, H1, I1.tok _, ⟨_, rfl⟩, q⟩
theorem pe_join2 (ha : PE X a ta) (hb : PE X b tb) : PE X (.JoinedStr [a, b] pos) (fun σ H Q => ta σ H fun x H1 => ∃ i, x = .str i ∧ i.length ≤ 1000000 ∧ tb σ H1 fun y H2 => ∃ j, y = .str j ∧ i.length + j.length ≤ 1000000 ∧ ∀ z, Q (.str z) H2) := by
  intro pins s σ H Q I h
  refine JoinedStr_many (joinParts_cons (thn (ha pins s σ H _ I h) fun v s1 ⟨x, H1, I1, r1, i, e1, hi, h1⟩ => ?_))
  subst e1
  obtain ⟨t, rfl⟩ := r1
  have l0 : Str.empty.length = 0 := rfl
  have key : ∀ (s1 : Shared), Inv X pins σ H1 s1 → wpAny (model X.prog X.w) X.A (eval b X.env) (EP X pins σ fun y H2 => ∃ j, y = .str j ∧ i.length + j.length ≤ 1000000 ∧ ∀ z, Q (.str z) H2) X.xe s1 := fun s1 I1 => hb pins s1 σ H1 _ I1 h1
  refine ⟨?_, joinParts_cons (thn (key s1 I1) fun v s2 ⟨y, H2, I2, r2, j, e2, hl, q⟩ => ?_)⟩
  · rw [strLen_append, l0, sizeLine_eq]; omega
  · subst e2
    obtain ⟨t2, rfl⟩ := r2
    have hz : (Str.empty ++ i ++ j).length ≤ sizeLine := by rw [strLen_append, strLen_append, l0, sizeLine_eq]; omega
    exact ⟨hz, joinParts_nil ⟨.str _, H2, I2.tok _, ⟨_, rfl⟩, q _⟩ hz⟩
end
theorem rev_pick (xs : Array Value) : ((List.range xs.size).filterMap fun (k : Nat) => xs[((xs.size : Int) - 1 + (k : Int) * (-1)).toNat]?).toArray = xs.toList.reverse.toArray := by
  congr 1
  have h : ∀ n, n ≤ xs.size → ((List.range n).filterMap fun (k : Nat) => xs[((xs.size : Int) - 1 + (k : Int) * (-1)).toNat]?) = xs.toList.reverse.take n := by
    intro n
    induction n with
    | zero => intro _; simp
    | succ n ih =>
      intro hn
      rw [List.range_succ, List.filterMap_append, ih (by omega)]
      have e : ((xs.size : Int) - 1 + (n : Int) * (-1)).toNat = xs.size - 1 - n := by omega
      have lt : n < xs.toList.reverse.length := by rw [List.length_reverse, Array.length_toList]; omega
      rw [List.take_add_one, List.getElem?_eq_getElem lt]
      congr 1
      simp only [List.filterMap_cons, List.filterMap_nil, e]
      rw [Array.getElem?_eq_getElem (by omega), List.getElem_reverse]
      simp
  have := h xs.size (Nat.le_refl _)
  rw [this]
  rw [List.take_of_length_le (by rw [List.length_reverse, Array.length_toList]; exact Nat.le_refl _)]
section
variable {X : Cx} {e k : Expr} {te : TE} {pos p1 p2 : Pos}
theorem rev_applied {prog : Program} {w : World} {A : Around} {E : Value → Shared → Prop} {s : Shared} {sl : Addr} {os : Obj} {t : Tok} {n : Nat} {Q : Int × Int × Nat → Shared → Prop} (hos : s.heap.get? sl = some os) (hds : os.data = .fields #[.none, .none, .int (-1) t])
    (h : Q ((n : Int) - 1, -1, n) s) : wpAny (model prog w) A (Builtin.Slice.sliceApplied (.ref sl) (pure (n : Int))) Q E s := by
  unfold Builtin.Slice.sliceApplied Builtin.Slice.sliceFields
  refine wpAny_bind (wpAny_bind (wpAny_field hos hds (x := .none) rfl (wpAny_bind (wpAny_field hos hds (x := .none) rfl (wpAny_bind (wpAny_field hos hds (x := .int (-1) t) rfl (wpAny_pure ?_)))))))
  refine wpAny_bind (slicePart_int ?_)
  show wpAny _ _ (if ((-1 : Int) == 0) = true then _ else _) _ _ s
  rw [if_neg (by decide)]
  refine wpAny_bind (slicePart_none (wpAny_bind (slicePart_none (wpAny_bind (wpAny_pure ?_)))))
  have e1 : Builtin.Slice.sliceAdjust none none (-1) (n : Int) = ((n : Int) - 1, -1) := rfl
  have e2 : Builtin.Slice.slicePlaces ((n : Int) - 1) (-1) (-1) = n := by
    unfold Builtin.Slice.slicePlaces
    rw [if_neg (by decide), show (-(-1) : Int) = 1 from rfl, Int.ediv_one]
    split <;> omega
  show wpAny _ _ (match Builtin.Slice.sliceAdjust none none (-1) (n : Int) with | (lo, hi) => pure (lo, (-1 : Int), Builtin.Slice.slicePlaces lo hi (-1))) _ _ s
  rw [e1]
  show wpAny _ _ (pure ((n : Int) - 1, (-1 : Int), Builtin.Slice.slicePlaces ((n : Int) - 1) (-1) (-1))) _ _ s
  rw [e2]
  exact wpAny_pure h
theorem getItem_rev {prog : Program} {w : World} {A : Around} {E : Value → Shared → Prop} {s : Shared} {tp sl : Addr} {items : Array Value} {os : Obj} {t : Tok} {Q : Value → Shared → Prop} (ht : IsTup s.heap tp items) (hos : s.heap.get? sl = some os) (hcs : os.cls = .type "slice") (hds : os.data = .fields #[.none, .none, .int (-1) t])
    (h : Q (.ref s.heap.objs.size) { s with heap := s.heap.push { cls := .type "tuple", data := .seq items.toList.reverse.toArray } }) (hsz : items.size ≤ sizeLine) : wpAny (model prog w) A (getItem (.ref tp) (.ref sl)) Q E s := by
  have hTs : s.TypeIs (.ref sl) "slice" := ⟨os, hos, hcs⟩
  have sz : sizeOk (.seq items.toList.reverse.toArray) := by
    show items.toList.reverse.toArray.size ≤ sizeLine
    rw [List.size_toArray, List.length_reverse, Array.length_toList]
    exact hsz
  unfold getItem
  try with_reducible refine wpAny_holding ?_
  first | refine wpAny_bind (wpAny_pure ?_) | skip
  refine wpAny_bind (wpAny_sequenceKey ht.typeIs (by decide) ?_)
  refine wpAny_bind (wpAny_callSpecial?_slot (name := Str.ofString "__getitem__") ht.typeIs PyProof.Rows.slot_tuple_getitem (wpAny_call_entry PyProof.Rows.slot_tuple_getitem ht.typeIs entry_tuple_getitem ?_ (args_tuple_getitem _ _)))
  show wpAny _ _ (Builtin.Tuple.tupleItemsOf (.ref tp) >>= _) _ _ s
  refine wpAny_bind (tupleItemsOf_ ht (wpAny_bind (wpAny_typeOf hTs ?_)))
  rw [if_pos (by decide)]
  refine wpAny_bind (rev_applied hos hds ?_)
  show wpAny _ _ (if (((items.size : Int) - 1) == 0 && (-1 : Int) == 1 && items.size == items.size) = true then _ else _) _ _ s
  rw [if_neg (by simp), rev_pick]
  first
    | exact wpAny_bind (m := Builtin.Tuple.tupleExact _) (wpAny_newObj_type (wpAny_pure ⟨_, rfl, wpAny_pure h⟩) sz)
    | exact wpAny_bind (m := Builtin.Tuple.tupleExact _) (wpAny_newObj_type (wpAny_bind (wpAny_pure (wpAny_pure ⟨_, rfl, wpAny_pure h⟩))) sz)
    | exact wpAny_bind (wpAny_bind (m := Builtin.Tuple.tupleExact _) (wpAny_newObj_type (wpAny_pure (wpAny_pure ⟨_, rfl, wpAny_pure h⟩)) sz))
    | exact wpAny_bind (wpAny_bind (m := Builtin.Tuple.tupleExact _) (wpAny_newObj_type (wpAny_pure ⟨_, rfl, wpAny_pure h⟩) sz))
theorem pe_rev (he : PE X e te) {tk : TE} (hk : PE X k tk) (htk : ∀ σ H Q, Q (.int (-1)) H → tk σ H Q) : PE X (.Subscript e (.Slice none none (some k) p2) pos) (fun σ H Q => te σ H fun x H1 => ∃ a xs, x = .ref a ∧ SqT X.K H1 a xs ∧ ∀ p, H1 p = none → Q (.ref p) (upd H1 p (.tup xs.reverse))) := by
  intro pins s σ H Q I h
  refine Subscript_ (thn (he pins s σ H _ I h) fun v s1 ⟨x, H1, I1, r1, a, xs, e1, hx, q⟩ => ?_)
  subst e1
  cases r1
  refine wpAny_Slice ?_
  rw [evalPart_none]
  refine wpAny_pure (wpAny_pure ?_)
  rw [evalPart_some]
  refine thn (hk pins s1 σ H1 (fun y H2 => y = .int (-1) ∧ H2 = H1) I1 (htk _ _ _ ⟨rfl, rfl⟩)) fun vk s2 ⟨y, H2, I2, r2, e2, e3⟩ => ?_
  subst e2
  subst e3
  obtain ⟨t, rfl⟩ := r2
  have I3 : Inv X pins σ H2 { s2 with heap := s2.heap.push { cls := .type "slice", data := .fields #[.none, .none, .int (-1) t] } } := I2.kept (t' := s2.toks) fun b ob q => Heap.get?_push_of_some _ q
  obtain ⟨its, r, ht, hz⟩ := I3.tuple hx
  show wpAny (model X.prog X.w) X.A (subscriptTail e (.Slice none none (some k) p2) (.ref a) (.ref s2.heap.objs.size)) (EP X pins σ Q) X.xe { s2 with heap := s2.heap.push { cls := .type "slice", data := .fields #[.none, .none, .int (-1) t] } }
  have hlen : its.toArray.size = xs.length := by rw [List.size_toArray]; exact r.length.symm
  refine tail_any (ops := [.ref a, .ref s2.heap.objs.size]) (T := "tuple") ht.typeIs PyProof.Rows.slot_tuple_getitem.lookup (getItem_rev ht (Heap.get?_push_size _ rfl) rfl rfl ?_ (by rw [hlen]; exact hz)) (by with_unfolding_all rfl)
  refine ⟨.ref _, _, I3.laid (o := .tup xs.reverse) (t' := s2.toks) (fun b ob q => Heap.get?_push_of_some _ q) (Nat.le_refl _) ⟨by rw [List.length_reverse]; exact hz, its.reverse, r.reverse, _, Heap.get?_push_size _ rfl, rfl, 0, by simp⟩, rfl, q _ (I3.hok.fresh (Nat.le_refl _))⟩
end
section
variable {X : Cx} {pins : List (Addr × Obj)} {σ : L2.St} {H : Hp} {s : Shared} {pos : Pos}
theorem sys_lt (I : Inv X pins σ H s) : sysModules < s.heap.objs.size := Nat.lt_trans (by decide) (I.mod.glob.keeps I.bk).lt
def tD0 : TE := fun _ H Q => ∀ p, H p = none → Q (.ref p) (upd H p (.dK []))
theorem pe_d0 : PE X (.Dict [] [] pos) tD0 := fun pins s σ H Q I h =>
  wpAny_Dict_empty ⟨.ref s.heap.objs.size, _, I.laid (a := s.heap.objs.size) (o := .dK []) (t' := s.toks) (fun _ _ q => Heap.get?_push_of_some _ q) (Nat.le_refl _) ⟨Nat.zero_le _, beq_eq_false_iff_ne.mpr (Ne.symm (Nat.ne_of_lt (sys_lt I))), [], .nil, Heap.DictOf.new s.heap⟩, rfl, h _ (I.hok.fresh (Nat.le_refl _))⟩
def rStr0 : List V → Hp → VK → Prop := fun xs H Q => ∃ a, xs = [.ref a] ∧ H a = some (.dK []) ∧ Q (.str (PyData.dict []).shown) H
theorem call_str0 (hg : X.A.guards = some []) (hu : X.A.units + 100 < cLine) : CallR X (.type "str") rStr0 := by
  intro pins s σ H xs us Q I r h
  obtain ⟨a, rfl, ha, q⟩ := h
  obtain ⟨u, rfl, ru⟩ := vals1 r
  cases ru
  obtain ⟨_, hs, vs, rv, hd⟩ := (show ObjOk X.prog X.w H s.heap a (.dK []) from I.hok a _ ha)
  cases rv
  obtain ⟨o, es, ep, e1, hex, hdt, hes⟩ := hd
  have ees : es = #[] := by
    have hp := hes.2.1
    generalize hl : es.toList = l at hp
    cases hp
    simpa using hl
  subst ees
  have rd : Reads s.heap (.ref a) (.dict []) ([a] ++ []) := .dict e1 hex.1 hdt .nil .nil
  refine str_of_reads rd (by simp [PyData.showable, PyData.showableKv]) (fun _ z => ?_) hg (by show _ + ((PyData.dict []).depth + 3) < _; simp only [PyData.depth, PyData.depthKv]; omega) (fun _ _ e => e) (fun h' u tk hk => ⟨.str _, H, I.kept hk, ⟨_, rfl⟩, q⟩) (by decide +kernel)
  have z' : sysModules = a := by simpa using z
  rw [← z'] at hs
  simp at hs
end
end Nd
namespace K1
open PySem L2 Nd
inductive Ty7 (H : Hp) : V → Prop
  | non : Ty7 H .non
  | bl (b : Bool) : Ty7 H (.bl b)
  | int (i : Int) : Ty7 H (.int i)
  | str (x : Str) : Ty7 H (.str x)
  | lst {a : Addr} {xs : List V} (e : H a = some (.lst xs)) : Ty7 H (.ref a)
  | tup {a : Addr} {xs : List V} (e : H a = some (.tup xs)) : Ty7 H (.ref a)
  | dct {a : Addr} (e : H a = some (.dK [])) : Ty7 H (.ref a)
theorem Ty7.same {H H' : Hp} {x : V} (t : Ty7 H x) (s : Same H H') : Ty7 H' x := by
  cases t with
  | non => exact .non
  | bl b => exact .bl b
  | int i => exact .int i
  | str y => exact .str y
  | lst e => exact .lst (s _ _ e)
  | tup e => exact .tup (s _ _ e)
  | dct e => exact .dct (s _ _ e)
def isI : V → Bool
  | .int _ => true
  | _ => false
def isB : V → Bool
  | .bl _ => true
  | _ => false
theorem isi_int {K : PySem.W.Frag} {H : Hp} {x : V} (t : Ty7 H x) : ∃ ty, TyOf K H x ty ∧ PySem.W.kitOne K ty (.type "int") = some (isI x || isB x) := by
  cases t with
  | non => exact ⟨_, .non, kit_bb (by decide) (by decide +kernel) (by show _ = some false; decide +kernel)⟩
  | bl b => exact ⟨_, .bl b, kit_bb (by decide) (by decide +kernel) (by show _ = some true; decide +kernel)⟩
  | int i => exact ⟨_, .int i, kit_same⟩
  | str y => exact ⟨_, .str y, kit_bb (by decide) (by decide +kernel) (by show _ = some false; decide +kernel)⟩
  | lst e => exact ⟨_, .lst e, kit_bb (by decide) (by decide +kernel) (by show _ = some false; decide +kernel)⟩
  | tup e => exact ⟨_, .tup e, kit_bb (by decide) (by decide +kernel) (by show _ = some false; decide +kernel)⟩
  | dct e => exact ⟨_, .dK e, kit_bb (by decide) (by decide +kernel) (by show _ = some false; decide +kernel)⟩
theorem isi_bool {K : PySem.W.Frag} {H : Hp} {x : V} (t : Ty7 H x) : ∃ ty, TyOf K H x ty ∧ PySem.W.kitOne K ty (.type "bool") = some (isB x) := by
  cases t with
  | non => exact ⟨_, .non, kit_bb (by decide) (by decide +kernel) (by show _ = some false; decide +kernel)⟩
  | bl b => exact ⟨_, .bl b, kit_same⟩
  | int i => exact ⟨_, .int i, kit_bb (by decide) (by decide +kernel) (by show _ = some false; decide +kernel)⟩
  | str y => exact ⟨_, .str y, kit_bb (by decide) (by decide +kernel) (by show _ = some false; decide +kernel)⟩
  | lst e => exact ⟨_, .lst e, kit_bb (by decide) (by decide +kernel) (by show _ = some false; decide +kernel)⟩
  | tup e => exact ⟨_, .tup e, kit_bb (by decide) (by decide +kernel) (by show _ = some false; decide +kernel)⟩
  | dct e => exact ⟨_, .dK e, kit_bb (by decide) (by decide +kernel) (by show _ = some false; decide +kernel)⟩
inductive Th (H : Hp) : V → Option (List V) → Prop
  | tup {a : Addr} {xs : List V} (e : H a = some (.tup xs)) (t : ∀ x ∈ xs, Ty7 H x) : Th H (.ref a) (some xs)
  | non : Th H .non none
  | bl (b : Bool) : Th H (.bl b) none
  | int (i : Int) : Th H (.int i) none
  | str (x : Str) : Th H (.str x) none
  | lst {a : Addr} {xs : List V} (e : H a = some (.lst xs)) : Th H (.ref a) none
  | dct {a : Addr} (e : H a = some (.dK [])) : Th H (.ref a) none
theorem Th.same {H H' : Hp} {x : V} {o : Option (List V)} (t : Th H x o) (s : Same H H') : Th H' x o := by
  cases t with
  | tup e t => exact .tup (s _ _ e) fun x hx => (t x hx).same s
  | non => exact .non
  | bl b => exact .bl b
  | int i => exact .int i
  | str y => exact .str y
  | lst e => exact .lst (s _ _ e)
  | dct e => exact .dct (s _ _ e)
theorem isi_tup {K : PySem.W.Frag} {H : Hp} {x : V} {o : Option (List V)} (t : Th H x o) : ∃ ty, TyOf K H x ty ∧ PySem.W.kitOne K ty (.type "tuple") = some o.isSome := by
  cases t with
  | tup e t => exact ⟨_, .tup e, kit_same⟩
  | non => exact ⟨_, .non, kit_bb (by decide) (by decide +kernel) (by show _ = some false; decide +kernel)⟩
  | bl b => exact ⟨_, .bl b, kit_bb (by decide) (by decide +kernel) (by show _ = some false; decide +kernel)⟩
  | int i => exact ⟨_, .int i, kit_bb (by decide) (by decide +kernel) (by show _ = some false; decide +kernel)⟩
  | str y => exact ⟨_, .str y, kit_bb (by decide) (by decide +kernel) (by show _ = some false; decide +kernel)⟩
  | lst e => exact ⟨_, .lst e, kit_bb (by decide) (by decide +kernel) (by show _ = some false; decide +kernel)⟩
  | dct e => exact ⟨_, .dK e, kit_bb (by decide) (by decide +kernel) (by show _ = some false; decide +kernel)⟩
def spWh : Sp := fun vs H Q _ => ∃ x, vs = [x] ∧ Ty7 H x ∧ Q (.bl (isI x)) H
section
variable {P : Program} {w : World} {K : PySem.W.Frag} {mg : Str → Option Value} {base : Heap}
def rIs (K : PySem.W.Frag) : List V → Hp → VK → Prop := fun xs H Q => ∃ x n t b, xs = [x, .ty n] ∧ TyOf K H x t ∧ PySem.W.kitOne K t (.type n) = some b ∧ Q (.bl b) H
theorem isi_ok {X : Cx} : CallR X (.builtin "isinstance") (rIs X.K) := call_isinst
theorem whole_reading {σ : L2.St} {H : Hp} {Q : VK} {x : V} (h0 : σ[0]? = some (some x)) (t : Ty7 H x) (q : Q (.bl (isI x)) H) :
    tAndV (tCB (rIs K) (tCons (tVar 0) (tCons (tC (.ty "int")) tNil))) (tNotV (tCB (rIs K) (tCons (tVar 0) (tCons (tC (.ty "bool")) tNil)))) σ H Q := by
  obtain ⟨t1, a1, b1⟩ := isi_int (K := K) t
  obtain ⟨t2, a2, b2⟩ := isi_bool (K := K) t
  refine ⟨x, h0, x, "int", t1, _, rfl, a1, b1, _, rfl, ?_⟩
  have e : isI x = ((isI x || isB x) && !isB x) := by cases x <;> rfl
  cases h : (isI x || isB x) with
  | true =>
    rw [h, Bool.true_and] at e
    refine iteT ⟨x, h0, x, "bool", t2, _, rfl, a2, b2, _, rfl, ?_⟩
    rw [← e]
    exact q
  | false =>
    rw [h, Bool.false_and] at e
    rw [e] at q
    exact iteF q
theorem scWh : FnScope ["thing"] ["thing"] (defScope sWhole) := ⟨rfl, rfl, rfl, by decide +kernel, rfl, by decide +kernel, by decide +kernel⟩
theorem ok_whole {f : Addr} {fd : FuncData} (F : Fun K "is_whole" "is_whole" sWhole f fd) (mI : mg "isinstance" = none) (mN : mg "int" = none) (mB : mg "bool" = none) : FnOk P w K mg base CX0 1 f fd ["thing"] spWh := by
  refine F.ok scWh (fun vs H Q E h => ?_) (fun cdv A outer s H vs Q E hr h => ?_)
  · obtain ⟨x, rfl, _⟩ := h
    rfl
  obtain ⟨x, rfl, t, q⟩ := h
  refine ⟨_, pss_one (ps_ret (pe_and (pe_callB (r := rIs K) isi_ok rfl mI (by decide +kernel) (pa_cons (pv 0) (pa_cons (pe_bltn (v := .ty "int") rfl mN (by decide +kernel) rfl) pa_nil)))
    (pe_one (pe_not (pe_callB (r := rIs K) isi_ok rfl mI (by decide +kernel) (pa_cons (pv 0) (pa_cons (pe_bltn (v := .ty "bool") rfl mB (by decide +kernel) rfl) pa_nil))))))), ?_⟩
  exact whole_reading rfl t q
theorem scLWh : FnScope ["_law_thing"] ["_law_thing"] (defScope sLWhole) := ⟨rfl, rfl, rfl, by decide +kernel, rfl, by decide +kernel, by decide +kernel⟩
theorem ok_lwhole {f : Addr} {fd : FuncData} (F : Fun K "_law_whole" "_law_whole" sLWhole f fd) (mI : mg "isinstance" = none) (mN : mg "int" = none) (mB : mg "bool" = none) : FnOk P w K mg base CX0 1 f fd ["_law_thing"] spWh := by
  refine F.ok scLWh (fun vs H Q E h => ?_) (fun cdv A outer s H vs Q E hr h => ?_)
  · obtain ⟨x, rfl, _⟩ := h
    rfl
  obtain ⟨x, rfl, t, q⟩ := h
  refine ⟨_, pss_one (ps_ret (pe_and (pe_callB (r := rIs K) isi_ok rfl mI (by decide +kernel) (pa_cons (pv 0) (pa_cons (pe_bltn (v := .ty "int") rfl mN (by decide +kernel) rfl) pa_nil)))
    (pe_one (pe_not (pe_callB (r := rIs K) isi_ok rfl mI (by decide +kernel) (pa_cons (pv 0) (pa_cons (pe_bltn (v := .ty "bool") rfl mB (by decide +kernel) rfl) pa_nil))))))), ?_⟩
  exact whole_reading rfl t q
def wordV (h : Int) : Int → List V → Bool
  | _, [] => true
  | l, .int p :: xs => if p < l ∨ h ≤ p then false else wordV h (p + 1) xs
  | _, _ :: _ => false
def isW (h : Int) : Option (List V) → Bool
  | some xs => wordV h 0 xs
  | none => false
def spIsW : Sp := fun vs H Q _ => ∃ (h : Int) (x : V) (o : Option (List V)), vs = [.int h, x] ∧ Th H x o ∧ (∀ xs, o = some xs → xs.length ≤ 1000) ∧ Q (.bl (isW h o)) H
theorem wordV_at {h l : Int} {xs : List V} {i : Nat} {x : V} : xs[i]? = some x → xs.drop i = x :: xs.drop (i + 1) := fun e => by
  obtain ⟨lt, e'⟩ := List.getElem?_eq_some_iff.mp e
  rw [List.drop_eq_getElem_cons lt, e']
theorem scIsW : FnScope ["holes", "thing", "least", "place"] ["holes", "thing"] (defScope sIsWord) := ⟨rfl, rfl, rfl, by decide +kernel, rfl, by decide +kernel, by decide +kernel⟩
theorem ok_isw {f g : Addr} {fd gd : FuncData} (F : Fun K "is_word" "is_word" sIsWord f fd) (G : FnOk P w K mg base CX0 1 g gd ["thing"] spWh) (bG : Binds K gd ["thing"] []) (kG : PySem.W.keepIn K (.ref g) = true) (mG : mg "is_whole" = some (.ref g))
    (mI : mg "isinstance" = none) (mT : mg "tuple" = none) : FnOk P w K mg base CX0 2 f fd ["holes", "thing"] spIsW := by
  refine F.ok scIsW (fun vs H Q E h => ?_) (fun cdv A outer s H vs Q E hr h => ?_)
  · obtain ⟨h, x, o, rfl, _⟩ := h
    rfl
  obtain ⟨h, x, o, rfl, t, hl, q⟩ := h
  refine ⟨_, pss_cons (ps_if (pt_not (pt_val (pe_callB (r := rIs K) isi_ok rfl mI (by decide +kernel) (pa_cons (pv 1) (pa_cons (pe_bltn (v := .ty "tuple") rfl mT (by decide +kernel) rfl) pa_nil))))) (pss_one (ps_ret pe_bl)) pss_nil)
    (pss_cons (ps_set (i := 2) scIsW.nd rfl (Or.inl rfl) pe_int)
    (pss_cons (ps_for PassesOwn.never rfl (pi_tup (pv 1)) (pg_name (i := 3) scIsW.nd rfl (Or.inl rfl))
      (pss_cons (ps_if (PW.pt (pw_or (pt_not (pt_val (pe_call G hr rfl mG kG bG .nil pass0 (pa_cons (pv 3) pa_nil)))) (pw_or (pt_cmpR op_lt (pv 3) (pv 2) (nomark _)) (pw_or1 (pt_cmpR op_ge (pv 3) (pv 0) (nomark _)))))) (pss_one (ps_ret pe_bl)) pss_nil)
      (pss_one (ps_set (i := 2) scIsW.nd rfl (Or.inl rfl) (pe_op op_add (pv 3) pe_int)))))
    (pss_one (ps_ret pe_bl)))), ?_⟩
  obtain ⟨ty, a1, b1⟩ := isi_tup (K := K) t
  refine ⟨x, rfl, x, "tuple", ty, _, rfl, a1, b1, _, rfl, ?_⟩
  cases o with
  | none => exact iteT q
  | some xs =>
    refine iteF ?_
    have q : Q (.bl (wordV h 0 xs)) H := q
    cases t with
    | @tup a _ e tt =>
      refine ⟨_, rfl, a, rfl, ⟨_, SqT.of e⟩, for_tup (K := K) (a := a) (xs := xs) (fun i σ H2 => H2 = H ∧ ∃ (l : Int) (pl : Option V), σ = [some (.int h), some (.ref a), some (.int l), pl] ∧ wordV h 0 xs = wordV h l (xs.drop i)) ⟨rfl, 0, none, rfl, rfl⟩ (fun i σ H2 _ ⟨z, _⟩ => by rw [z]; exact SqT.of e) ?_ ?_⟩
      · rintro i y σ H2 hy ⟨rfl, l, pl, rfl, ew⟩
        rw [wordV_at (h := h) (l := l) hy] at ew
        have ty := tt y (List.mem_of_getElem? hy)
        refine ⟨_, rfl, y, rfl, ty, _, rfl, ?_⟩
        cases y with
        | int p =>
          refine iteF ⟨_, rfl, _, rfl, _, _, rfl, rfl, _, rfl, ?_⟩
          by_cases c1 : p < l
          · rw [decide_eq_true c1]
            refine iteT (iteT ?_)
            rw [show wordV h l (.int p :: xs.drop (i + 1)) = false from if_pos (.inl c1)] at ew
            rw [ew] at q
            exact q
          · rw [decide_eq_false c1]
            refine iteF ⟨_, rfl, _, rfl, _, _, rfl, rfl, _, rfl, ?_⟩
            by_cases c2 : h ≤ p
            · rw [decide_eq_true c2]
              refine iteT ?_
              rw [show wordV h l (.int p :: xs.drop (i + 1)) = false from if_pos (.inr c2)] at ew
              rw [ew] at q
              exact q
            · rw [decide_eq_false c2]
              refine iteF ⟨_, rfl, _, _, rfl, rfl, ?_⟩
              rw [show wordV h l (.int p :: xs.drop (i + 1)) = wordV h (p + 1) (xs.drop (i + 1)) from if_neg (by omega)] at ew
              exact ⟨rfl, p + 1, _, rfl, ew⟩
        | non => exact iteT (iteT (by rw [show wordV h l (V.non :: xs.drop (i + 1)) = false from rfl] at ew; rw [ew] at q; exact q))
        | bl b => exact iteT (iteT (by rw [show wordV h l (V.bl b :: xs.drop (i + 1)) = false from rfl] at ew; rw [ew] at q; exact q))
        | str b => exact iteT (iteT (by rw [show wordV h l (V.str b :: xs.drop (i + 1)) = false from rfl] at ew; rw [ew] at q; exact q))
        | byt b => exact iteT (iteT (by rw [show wordV h l (V.byt b :: xs.drop (i + 1)) = false from rfl] at ew; rw [ew] at q; exact q))
        | flt b => exact iteT (iteT (by rw [show wordV h l (V.flt b :: xs.drop (i + 1)) = false from rfl] at ew; rw [ew] at q; exact q))
        | ref b => exact iteT (iteT (by rw [show wordV h l (V.ref b :: xs.drop (i + 1)) = false from rfl] at ew; rw [ew] at q; exact q))
        | ty b => exact iteT (iteT (by rw [show wordV h l (V.ty b :: xs.drop (i + 1)) = false from rfl] at ew; rw [ew] at q; exact q))
      · rintro σ H2 ⟨rfl, l, pl, rfl, ew⟩
        rw [List.drop_length] at ew
        rw [show wordV h l [] = true from rfl] at ew
        rw [ew] at q
        exact q
end
end K1
namespace K1
open PySem L2 Nd
inductive Due | holes | word | ok
def dueT (h : Int) : Option (List V) → Due
  | none => .word
  | some xs => if wordV h 0 xs = true then .ok else .word
def due : V → Option (List V) → Due
  | .int h, o => if h < 1 ∨ 60 < h then .holes else dueT h o
  | _, _ => .holes
def Due.text : Due → Str
  | .holes => "holes"
  | .word => "word"
  | .ok => ""
def Due.out (CH CW : Addr) (Q : VK) (E : XK) (H : Hp) : Due → Prop
  | .holes => E (.ref CH) none H
  | .word => E (.ref CW) none H
  | .ok => Q .non H
def Short (o : Option (List V)) : Prop := ∀ xs, o = some xs → xs.length ≤ 1000
def spCk (CH CW : Addr) : Sp := fun vs H Q E => ∃ (h x : V) (o : Option (List V)), vs = [h, x] ∧ Ty7 H h ∧ Th H x o ∧ Short o ∧ (due h o).out CH CW Q E H
def hOk : V → Bool
  | .int i => decide (1 ≤ i ∧ i ≤ 60)
  | _ => false
def spCkH (CH : Addr) : Sp := fun vs H Q E => ∃ h : V, vs = [h] ∧ Ty7 H h ∧ match hOk h with
  | true => Q .non H
  | false => E (.ref CH) none H
theorem isw_due {h : Int} {o : Option (List V)} : isW h o = true ∧ dueT h o = .ok ∨ isW h o = false ∧ dueT h o = .word := by
  cases o with
  | none => exact .inr ⟨rfl, rfl⟩
  | some xs =>
    show wordV h 0 xs = true ∧ dueT h (some xs) = .ok ∨ wordV h 0 xs = false ∧ dueT h (some xs) = .word
    cases e : wordV h 0 xs with
    | true => exact .inl ⟨rfl, if_pos e⟩
    | false => exact .inr ⟨rfl, if_neg (by rw [e]; decide)⟩
def tMsg (z : Str) : TE := fun σ H Q => tC (.str z) σ H fun x H1 => ∃ i, x = V.str i ∧ i.length ≤ 1000000 ∧ (tC (.int 60) σ H1 fun x' H1' => ∃ k : Int, x' = V.int k ∧ k.natAbs.log2 < 1920 ∧ ∃ j : Str, V.str (toString k) = V.str j ∧ i.length + j.length ≤ 1000000 ∧ ∀ z : Str, Q (.str z) H1')
section
variable {P : Program} {w : World} {K : PySem.W.Frag} {mg : Str → Option Value} {base : Heap}
theorem scCkH : FnScope ["holes"] ["holes"] (defScope sCheckH) := ⟨rfl, rfl, rfl, by decide +kernel, rfl, by decide +kernel, by decide +kernel⟩
theorem ok_checkH {f g CH : Addr} {fd gd : FuncData} {tk : Tok} (F : Fun K "check_holes" "check_holes" sCheckH f fd)
    (G : FnOk P w K mg base CX0 1 g gd ["thing"] spWh) (bG : Binds K gd ["thing"] []) (kG : PySem.W.keepIn K (.ref g) = true) (mG : mg "is_whole" = some (.ref g))
    (mM : mg "MOST_HOLES" = some (.int 60 tk)) (mH : mg "NoHoles" = some (.ref CH)) (eH : PySem.W.excIn K CH bmV "ValueError.__new__" = true) :
    FnOk P w K mg base (CXN P w) 2 f fd ["holes"] (spCkH CH) := by
  refine okX F scCkH (fun vs H Q E h => ?_) (fun cdv A outer s H vs Q E hr h => ?_)
  · obtain ⟨h, rfl, _⟩ := h
    rfl
  obtain ⟨h, rfl, th, q⟩ := h
  refine ⟨_, pss_one (ps_if (PW.pt (pw_or (pt_not (pt_val (pe_call G hr rfl mG kG bG .nil pass0 (pa_cons (pv 0) pa_nil)))) (pw_or (pt_cmpR op_lt (pv 0) pe_int (nomark _)) (pw_or1 (pt_cmpR op_gt (pv 0) (pe_glob (v := .int 60) rfl mM ⟨_, rfl⟩) (nomark _))))))
      (pss_one (ps_raise rfl mH eH (pa_cons (pe_join2 pe_str (pe_fmt (pe_glob (v := .int 60) rfl mM ⟨_, rfl⟩))) pa_nil))) pss_nil), ?_⟩
  have raiseH : ∀ (σ : L2.St) (D : Ends), hOk h = false → tRaise CH E (tCons (tMsg "holes are a whole number from 1 to ") tNil) D σ H := fun σ D e => by
    rw [e] at q
    exact ⟨_, rfl, by decide +kernel, _, rfl, by decide +kernel, _, rfl, by decide +kernel, fun z => ⟨by show 1 ≤ sizeLine; decide, q⟩⟩
  refine ⟨_, rfl, h, rfl, th, _, rfl, ?_⟩
  cases h with
  | int i =>
    refine iteF ⟨_, rfl, _, _, rfl, rfl, _, rfl, ?_⟩
    by_cases c1 : i < 1
    · rw [decide_eq_true c1]
      exact iteT (iteT (raiseH _ _ (decide_eq_false (by omega))))
    · rw [decide_eq_false c1]
      refine iteF ⟨_, rfl, _, _, rfl, rfl, _, rfl, ?_⟩
      by_cases c2 : 60 < i
      · rw [decide_eq_true c2]
        exact iteT (raiseH _ _ (decide_eq_false (by omega)))
      · rw [decide_eq_false c2]
        rw [show hOk (.int i) = true from decide_eq_true (by omega)] at q
        exact iteF q
  | non => exact iteT (iteT (raiseH _ _ rfl))
  | bl b => exact iteT (iteT (raiseH _ _ rfl))
  | str b => exact iteT (iteT (raiseH _ _ rfl))
  | byt b => exact iteT (iteT (raiseH _ _ rfl))
  | flt b => exact iteT (iteT (raiseH _ _ rfl))
  | ref b => exact iteT (iteT (raiseH _ _ rfl))
  | ty b => exact iteT (iteT (raiseH _ _ rfl))
theorem scCk : FnScope ["holes", "word"] ["holes", "word"] (defScope sCheck) := ⟨rfl, rfl, rfl, by decide +kernel, rfl, by decide +kernel, by decide +kernel⟩
theorem ok_check {f g g2 CH CW : Addr} {fd gd gd2 : FuncData} (F : Fun K "check_word" "check_word" sCheck f fd)
    (G : FnOk P w K mg base (CXN P w) 2 g gd ["holes"] (spCkH CH)) (bG : Binds K gd ["holes"] []) (kG : PySem.W.keepIn K (.ref g) = true) (mG : mg "check_holes" = some (.ref g))
    (W : FnOk P w K mg base CX0 2 g2 gd2 ["holes", "thing"] spIsW) (bW : Binds K gd2 ["holes", "thing"] []) (kW : PySem.W.keepIn K (.ref g2) = true) (mW : mg "is_word" = some (.ref g2))
    (mN : mg "NoWord" = some (.ref CW)) (eN : PySem.W.excIn K CW bmV "ValueError.__new__" = true) :
    FnOk P w K mg base (CXN P w) 3 f fd ["holes", "word"] (spCk CH CW) := by
  refine okX F scCk (fun vs H Q E h => ?_) (fun cdv A outer s H vs Q E hr h => ?_)
  · obtain ⟨h, x, o, rfl, _⟩ := h
    rfl
  obtain ⟨h, x, o, rfl, th, tx, so, q⟩ := h
  refine ⟨_, pss_cons (ps_expr (pe_call G hr rfl mG kG bG .nil passN (pa_cons (pv 0) pa_nil)) rfl)
    (pss_one (ps_if (pt_not (pt_val (pe_call W hr rfl mW kW bW .nil pass0 (pa_cons (pv 0) (pa_cons (pv 1) pa_nil))))) (pss_one (ps_raise rfl mN eN (pa_cons pe_str pa_nil))) pss_nil)), ?_⟩
  have bad : hOk h = false → due h o = .holes := fun e => by
    cases h with
    | int i => exact if_pos (by have := of_decide_eq_false e; omega)
    | _ => rfl
  refine ⟨_, rfl, h, rfl, th, ?_⟩
  cases e : hOk h with
  | false =>
    rw [bad e] at q
    exact q
  | true =>
    cases h with
    | int i =>
      have hi := of_decide_eq_true e
      have ed : due (.int i) o = dueT i o := if_neg (by omega)
      rw [ed] at q
      refine ⟨_, rfl, _, rfl, i, x, o, rfl, tx, so, _, rfl, ?_⟩
      rcases isw_due (h := i) (o := o) with ⟨e1, e2⟩ | ⟨e1, e2⟩
      · rw [e2] at q
        rw [e1]
        exact iteF q
      · rw [e2] at q
        rw [e1]
        exact iteT ⟨by show 1 ≤ sizeLine; decide, q⟩
    | _ => cases e
def spDue : Sp := fun vs H Q _ => ∃ (h x : V) (o : Option (List V)), vs = [h, x] ∧ Ty7 H h ∧ Th H x o ∧ Short o ∧ Q (.str (due h o).text) H
theorem scDue : FnScope ["_law_holes", "_law_thing", "_law_last", "_law_place"] ["_law_holes", "_law_thing"] (defScope sDue) := ⟨rfl, rfl, rfl, by decide +kernel, rfl, by decide +kernel, by decide +kernel⟩
theorem ok_due {f g : Addr} {fd gd : FuncData} (F : Fun K "_law_due" "_law_due" sDue f fd)
    (G : FnOk P w K mg base CX0 1 g gd ["_law_thing"] spWh) (bG : Binds K gd ["_law_thing"] []) (kG : PySem.W.keepIn K (.ref g) = true) (mG : mg "_law_whole" = some (.ref g)) (mI : mg "isinstance" = none) (mT : mg "tuple" = none) :
    FnOk P w K mg base CX0 2 f fd ["_law_holes", "_law_thing"] spDue := by
  refine F.ok scDue (fun vs H Q E h => ?_) (fun cdv A outer s H vs Q E hr h => ?_)
  · obtain ⟨h, x, o, rfl, _⟩ := h
    rfl
  obtain ⟨h, x, o, rfl, th, t, so, q⟩ := h
  refine ⟨_, pss_cons (ps_if (PW.pt (pw_or (pt_not (pt_val (pe_call G hr rfl mG kG bG .nil pass0 (pa_cons (pv 0) pa_nil)))) (pw_or (pt_cmpR op_lt (pv 0) pe_int (nomark _)) (pw_or1 (pt_cmpR op_gt (pv 0) pe_int (nomark _)))))) (pss_one (ps_ret pe_str)) pss_nil)
    (pss_cons (ps_if (pt_not (pt_val (pe_callB (r := rIs K) isi_ok rfl mI (by decide +kernel) (pa_cons (pv 1) (pa_cons (pe_bltn (v := .ty "tuple") rfl mT (by decide +kernel) rfl) pa_nil))))) (pss_one (ps_ret pe_str)) pss_nil)
    (pss_cons (ps_set (i := 2) scDue.nd rfl (Or.inl rfl) (pe_un un_neg pe_int))
    (pss_cons (ps_for PassesOwn.never rfl (pi_tup (pv 1)) (pg_name (i := 3) scDue.nd rfl (Or.inl rfl))
      (pss_cons (ps_if (PW.pt (pw_or (pt_not (pt_val (pe_call G hr rfl mG kG bG .nil pass0 (pa_cons (pv 3) pa_nil)))) (pw_or (pt_cmpR op_le (pv 3) (pv 2) (nomark _)) (pw_or1 (pt_cmpR op_ge (pv 3) (pv 0) (nomark _)))))) (pss_one (ps_ret pe_str)) pss_nil)
      (pss_one (ps_set (i := 2) scDue.nd rfl (Or.inl rfl) (pv 3)))))
    (pss_one (ps_ret pe_str))))), ?_⟩
  refine ⟨_, rfl, h, rfl, th, _, rfl, ?_⟩
  cases h with
  | non => exact iteT (iteT q)
  | bl b => exact iteT (iteT q)
  | str b => exact iteT (iteT q)
  | byt b => exact iteT (iteT q)
  | flt b => exact iteT (iteT q)
  | ref b => exact iteT (iteT q)
  | ty b => exact iteT (iteT q)
  | int h =>
    refine iteF ⟨_, rfl, _, _, rfl, rfl, _, rfl, ?_⟩
    by_cases c1 : h < 1
    · rw [decide_eq_true c1]
      rw [show due (.int h) o = .holes from if_pos (.inl c1)] at q
      exact iteT (iteT q)
    rw [decide_eq_false c1]
    refine iteF ⟨_, rfl, _, _, rfl, rfl, _, rfl, ?_⟩
    by_cases c2 : 60 < h
    · rw [decide_eq_true c2]
      rw [show due (.int h) o = .holes from if_pos (.inr c2)] at q
      exact iteT q
    rw [decide_eq_false c2]
    have ed : due (.int h) o = dueT h o := if_neg (by omega)
    rw [ed] at q
    refine iteF ?_
    obtain ⟨ty, a1, b1⟩ := isi_tup (K := K) t
    refine ⟨x, rfl, x, "tuple", ty, _, rfl, a1, b1, _, rfl, ?_⟩
    cases o with
    | none => exact iteT q
    | some xs =>
      refine iteF ?_
      cases t with
      | @tup a _ e tt =>
        have bad : wordV h 0 xs = false → Q (.str "word") H := fun z => by
          have z' : dueT h (some xs) = .word := if_neg (by rw [z]; decide)
          rw [z'] at q
          exact q
        refine ⟨_, rfl, ?_⟩
        refine ⟨_, rfl, a, rfl, ⟨_, SqT.of e⟩, for_tup (K := K) (a := a) (xs := xs) (fun i σ H2 => H2 = H ∧ ∃ (l : Int) (pl : Option V), σ = [some (.int h), some (.ref a), some (.int l), pl] ∧ wordV h 0 xs = wordV h (l + 1) (xs.drop i)) ⟨rfl, -1, none, rfl, rfl⟩ (fun i σ H2 _ ⟨z, _⟩ => by rw [z]; exact SqT.of e) ?_ ?_⟩
        · rintro i y σ H2 hy ⟨rfl, l, pl, rfl, ew⟩
          rw [wordV_at (h := h) (l := l) hy] at ew
          have ty := tt y (List.mem_of_getElem? hy)
          refine ⟨_, rfl, y, rfl, ty, _, rfl, ?_⟩
          cases y with
          | int p =>
            refine iteF ⟨_, rfl, _, rfl, _, _, rfl, rfl, _, rfl, ?_⟩
            by_cases c1 : p ≤ l
            · rw [decide_eq_true c1]
              refine iteT (iteT (bad ?_))
              rw [ew]
              exact if_pos (.inl (by omega))
            · rw [decide_eq_false c1]
              refine iteF ⟨_, rfl, _, rfl, _, _, rfl, rfl, _, rfl, ?_⟩
              by_cases c2 : h ≤ p
              · rw [decide_eq_true c2]
                refine iteT (bad ?_)
                rw [ew]
                exact if_pos (.inr c2)
              · rw [decide_eq_false c2]
                refine iteF ⟨_, rfl, ?_⟩
                rw [show wordV h (l + 1) (.int p :: xs.drop (i + 1)) = wordV h (p + 1) (xs.drop (i + 1)) from if_neg (by omega)] at ew
                exact ⟨rfl, p, _, rfl, ew⟩
          | non => exact iteT (iteT (bad ew))
          | bl b => exact iteT (iteT (bad ew))
          | str b => exact iteT (iteT (bad ew))
          | byt b => exact iteT (iteT (bad ew))
          | flt b => exact iteT (iteT (bad ew))
          | ref b => exact iteT (iteT (bad ew))
          | ty b => exact iteT (iteT (bad ew))
        · rintro σ H2 ⟨rfl, l, pl, rfl, ew⟩
          rw [List.drop_length] at ew
          have z' : dueT h (some xs) = .ok := if_pos ew
          rw [z'] at q
          exact q
end
end K1
namespace K1
open PySem L2 Nd
structure KX (K : PySem.W.Frag) (NE CH CW : Addr) (os : List Addr) (C : Addr) (bh bw : Bool) : Prop where
  ek : ExcK K C
  v : PySem.W.kitOne K (.ref C) (.type "ValueError") = some true
  o : PySem.W.kitAny K (.ref C) (os.map Value.ref) = some false
  h : PySem.W.kitOne K (.ref C) (.ref CH) = some bh
  w : PySem.W.kitOne K (.ref C) (.ref CW) = some bw
  n : PySem.W.subIn K (.ref C) (.ref NE) = some true
def kindT (bh bw : Bool) : Str := (if bh = true then ("holes" : Str) else "") ++ (if bw = true then ("word" : Str) else "")
def spKind (K : PySem.W.Frag) (NE CH CW : Addr) (os : List Addr) : Sp := fun vs H Q _ => ∃ (x C : Addr) (bh bw : Bool), vs = [.ref x] ∧ H x = some (ExO x C) ∧ KX K NE CH CW os C bh bw ∧ ∀ H', Same H H' → Q (.str (kindT bh bw)) H'
section
variable {P : Program} {w : World} {K : PySem.W.Frag} {mg : Str → Option Value} {base : Heap}
theorem at_h (b : Bool) : atI [V.str "", V.str "holes"] (if b = true then 1 else 0) = some (.str (if b = true then "holes" else "")) := by cases b <;> rfl
theorem at_w (b : Bool) : atI [V.str "", V.str "word"] (if b = true then 1 else 0) = some (.str (if b = true then "word" else "")) := by cases b <;> rfl
theorem scK : FnScope ["_law_error"] ["_law_error"] (defScope sKind) := ⟨rfl, rfl, rfl, by decide +kernel, rfl, by decide +kernel, by decide +kernel⟩
theorem ok_kind {f NE CH CW c1 c2 c3 c4 c5 c6 c7 : Addr} {fd : FuncData} (F : Fun K "_law_kind" "_law_kind" sKind f fd) (mI : mg "isinstance" = none) (mV : mg "ValueError" = none) (mN : mg "int" = none)
    (mH : mg "NoHoles" = some (.ref CH)) (mW : mg "NoWord" = some (.ref CW)) (m1 : mg "NoBack" = some (.ref c1)) (m2 : mg "NoCount" = some (.ref c2)) (m3 : mg "NoLine" = some (.ref c3)) (m4 : mg "NoName" = some (.ref c4)) (m5 : mg "NoSide" = some (.ref c5)) (m6 : mg "NoText" = some (.ref c6)) (m7 : mg "NoValue" = some (.ref c7)) :
    FnOk P w K mg base CX0 1 f fd ["_law_error"] (spKind K NE CH CW [c1, c2, c3, c4, c5, c6, c7]) := by
  refine F.ok scK (fun vs H Q E h => ?_) (fun cdv A outer s H vs Q E hr h => ?_)
  · obtain ⟨x, C, bh, bw, rfl, _⟩ := h
    rfl
  obtain ⟨x, C, bh, bw, rfl, hx, T, q⟩ := h
  refine ⟨_, pss_cons (ps_if (pt_not (pt_val (pe_callB (r := rIsx K) call_isx rfl mI (by decide +kernel) (pa_cons (pv 0) (pa_cons (pe_bltn (v := .ty "ValueError") rfl mV (by decide +kernel) rfl) pa_nil))))) (pss_one (ps_ret pe_str)) pss_nil)
    (pss_cons (ps_if (pt_val (pe_callB (r := rIsxT K) call_isxT rfl mI (by decide +kernel) (pa_cons (pv 0) (pa_cons (pe_tup (pa_cons (pe_glob (v := .ref c1) rfl m1 rfl) (pa_cons (pe_glob (v := .ref c2) rfl m2 rfl) (pa_cons (pe_glob (v := .ref c3) rfl m3 rfl) (pa_cons (pe_glob (v := .ref c4) rfl m4 rfl)
        (pa_cons (pe_glob (v := .ref c5) rfl m5 rfl) (pa_cons (pe_glob (v := .ref c6) rfl m6 rfl) (pa_cons (pe_glob (v := .ref c7) rfl m7 rfl) pa_nil)))))))) pa_nil)))) (pss_one (ps_ret pe_str)) pss_nil)
    (pss_one (ps_ret (pe_op op_add_str
      (pe_ix ix_list (pe_lst (pa_cons pe_str (pa_cons pe_str pa_nil))) (pe_callTy call_int1 rfl mN (by decide +kernel) (pa_cons (pe_callB (r := rIsx K) call_isx rfl mI (by decide +kernel) (pa_cons (pv 0) (pa_cons (pe_glob (v := .ref CH) rfl mH rfl) pa_nil))) pa_nil)) (fun _ _ => rfl))
      (pe_ix ix_list (pe_lst (pa_cons pe_str (pa_cons pe_str pa_nil))) (pe_callTy call_int1 rfl mN (by decide +kernel) (pa_cons (pe_callB (r := rIsx K) call_isx rfl mI (by decide +kernel) (pa_cons (pv 0) (pa_cons (pe_glob (v := .ref CW) rfl mW rfl) pa_nil))) pa_nil)) (fun _ _ => rfl)))))), ?_⟩
  refine ⟨_, rfl, x, C, .ty "ValueError", true, rfl, hx, T.ek, rfl, T.v, _, rfl, iteF ?_⟩
  refine ⟨_, rfl, (by show 7 ≤ sizeLine; decide), fun p np => ?_⟩
  have s1 := same_new np (.tup [V.ref c1, V.ref c2, V.ref c3, V.ref c4, V.ref c5, V.ref c6, V.ref c7])
  refine ⟨x, C, p, [c1, c2, c3, c4, c5, c6, c7], false, rfl, s1 _ _ hx, T.ek, SqT.of upd_same, T.o, _, rfl, iteF ?_⟩
  refine ⟨(by show 2 ≤ sizeLine; decide), fun p2 np2 => ?_⟩
  have s2 := same_new np2 (.lst [V.str "", V.str "holes"])
  refine ⟨_, rfl, x, C, .ref CH, bh, rfl, s2 _ _ (s1 _ _ hx), T.ek, rfl, T.h, .inr ⟨bh, rfl, p2, _, _, _, rfl, rfl, SqL.of upd_same, at_h bh, ?_⟩⟩
  refine ⟨(by show 2 ≤ sizeLine; decide), fun p3 np3 => ?_⟩
  have s3 := same_new np3 (.lst [V.str "", V.str "word"])
  refine ⟨_, rfl, x, C, .ref CW, bw, rfl, s3 _ _ (s2 _ _ (s1 _ _ hx)), T.ek, rfl, T.w, .inr ⟨bw, rfl, p3, _, _, _, rfl, rfl, SqL.of upd_same, at_w bw, _, _, rfl, rfl, ?_, q _ ((s1.trans s2).trans s3)⟩⟩
  cases bh <;> cases bw <;> decide +kernel
def spSaid : Sp := fun vs H Q _ => ∃ (h x : V) (o : Option (List V)), vs = [h, x] ∧ Ty7 H h ∧ Th H x o ∧ Short o ∧ ∀ H', Same H H' → Q (.str (due h o).text) H'
theorem scS : FnScope ["_law_holes", "_law_word_here", "_law_caught", "_law_told", "e"] ["_law_holes", "_law_word_here"] (defScope sSaid) := ⟨rfl, rfl, rfl, by decide +kernel, rfl, by decide +kernel, by decide +kernel⟩
theorem ok_said {f g k NE CH CW : Addr} {os : List Addr} {fd gd kd : FuncData} (F : Fun K "_law_said" "_law_said" sSaid f fd)
    (G : FnOk P w K mg base (CXN P w) 3 g gd ["holes", "word"] (spCk CH CW)) (bG : Binds K gd ["holes", "word"] []) (kG : PySem.W.keepIn K (.ref g) = true) (mG : mg "check_word" = some (.ref g))
    (L : FnOk P w K mg base CX0 1 k kd ["_law_error"] (spKind K NE CH CW os)) (bL : Binds K kd ["_law_error"] []) (kL : PySem.W.keepIn K (.ref k) = true) (mL : mg "_law_kind" = some (.ref k))
    (mE : mg "NeedleError" = some (.ref NE)) (eE : PySem.W.excIn K NE bmV "ValueError.__new__" = true) (mN : mg "int" = none) (TH : KX K NE CH CW os CH true false) (TW : KX K NE CH CW os CW false true) :
    FnOk P w K mg base CX0 4 f fd ["_law_holes", "_law_word_here"] spSaid := by
  refine F.ok scS (fun vs H Q E h => ?_) (fun cdv A outer s H vs Q E hr h => ?_)
  · obtain ⟨h, x, o, rfl, _⟩ := h
    rfl
  obtain ⟨h, x, o, rfl, th, tx, so, q⟩ := h
  have hr1 : Room 1 (A.deeper (PyProof.Rows.envOfC "_law_said" (defScope sSaid) s.heap.objs.size f cdv)) := hr.mono (by decide)
  refine ⟨_, pss_cons (ps_set (i := 2) scS.nd rfl (Or.inl rfl) pe_non)
    (pss_cons (ps_set (i := 3) scS.nd rfl (Or.inl rfl) pe_int)
    (pss_cons (ps_tryA (i := 3) (k := 4) (j := 2) rfl rfl scS.nd rfl rfl rfl rfl rfl rfl rfl mE eE G hr rfl mG kG bG (pa_cons (pv 0) (pa_cons (pv 1) pa_nil)))
    (pss_cons (ps_if (pt_cmpR op_isN (pv 2) pe_non (nomark _)) (pss_one (ps_ret (pe_ix ix_list (pe_lst (pa_cons pe_str (pa_cons pe_str pa_nil))) (pe_callTy call_int1 rfl mN (by decide +kernel) (pa_cons (pe_cmpR op_isN (pv 3) pe_non (nomark _)) pa_nil)) (fun _ _ => rfl)))) pss_nil)
    (pss_one (ps_ret (pe_call L hr1 rfl mL kL bL .nil pass0 (pa_cons (pv 2) pa_nil))))))), ?_⟩
  refine ⟨_, rfl, _, rfl, h, x, o, rfl, th, tx, so, ?_⟩
  have caught : ∀ (C : Addr) (bh bw : Bool) (y : Addr) (σ : L2.St), KX K NE CH CW os C bh bw → H y = none → kindT bh bw = (due h o).text → σ[2]? = some (some (.ref y)) →
      tSeq (tIfS (tTest (tOp (fun x y H Q => y = .non ∧ Q (.bl (decide (x = .non))) H) (tVar 2) (tC .non))) (tRet (tOp (rIxL K) (tLst (tCons (tC (.str "no None")) (tCons (tC (.str "")) tNil))) (tCB (fun xs H Q => (∃ i, xs = [.int i] ∧ Q (.int i) H) ∨ ∃ k, xs = [.bl k] ∧ Q (.int (if k then 1 else 0)) H) (tCons (tOp (fun x y H Q => y = .non ∧ Q (.bl (decide (x = .non))) H) (tVar 3) (tC .non)) tNil)))) tNext)
        (tRet (tCall (spKind K NE CH CW os) [] E0 (tCons (tVar 2) tNil))) { nx := fun _ H' => Q .non H', rt := Q } σ (upd H y (ExO y C)) := fun C bh bw y σ T ny ek hσ => by
    refine ⟨_, hσ, rfl, _, rfl, ?_⟩
    rw [show decide (V.ref y = V.non) = false from by simp]
    refine iteF ⟨_, hσ, y, C, bh, bw, rfl, upd_same, T, fun H' s' => ?_⟩
    rw [ek]
    exact q H' ((same_new ny _).trans s')
  cases hd : due h o with
  | ok =>
    refine ⟨_, rfl, rfl, _, rfl, ?_⟩
    rw [show decide (V.non = V.non) = true from by simp]
    refine iteT ⟨(by show 2 ≤ sizeLine; decide), fun p np => ⟨_, rfl, rfl, .inr ⟨_, rfl, p, _, _, .str "", rfl, rfl, SqL.of upd_same, ?_, ?_⟩⟩⟩
    · rw [show decide (V.non = V.non) = true from by simp]
      rfl
    · have q' := q _ (same_new np (.lst [V.str "no None", V.str ""]))
      rw [hd] at q'
      exact q'
  | holes => exact ⟨CH, rfl, TH.n, fun y ny => caught CH true false y _ TH ny (by rw [hd]; decide +kernel) rfl⟩
  | word => exact ⟨CW, rfl, TW.n, fun y ny => caught CW false true y _ TW ny (by rw [hd]; decide +kernel) rfl⟩
end
end K1
namespace NdS
open PySem
theorem laid_led {mask finger moves : Nat} {led plain : Bool} {hs : Array Int} {t : SetTable} {order : Array Nat} (h : SetTable.laid mask finger moves led plain hs = some (t, order)) : t.led = led ∧ t.mask = mask ∧ t.plain = plain ∧ t.dummies = #[] := by
  unfold SetTable.laid at h
  cases hl : SetTable.layClean mask hs with
  | none => rw [hl] at h; cases h
  | some owner =>
    rw [hl] at h
    cases h
    exact ⟨rfl, rfl, rfl, rfl⟩
def st (m i : Nat) : Nat := (i * 5 + 1) % m
def it (m : Nat) : Nat → Nat → Nat
  | 0, i => i
  | t + 1, i => it m t (st m i)
theorem it_add (m : Nat) : ∀ (a b i : Nat), it m (a + b) i = it m b (it m a i)
  | 0, b, i => by rw [Nat.zero_add]; rfl
  | a + 1, b, i => by rw [Nat.add_right_comm]; exact it_add m a b (st m i)
def orb (m : Nat) : Nat → Nat → List Nat
  | 0, _ => []
  | f + 1, i => i :: orb m f (st m i)
theorem mem_orb {m : Nat} : ∀ {f i e : Nat}, e ∈ orb m f i → ∃ t, t < f ∧ it m t i = e
  | 0, _, _, h => by cases h
  | f + 1, i, e, h => by
    rcases List.mem_cons.mp h with z | z
    · exact ⟨0, Nat.succ_pos _, z.symm⟩
    · obtain ⟨t, h1, h2⟩ := mem_orb z
      exact ⟨t + 1, Nat.succ_lt_succ h1, h2⟩
def goodM (m : Nat) : Prop := 0 < m ∧ it m m 0 = 0 ∧ ∀ e, e < m → e ∈ orb m m 0
theorem goodM_of {m : Nat} (h0 : 0 < m) (h1 : (it m m 0 == 0) = true) (h2 : ((List.range m).all fun e => (orb m m 0).contains e) = true) : goodM m :=
  ⟨h0, by simpa using h1, fun e he => by
    have := List.all_eq_true.mp h2 e (List.mem_range.mpr he)
    simpa using this⟩
theorem good8 : goodM 8 := goodM_of (by decide) (by decide +kernel) (by decide +kernel)
theorem good16 : goodM 16 := goodM_of (by decide) (by decide +kernel) (by decide +kernel)
theorem good32 : goodM 32 := goodM_of (by decide) (by decide +kernel) (by decide +kernel)
theorem good64 : goodM 64 := goodM_of (by decide) (by decide +kernel) (by decide +kernel)
theorem good128 : goodM 128 := goodM_of (by decide) (by decide +kernel) (by decide +kernel)
theorem good256 : goodM 256 := goodM_of (by decide) (by decide +kernel) (by decide +kernel)
theorem cover {m : Nat} (g : goodM m) {i e : Nat} (hi : i < m) (he : e < m) : ∃ t, t < m ∧ it m t i = e := by
  obtain ⟨h0, h1, h2⟩ := g
  obtain ⟨a, ha, ea⟩ := mem_orb (h2 i hi)
  obtain ⟨b, hb, eb⟩ := mem_orb (h2 e he)
  by_cases hab : a ≤ b
  · refine ⟨b - a, by omega, ?_⟩
    rw [← ea, ← it_add, Nat.add_sub_cancel' hab]
    exact eb
  · refine ⟨b + m - a, by omega, ?_⟩
    rw [← ea, ← it_add, show a + (b + m - a) = m + b by omega, it_add, h1]
    exact eb
def lp (m : Nat) : Nat → Nat → Nat → Nat × Nat
  | 0, i, p => (i, p)
  | t + 1, i, p => lp m t ((i * 5 + 1 + p / 32) % m) (p / 32)
theorem lp_add (m : Nat) : ∀ (a b i p : Nat), lp m (a + b) i p = lp m b (lp m a i p).1 (lp m a i p).2
  | 0, b, i, p => by rw [Nat.zero_add]; rfl
  | a + 1, b, i, p => by rw [Nat.add_right_comm]; exact lp_add m a b _ _
theorem lp_zero (m : Nat) : ∀ (t i : Nat), lp m t i 0 = (it m t i, 0)
  | 0, _ => rfl
  | t + 1, i => lp_zero m t (st m i)
theorem lp_small {m : Nat} : ∀ (n i p : Nat), p < 32 ^ n → (lp m n i p).2 = 0
  | 0, i, p, h => by show p = 0; simpa using h
  | n + 1, i, p, h => lp_small n _ _ (by rw [Nat.pow_succ] at h; exact Nat.div_lt_of_lt_mul (by omega))
theorem lp_lt {m : Nat} (h0 : 0 < m) : ∀ (n i p : Nat), i < m → (lp m n i p).1 < m
  | 0, i, p, h => h
  | n + 1, i, p, h => lp_lt h0 n _ _ (Nat.mod_lt _ h0)
theorem lp_cover {m : Nat} (g : goodM m) {i p e : Nat} (hi : i < m) (hp : p < 2 ^ 64) (he : e < m) : ∃ t, t < m + 14 ∧ (lp m t i p).1 = e := by
  have h13 := lp_small (m := m) 13 i p (Nat.lt_of_lt_of_le hp (by decide))
  obtain ⟨t, ht, e1⟩ := cover g (lp_lt g.1 13 i p hi) he
  refine ⟨13 + t, by omega, ?_⟩
  rw [lp_add, h13, lp_zero]
  exact e1
theorem runEnd_ge (mask i : Nat) : i ≤ SetTable.runEnd mask i := by unfold SetTable.runEnd; split <;> omega
theorem free_some {mask : Nat} {owner : Array (Option Nat)} : ∀ (fuel i p t : Nat), t < fuel → (owner.getD (lp (mask + 1) t i p).1 (some 0)).isNone = true → ∃ j, SetTable.layClean.free mask owner fuel i p = some j ∧ (owner.getD j (some 0)).isNone = true
  | 0, _, _, _, h, _ => absurd h (Nat.not_lt_zero _)
  | fuel + 1, i, p, t, h, hn => by
    unfold SetTable.layClean.free
    split
    · rename_i k hk
      exact ⟨i + k, rfl, by have := List.find?_some hk; exact this⟩
    · rename_i hk
      rw [List.find?_eq_none] at hk
      cases t with
      | zero =>
        have := hk 0 (List.mem_range.mpr (by have := runEnd_ge mask i; omega))
        exact absurd hn (by simpa [lp] using this)
      | succ t =>
        exact free_some fuel _ _ t (by omega) hn
theorem filterMap_set_perm {L : List (Option Nat)} : ∀ {j x : Nat}, L[j]? = some none → ((L.set j (some x)).filterMap id).Perm (x :: L.filterMap id) := by
  induction L with
  | nil => intro j x h; simp at h
  | cons a L ih =>
    intro j x h
    cases j with
    | zero =>
      simp at h
      subst h
      simp
    | succ j =>
      have h' : L[j]? = some none := by simpa using h
      have := ih (x := x) h'
      cases a with
      | none => simpa using this
      | some b => simpa using (List.Perm.cons b this).trans (List.Perm.swap x b _)
theorem some_none {L : List (Option Nat)} : (L.filterMap id).length < L.length → ∃ j : Nat, L[j]? = some none := by
  induction L with
  | nil => intro h; simp at h
  | cons a L ih =>
    intro h
    cases a with
    | none => exact ⟨0, rfl⟩
    | some b =>
      have : (L.filterMap id).length < L.length := by simpa using h
      obtain ⟨j, hj⟩ := ih this
      exact ⟨j + 1, by simpa using hj⟩
theorem bits_lt (h : Int) : SetTable.bits h < 2 ^ 64 := by
  unfold SetTable.bits
  have h1 := Int.emod_nonneg h (show (2 ^ 64 : Int) ≠ 0 by decide)
  have h2 := Int.emod_lt_of_pos h (show (0 : Int) < 2 ^ 64 by decide)
  omega
def layF (mask : Nat) (acc : Option (Array (Option Nat) × Nat)) (h : Int) : Option (Array (Option Nat) × Nat) := do
  let (owner, k) ← acc
  let j ← SetTable.layClean.free mask owner (SetTable.turns mask) (SetTable.bits h % (mask + 1)) (SetTable.bits h)
  pure (owner.setIfInBounds j (some k), k + 1)
theorem lay_fold {mask : Nat} (g : goodM (mask + 1)) : ∀ (hs : List Int) (owner : Array (Option Nat)) (n : Nat), owner.size = mask + 1 → (owner.toList.filterMap id).Perm (List.range n) → n + hs.length ≤ mask →
    ∃ owner' : Array (Option Nat), hs.foldl (layF mask) (some (owner, n)) = some (owner', n + hs.length) ∧ owner'.size = mask + 1 ∧ (owner'.toList.filterMap id).Perm (List.range (n + hs.length))
  | [], owner, n, h1, h2, _ => ⟨owner, rfl, h1, h2⟩
  | h :: hs, owner, n, h1, h2, h3 => by
    rw [List.length_cons] at h3
    have len : (owner.toList.filterMap id).length = n := by rw [h2.length_eq, List.length_range]
    obtain ⟨e, he⟩ := some_none (L := owner.toList) (by rw [len, Array.length_toList]; omega)
    have he' : e < mask + 1 := by
      have := (List.getElem?_eq_some_iff.mp he).1
      rw [Array.length_toList] at this
      omega
    obtain ⟨t, ht, et⟩ := lp_cover g (i := SetTable.bits h % (mask + 1)) (p := SetTable.bits h) (e := e) (Nat.mod_lt _ g.1) (bits_lt h) he'
    have hn : (owner.getD (lp (mask + 1) t (SetTable.bits h % (mask + 1)) (SetTable.bits h)).1 (some 0)).isNone = true := by
      rw [et, Array.getD_eq_getD_getElem?, ← Array.getElem?_toList, he]
      rfl
    obtain ⟨j, ej, hj⟩ := free_some (mask := mask) (owner := owner) (SetTable.turns mask) _ _ t (by unfold SetTable.turns; omega) hn
    have hj' : owner.toList[j]? = some none := by
      rw [Array.getD_eq_getD_getElem?, ← Array.getElem?_toList] at hj
      cases q : owner.toList[j]? with
      | none => rw [q] at hj; simp at hj
      | some v =>
        rw [q] at hj
        cases v with
        | none => rfl
        | some v => simp at hj
    have e1 : layF mask (some (owner, n)) h = some (owner.setIfInBounds j (some n), n + 1) := by
      show (do
        let j ← SetTable.layClean.free mask owner (SetTable.turns mask) (SetTable.bits h % (mask + 1)) (SetTable.bits h)
        pure (owner.setIfInBounds j (some n), n + 1)) = _
      rw [ej]
      rfl
    rw [List.foldl_cons, e1]
    have p1 : ((owner.setIfInBounds j (some n)).toList.filterMap id).Perm (List.range (n + 1)) := by
      rw [Array.toList_setIfInBounds]
      refine (filterMap_set_perm hj').trans ?_
      rw [List.range_succ]
      exact (List.Perm.cons n h2).trans (List.perm_append_comm (l₁ := [n]) (l₂ := List.range n))
    obtain ⟨o', q1, q2, q3⟩ := lay_fold g hs (owner.setIfInBounds j (some n)) (n + 1) (by rw [Array.size_setIfInBounds]; exact h1) p1 (by omega)
    refine ⟨o', ?_, q2, ?_⟩
    · rw [q1, List.length_cons]
      congr 2
      omega
    · rw [List.length_cons, show n + (hs.length + 1) = n + 1 + hs.length by omega]
      exact q3
theorem layClean_ok {mask : Nat} (g : goodM (mask + 1)) (hs : Array Int) (hl : hs.size ≤ mask) :
    ∃ owner : Array (Option Nat), SetTable.layClean mask hs = some owner ∧ owner.size = mask + 1 ∧ (owner.toList.filterMap id).Perm (List.range hs.size) := by
  have h0 : ((Array.replicate (mask + 1) (none : Option Nat)).toList.filterMap id).Perm (List.range 0) := by
    rw [Array.toList_replicate]
    simp
  obtain ⟨o, h1, h2, h3⟩ := lay_fold g hs.toList (Array.replicate (mask + 1) none) 0 (by simp) h0 (by simpa using hl)
  rw [Array.length_toList, Nat.zero_add] at h1 h3
  refine ⟨o, ?_, h2, h3⟩
  unfold SetTable.layClean
  rw [← Array.foldl_toList]
  show (hs.toList.foldl (layF mask) (some (Array.replicate (mask + 1) none, 0))).map (·.1) = some o
  rw [h1]
  rfl
theorem live_order (owner : Array (Option Nat)) : ((List.range owner.size).filterMap fun j => (owner.getD j none).map fun x => (j, x)).map (·.2) = owner.toList.filterMap id := by
  obtain ⟨L⟩ := owner
  simp only [List.size_toArray]
  have h : ∀ (L : List (Option Nat)) (pre : List (Option Nat)), ((List.range' pre.length L.length).filterMap fun j => (((pre ++ L)[j]?).getD none).map fun x => (j, x)).map (·.2) = L.filterMap id := by
    intro L
    induction L with
    | nil => intro pre; rfl
    | cons a L ih =>
      intro pre
      rw [List.length_cons, List.range'_succ, List.filterMap_cons]
      have e : ((pre ++ a :: L)[pre.length]?).getD none = a := by simp
      have ih' := ih (pre ++ [a])
      rw [List.length_append, List.length_singleton, List.append_assoc, List.singleton_append] at ih'
      cases a with
      | none =>
        simp only [e, Option.map_none, List.filterMap_cons_none, id]
        exact ih'
      | some b =>
        simp only [e, Option.map_some, List.map_cons, List.filterMap_cons_some, id]
        rw [ih']
        simp
  have := h L []
  rw [List.length_nil, ← List.range_eq_range', List.nil_append] at this
  rw [← this]
  congr 1
  congr 1
  funext j
  rw [Array.getD_eq_getD_getElem?]
  simp
theorem laid_ok {mask finger moves : Nat} {led plain : Bool} (g : goodM (mask + 1)) (hs : Array Int) (hl : hs.size ≤ mask) :
    ∃ (t : SetTable) (order : Array Nat), SetTable.laid mask finger moves led plain hs = some (t, order) ∧ order.toList.Perm (List.range hs.size) ∧ t.fits hs.size = true ∧ t.led = led := by
  obtain ⟨o, h1, h2, h3⟩ := layClean_ok g hs hl
  have e : SetTable.laid mask finger moves led plain hs = some ({ mask := mask, place := (((List.range (mask + 1)).filterMap fun j => (o.getD j none).map fun x => (j, x)).map (·.1)).toArray, dummies := #[], finger := finger, led := led, moves := moves, plain := plain },
      (((List.range (mask + 1)).filterMap fun j => (o.getD j none).map fun x => (j, x)).map (·.2)).toArray) := by
    unfold SetTable.laid
    rw [h1]
    rfl
  have lo := live_order o
  rw [h2] at lo
  have len : ((List.range (mask + 1)).filterMap fun j => (o.getD j none).map fun x => (j, x)).length = hs.size := by
    have := congrArg List.length lo
    rw [List.length_map, h3.length_eq, List.length_range] at this
    exact this
  refine ⟨_, _, e, by rw [List.toList_toArray, lo]; exact h3, ?_, rfl⟩
  simp only [SetTable.fits, SetTable.fill, List.size_toArray, List.length_map, len, Bool.and_eq_true, beq_self_eq_true, true_and, decide_eq_true_eq]
  show hs.size + 0 ≤ mask
  omega
theorem picked {α : Type} (es : Array α) {order : Array Nat} (p : order.toList.Perm (List.range es.size)) : (order.filterMap (es[·]?)).toList.Perm es.toList ∧ (order.filterMap (es[·]?)).size = es.size := by
  have e : (order.filterMap (es[·]?)).toList.Perm es.toList := by
    rw [Array.toList_filterMap]
    have := p.filterMap (es[·]?)
    rw [filterMap_getElem?_range] at this
    exact this
  exact ⟨e, by rw [← Array.length_toList, e.length_eq, Array.length_toList]⟩
theorem sizeAbove_good {n : Nat} (h : n < 256) : ∃ m, SetTable.sizeAbove n = m + 1 ∧ goodM (m + 1) ∧ n ≤ m := by
  have key : ∀ k : Fin 256, (SetTable.sizeAbove k.1 == 8 && decide (k.1 < 8)) || (SetTable.sizeAbove k.1 == 16 && decide (k.1 < 16)) || (SetTable.sizeAbove k.1 == 32 && decide (k.1 < 32)) || (SetTable.sizeAbove k.1 == 64 && decide (k.1 < 64)) || (SetTable.sizeAbove k.1 == 128 && decide (k.1 < 128)) || (SetTable.sizeAbove k.1 == 256 && decide (k.1 < 256)) = true := by decide +kernel
  have q := key ⟨n, h⟩
  simp only [Bool.or_eq_true, Bool.and_eq_true, beq_iff_eq, decide_eq_true_eq] at q
  rcases q with ((((q | q) | q) | q) | q) | q
  · exact ⟨7, q.1, good8, by omega⟩
  · exact ⟨15, q.1, good16, by omega⟩
  · exact ⟨31, q.1, good32, by omega⟩
  · exact ⟨63, q.1, good64, by omega⟩
  · exact ⟨127, q.1, good128, by omega⟩
  · exact ⟨255, q.1, good256, by omega⟩
end NdS
namespace NdS
open PySem
abbrev Rise (p : Array Nat) : Prop := p.toList.Pairwise (· < ·)
theorem rise_lt {p : Array Nat} (r : Rise p) {i j : Nat} (h : i < j) (hj : j < p.size) : p[i]'(by omega) < p[j] := by
  have := List.pairwise_iff_getElem.mp r i j (by rw [Array.length_toList]; omega) (by rw [Array.length_toList]; exact hj) h
  simpa using this
structure Below (p : Array Nat) (j b : Nat) : Prop where
  le : b ≤ p.size
  lo : ∀ i (h : i < p.size), i < b → p[i] < j
  hi : ∀ i (h : i < p.size), b ≤ i → j ≤ p[i]
theorem below_go {p : Array Nat} {j : Nat} (r : Rise p) : ∀ (fuel lo hi : Nat), hi ≤ p.size → lo ≤ hi → hi - lo ≤ fuel → (∀ i (h : i < p.size), i < lo → p[i] < j) → (∀ i (h : i < p.size), hi ≤ i → j ≤ p[i]) → Below p j (SetTable.below.go p j fuel lo hi)
  | 0, lo, hi, h1, h2, h3, h4, h5 => by
    unfold SetTable.below.go
    have e : lo = hi := by omega
    exact ⟨by omega, fun i h hl => h4 i h hl, fun i h hl => h5 i h (by omega)⟩
  | fuel + 1, lo, hi, h1, h2, h3, h4, h5 => by
    unfold SetTable.below.go
    split
    · rename_i hl
      have hm : (lo + hi) / 2 < p.size := by omega
      have e : p.getD ((lo + hi) / 2) j = p[(lo + hi) / 2] := by simp [Array.getD, hm]
      dsimp only
      rw [e]
      split
      · rename_i hc
        refine below_go r fuel _ hi h1 (by omega) (by omega) (fun i h hi' => ?_) h5
        by_cases z : i = (lo + hi) / 2
        · subst z; exact hc
        · exact Nat.lt_trans (rise_lt r (show i < (lo + hi) / 2 by omega) hm) hc
      · rename_i hc
        refine below_go r fuel lo _ (by omega) (by omega) (by omega) h4 (fun i h hi' => ?_)
        by_cases z : i = (lo + hi) / 2
        · subst z; omega
        · exact Nat.le_trans (by omega) (Nat.le_of_lt (rise_lt r (show (lo + hi) / 2 < i by omega) h))
    · exact ⟨by omega, fun i h hl => h4 i h hl, fun i h hl => h5 i h (by omega)⟩
theorem below_ok {p : Array Nat} (r : Rise p) (j : Nat) : Below p j (SetTable.below p j) :=
  below_go r _ _ _ (Nat.le_refl _) (Nat.zero_le _) (by omega) (fun i h hl => absurd hl (Nat.not_lt_zero _)) (fun i h hl => absurd hl (by omega))
theorem Below.eq {p : Array Nat} {j b b' : Nat} (x : Below p j b) (y : Below p j b') : b = b' := by
  rcases Nat.lt_trichotomy b b' with z | z | z
  · have h : b < p.size := Nat.lt_of_lt_of_le z y.le
    exact absurd (y.lo b h z) (Nat.not_lt.mpr (x.hi b h (Nat.le_refl _)))
  · exact z
  · have h : b' < p.size := Nat.lt_of_lt_of_le z x.le
    exact absurd (x.lo b' h z) (Nat.not_lt.mpr (y.hi b' h (Nat.le_refl _)))
theorem below_first {p : Array Nat} (r : Rise p) : SetTable.below p 0 = 0 :=
  (below_ok r 0).eq ⟨Nat.zero_le _, fun i h hl => absurd hl (Nat.not_lt_zero _), fun i h _ => Nat.zero_le _⟩
theorem below_next {p : Array Nat} (r : Rise p) {i : Nat} (h : i < p.size) : SetTable.below p (p[i] + 1) = i + 1 :=
  (below_ok r _).eq ⟨h, fun k hk hl => by
    by_cases z : k = i
    · subst z; exact Nat.lt_succ_self _
    · exact Nat.lt_succ_of_lt (rise_lt r (show k < i by omega) h), fun k hk hl => rise_lt r (show i < k by omega) hk⟩
structure TabOk (n : Nat) (t : SetTable) : Prop where
  good : goodM (t.mask + 1)
  dum : t.dummies = #[]
  plain : t.plain = true
  rise : Rise t.place
  top : ∀ j ∈ t.place.toList, j ≤ t.mask
  size : t.place.size = n
structure Tab (n : Nat) (t : SetTable) : Prop extends TabOk n t where
  room : n * 5 < t.mask * 3
theorem mask_ge {t : SetTable} {n : Nat} (x : Tab n t) : n + 1 ≤ t.mask := by have := x.room; omega
theorem TabOk.fits {t : SetTable} {n : Nat} (x : TabOk n t) (h : n ≤ t.mask) : t.fits n = true := by
  simp only [SetTable.fits, SetTable.fill, x.dum, x.size, Bool.and_eq_true, beq_self_eq_true, true_and, decide_eq_true_eq]
  show n + 0 ≤ t.mask
  omega
theorem Tab.fits {t : SetTable} {n : Nat} (x : Tab n t) : t.fits n = true := x.toTabOk.fits (by have := mask_ge x; omega)
theorem slot_empty {t : SetTable} {n j : Nat} (x : TabOk n t) : t.slot j = .empty ↔ j ∉ t.place.toList := by
  have nd : SetTable.has t.dummies j = false := by rw [x.dum]; rfl
  unfold SetTable.slot
  dsimp only
  rw [nd]
  constructor
  · intro h hm
    obtain ⟨i, hi, e⟩ := List.mem_iff_getElem.mp hm
    rw [Array.length_toList] at hi
    have e' : t.place[i] = j := by simpa using e
    have b : SetTable.below t.place j = i := (below_ok x.rise j).eq ⟨Nat.le_of_lt hi, fun k hk hl => by rw [← e']; exact rise_lt x.rise hl hi, fun k hk hl => by
      by_cases z : i = k
      · subst z; exact Nat.le_of_eq e'.symm
      · rw [← e']; exact Nat.le_of_lt (rise_lt x.rise (show i < k by omega) hk)⟩
    rw [b, Array.getElem?_eq_getElem hi, e', if_pos (by simp)] at h
    cases h
  · intro h
    rw [if_neg (fun z => h ?_)]
    · rfl
    · have z' : t.place[SetTable.below t.place j]? = some j := by simpa using z
      have := Array.mem_of_getElem? z'
      exact Array.mem_def.mp this
theorem slot_not_dummy {t : SetTable} {n j : Nat} (x : TabOk n t) : t.slot j ≠ .dummy := by
  have nd : SetTable.has t.dummies j = false := by rw [x.dum]; rfl
  unfold SetTable.slot
  dsimp only
  rw [nd]
  split
  · intro h; cases h
  · intro h; cases h
theorem runEnd_le {mask i : Nat} (h : i ≤ mask) : SetTable.runEnd mask i ≤ mask := by unfold SetTable.runEnd; split <;> omega
theorem run_short (mask i : Nat) : SetTable.runEnd mask i - i ≤ 9 := by unfold SetTable.runEnd; split <;> omega
theorem leap_eq (mask i p : Nat) : SetTable.leap mask i p = ((i * 5 + 1 + p / 32) % (mask + 1), p / 32) := rfl
theorem probe_go {t : SetTable} {n : Nat} {h : Int} (x : TabOk n t) : ∀ (fuel u : Nat) (p : SetTable.Probe), p.more ≤ 9 → p.j + p.more ≤ t.mask → p.dummy = none → p.more + 2 + 10 * u ≤ fuel → t.slot (lp (t.mask + 1) (u + 1) p.i p.perturb).1 = .empty →
    ∃ j, SetTable.probe.go t (fun _ => h + 1) h fuel p = some (.empty j none) ∧ t.slot j = .empty ∧ j ≤ t.mask
  | 0, u, p, _, _, _, h3, _ => absurd h3 (by omega)
  | fuel + 1, u, p, h1, h2, hd, h3, h4 => by
    unfold SetTable.probe.go
    split
    · rename_i hs
      exact ⟨p.j, by rw [hd], hs, by omega⟩
    · rename_i hs
      exact absurd hs (slot_not_dummy x)
    · rw [if_neg (by simp; omega)]
      unfold SetTable.advance
      split
      · rename_i hm
        exact probe_go x fuel u _ (by dsimp only; omega) (by dsimp only; omega) hd (by dsimp only; omega) h4
      · rename_i hm
        rw [leap_eq]
        dsimp only
        have hi : (p.i * 5 + 1 + p.perturb / 32) % (t.mask + 1) ≤ t.mask := Nat.lt_succ_iff.mp (Nat.mod_lt _ (Nat.succ_pos _))
        cases u with
        | zero =>
          cases fuel with
          | zero => omega
          | succ fuel =>
            unfold SetTable.probe.go
            dsimp only
            have h4' : t.slot ((p.i * 5 + 1 + p.perturb / 32) % (t.mask + 1)) = .empty := h4
            rw [h4']
            exact ⟨_, by rw [hd], h4', hi⟩
        | succ u =>
          refine probe_go x fuel u _ (run_short _ _) ?_ hd ?_ h4
          · dsimp only
            have := runEnd_le hi
            have := runEnd_ge t.mask ((p.i * 5 + 1 + p.perturb / 32) % (t.mask + 1))
            omega
          · dsimp only
            have := run_short t.mask ((p.i * 5 + 1 + p.perturb / 32) % (t.mask + 1))
            omega
theorem len_le : ∀ {l1 l2 : List Nat}, l1.Nodup → (∀ e ∈ l1, e ∈ l2) → l1.length ≤ l2.length
  | [], _, _, _ => Nat.zero_le _
  | a :: l1, l2, nd, h => by
    have nd' := List.nodup_cons.mp nd
    have ha := h a (List.mem_cons_self ..)
    have := len_le (l2 := l2.erase a) nd'.2 fun e he => (List.mem_erase_of_ne (show e ≠ a from fun z => nd'.1 (by rw [← z]; exact he))).mpr (h e (List.mem_cons_of_mem _ he))
    rw [List.length_erase_of_mem ha] at this
    have p : 0 < l2.length := List.length_pos_of_mem ha
    rw [List.length_cons]
    omega
theorem not_all {m : Nat} {l : List Nat} (nd : l.Pairwise (· < ·)) (h : l.length < m) : ∃ e, e < m ∧ e ∉ l := by
  refine Classical.byContradiction fun z => ?_
  have all : ∀ e, e ∈ List.range m → e ∈ l := fun e he => Classical.byContradiction fun q => z ⟨e, List.mem_range.mp he, q⟩
  have := len_le List.nodup_range all
  rw [List.length_range] at this
  omega
theorem freeSlot_ok {t : SetTable} {n : Nat} (x : Tab n t) (h : Int) : ∃ j, t.freeSlot h = some (j, false) ∧ j ∉ t.place.toList ∧ j ≤ t.mask := by
  have hm := mask_ge x
  obtain ⟨e, he, hn⟩ := not_all (m := t.mask + 1) x.rise (by rw [Array.length_toList, x.size]; omega)
  obtain ⟨u, hu, eu⟩ := lp_cover x.good (i := SetTable.bits h % (t.mask + 1)) (p := SetTable.bits h) (e := e) (Nat.mod_lt _ (Nat.succ_pos _)) (bits_lt h) he
  have hi : SetTable.bits h % (t.mask + 1) ≤ t.mask := Nat.lt_succ_iff.mp (Nat.mod_lt _ (Nat.succ_pos _))
  have key : ∃ j, t.probe (fun _ => h + 1) h (t.probeStart h) = some (.empty j none) ∧ t.slot j = .empty ∧ j ≤ t.mask := by
    unfold SetTable.probe
    cases u with
    | zero =>
      have e0 : t.slot (SetTable.bits h % (t.mask + 1)) = .empty := (slot_empty x.toTabOk).mpr (by rw [show SetTable.bits h % (t.mask + 1) = e from eu]; exact hn)
      obtain ⟨f, hf⟩ : ∃ f, 10 * SetTable.turns t.mask = f + 1 := ⟨10 * SetTable.turns t.mask - 1, by unfold SetTable.turns; omega⟩
      rw [hf]
      unfold SetTable.probe.go
      have e0' : t.slot (t.probeStart h).j = .empty := e0
      rw [e0']
      exact ⟨_, rfl, e0', hi⟩
    | succ u =>
      refine probe_go x.toTabOk _ u (t.probeStart h) (run_short _ _) ?_ rfl ?_ ?_
      · have := runEnd_le hi
        have := runEnd_ge t.mask (SetTable.bits h % (t.mask + 1))
        show SetTable.bits h % (t.mask + 1) + (SetTable.runEnd t.mask (SetTable.bits h % (t.mask + 1)) - SetTable.bits h % (t.mask + 1)) ≤ t.mask
        omega
      · have := run_short t.mask (SetTable.bits h % (t.mask + 1))
        show SetTable.runEnd t.mask (SetTable.bits h % (t.mask + 1)) - SetTable.bits h % (t.mask + 1) + 2 + 10 * u ≤ 10 * SetTable.turns t.mask
        unfold SetTable.turns
        omega
      · exact (slot_empty x.toTabOk).mpr (by rw [show (lp (t.mask + 1) (u + 1) (t.probeStart h).i (t.probeStart h).perturb).1 = e from eu]; exact hn)
  obtain ⟨j, h1, h2, h3⟩ := key
  refine ⟨j, ?_, (slot_empty x.toTabOk).mp h2, h3⟩
  unfold SetTable.freeSlot
  rw [h1]
  rfl
theorem rise_insert {p : Array Nat} (r : Rise p) {j : Nat} (h : j ∉ p.toList) : Rise (SetTable.insertAt p (SetTable.below p j) j) := by
  have b := below_ok r j
  show (SetTable.insertAt p (SetTable.below p j) j).toList.Pairwise (· < ·)
  rw [SetTable.toList_insertAt]
  have r1 : (p.toList.take (SetTable.below p j)).Pairwise (· < ·) := r.sublist (List.take_sublist _ _)
  have r2 : (p.toList.drop (SetTable.below p j)).Pairwise (· < ·) := r.sublist (List.drop_sublist _ _)
  have lo : ∀ e ∈ p.toList.take (SetTable.below p j), e < j := fun e he => by
    obtain ⟨i, hi, ei⟩ := List.mem_take_iff_getElem.mp he
    rw [Array.length_toList] at hi
    have := b.lo i (by omega) (by omega)
    rw [← ei]
    simpa using this
  have hi : ∀ e ∈ p.toList.drop (SetTable.below p j), j < e := fun e he => by
    have hm : e ∈ p.toList := List.mem_of_mem_drop he
    obtain ⟨i, hi, ei⟩ := List.mem_drop_iff_getElem.mp he
    rw [Array.length_toList] at hi
    have := b.hi (i + SetTable.below p j) (by omega) (by omega)
    have e1 : j ≤ e := by
      rw [← ei]
      simpa [Nat.add_comm] using this
    exact Nat.lt_of_le_of_ne e1 fun z => h (by rw [z]; exact hm)
  simp only [List.pairwise_append, List.pairwise_cons, List.mem_cons, List.mem_append]
  first
    | exact ⟨r1, ⟨hi, r2⟩, fun a ha c hc => by
        rcases hc with z | z
        · rw [z]; exact lo a ha
        · exact Nat.lt_trans (lo a ha) (hi c z)⟩
    | (refine ⟨⟨r1, ⟨by simp, List.Pairwise.nil⟩, fun a ha c hc => ?_⟩, r2, fun a ha c hc => ?_⟩
       · have z : c = j := by simpa using hc
         rw [z]; exact lo a ha
       · rcases ha with z | z | z
         · exact Nat.lt_trans (lo a z) (hi c hc)
         · rw [z]; exact hi c hc
         · cases z)
theorem new_ok {t : SetTable} {es : Array (Int × Value)} (x : Tab es.size t) (h : Int) (v : Value) : ∃ (es1 : Array (Int × Value)) (t1 : SetTable), layNew t es h v = (es1, t1, false, false) ∧ es1.toList.Perm (es.toList ++ [(h, v)]) ∧ es1.size = es.size + 1 ∧ TabOk es1.size t1 ∧ t1.mask = t.mask ∧ t1.led = t.led := by
  obtain ⟨j, h1, h2, h3⟩ := freeSlot_ok x h
  have hm := mask_ge x
  have perm := SetTable.insertAt_perm es (SetTable.below t.place j) (h, v)
  rw [Array.toList_push] at perm
  have size : (SetTable.insertAt es (SetTable.below t.place j) (h, v)).size = es.size + 1 := by
    rw [← Array.length_toList, perm.length_eq, List.length_append, Array.length_toList]
    rfl
  have p2 := SetTable.insertAt_perm t.place (SetTable.below t.place j) j
  rw [Array.toList_push] at p2
  have size2 : (SetTable.insertAt t.place (SetTable.below t.place j) j).size = es.size + 1 := by
    rw [← Array.length_toList, p2.length_eq, List.length_append, Array.length_toList, x.size]
    rfl
  have nd : SetTable.has t.dummies j = false := by rw [x.dum]; rfl
  have ok : TabOk (es.size + 1) { t with place := SetTable.insertAt t.place (SetTable.below t.place j) j } :=
    ⟨x.good, x.dum, x.plain, rise_insert x.rise h2, fun e he => by
      rcases List.mem_append.mp (p2.mem_iff.mp he) with z | z
      · exact x.top e z
      · rw [List.mem_singleton.mp z]; exact h3, size2⟩
  refine ⟨_, { t with place := SetTable.insertAt t.place (SetTable.below t.place j) j }, ?_, perm, size, by rw [size]; exact ok, rfl, rfl⟩
  have f : ({ t with place := SetTable.insertAt t.place (SetTable.below t.place j) j } : SetTable).fits (SetTable.insertAt es (SetTable.below t.place j) (h, v)).size = true := by
    rw [size]
    exact ok.fits (by omega)
  unfold layNew
  rw [h1]
  simp only [SetTable.put, nd, Bool.false_eq_true, if_false, SetTable.orStandIn, f, if_true, Bool.not_true]
theorem laid_rise {mask finger moves : Nat} {led plain : Bool} {hs : Array Int} {t : SetTable} {order : Array Nat} (h : SetTable.laid mask finger moves led plain hs = some (t, order)) : Rise t.place ∧ (∀ j ∈ t.place.toList, j ≤ mask) := by
  unfold SetTable.laid at h
  cases hl : SetTable.layClean mask hs with
  | none => rw [hl] at h; cases h
  | some owner =>
    rw [hl] at h
    cases h
    have sub : ∀ (l : List Nat), l.Pairwise (· < ·) → (((l.filterMap fun j => (owner.getD j none).map fun x => (j, x)).map (·.1)).Pairwise (· < ·)) ∧ ∀ j ∈ ((l.filterMap fun j => (owner.getD j none).map fun x => (j, x)).map (·.1)), j ∈ l := by
      intro l hl
      have m : ∀ j ∈ ((l.filterMap fun j => (owner.getD j none).map fun x => (j, x)).map (·.1)), j ∈ l := fun j hj => by
        obtain ⟨q, hq, rfl⟩ := List.mem_map.mp hj
        obtain ⟨k, hk, ek⟩ := List.mem_filterMap.mp hq
        cases hg : owner.getD k none with
        | none => rw [hg] at ek; cases ek
        | some v => rw [hg] at ek; cases ek; exact hk
      refine ⟨?_, m⟩
      clear m
      induction l with
      | nil => exact List.Pairwise.nil
      | cons a l ih =>
        have hl' := List.pairwise_cons.mp hl
        have ih' := ih hl'.2
        rw [List.filterMap_cons]
        cases hg : owner.getD a none with
        | none => simpa [hg] using ih'
        | some v =>
          simp only [Option.map_some, List.map_cons, List.pairwise_cons]
          refine ⟨fun j hj => ?_, ih'⟩
          obtain ⟨q, hq, rfl⟩ := List.mem_map.mp hj
          obtain ⟨k, hk, ek⟩ := List.mem_filterMap.mp hq
          cases hg2 : owner.getD k none with
          | none => rw [hg2] at ek; cases ek
          | some v2 => rw [hg2] at ek; cases ek; exact hl'.1 k hk
    obtain ⟨s1, s2⟩ := sub (List.range (mask + 1)) List.pairwise_lt_range
    exact ⟨s1, fun j hj => Nat.lt_succ_iff.mp (List.mem_range.mp (s2 j hj))⟩
theorem laid_tab {mask finger moves : Nat} {led : Bool} (g : goodM (mask + 1)) (hs : Array Int) (hl : hs.size * 5 < mask * 3) :
    ∃ (t : SetTable) (order : Array Nat), SetTable.laid mask finger moves led true hs = some (t, order) ∧ order.toList.Perm (List.range hs.size) ∧ Tab hs.size t ∧ t.led = led := by
  obtain ⟨t, order, h1, h2, h3, h4⟩ := laid_ok (finger := finger) (moves := moves) (led := led) (plain := true) g hs (by omega)
  obtain ⟨l1, l2, l3, l4⟩ := laid_led h1
  obtain ⟨r1, r2⟩ := laid_rise h1
  have sz : t.place.size = hs.size := by
    have := h3
    simp only [SetTable.fits, Bool.and_eq_true, beq_iff_eq] at this
    exact this.1
  exact ⟨t, order, h1, h2, ⟨⟨by rw [l2]; exact g, l4, l3, r1, by rw [l2]; exact r2, sz⟩, by rw [l2]; exact hl⟩, l1⟩
theorem relay_ok {t : SetTable} {es : Array (Int × Value)} {wanted : Nat} (hp : t.plain = true) (hw : wanted < 256) (h2 : es.size * 2 ≤ wanted) : ∃ (t' : SetTable) (order : Array Nat), t.relaid (es.map (·.1)) wanted = some (t', order) ∧ order.toList.Perm (List.range es.size) ∧ Tab es.size t' ∧ t'.led = t.led := by
  obtain ⟨m, e1, g, hm⟩ := sizeAbove_good hw
  have sz : (es.map (·.1)).size = es.size := Array.size_map ..
  have m7 : 7 ≤ m := by
    have : 8 ≤ SetTable.sizeAbove wanted := by
      have key : ∀ k : Fin 256, decide (8 ≤ SetTable.sizeAbove k.1) = true := by decide +kernel
      exact of_decide_eq_true (key ⟨wanted, hw⟩)
    omega
  obtain ⟨t', order, q1, q2, q3, q4⟩ := laid_tab (mask := m) (finger := t.finger) (moves := t.movedTo m) (led := t.led) g (es.map (·.1)) (by rw [sz]; omega)
  rw [sz] at q2 q3
  refine ⟨t', order, ?_, q2, q3, q4⟩
  unfold SetTable.relaid
  rw [e1, Nat.add_sub_cancel, hp]
  exact q1
theorem relayAll_ok {t : SetTable} {es : Array (Int × Value)} (hp : t.plain = true) (hn : es.size < 64) : ∃ (es' : Array (Int × Value)) (t' : SetTable), relayAll t es (SetTable.grown es.size) = (es', t', false) ∧ es'.toList.Perm es.toList ∧ es'.size = es.size ∧ Tab es'.size t' ∧ t'.led = t.led := by
  have gr : SetTable.grown es.size = es.size * 4 := by unfold SetTable.grown; rw [if_neg (by omega)]
  obtain ⟨t', order, q1, q2, q3, q4⟩ := relay_ok (t := t) (es := es) (wanted := es.size * 4) hp (by omega) (by omega)
  obtain ⟨p1, p2⟩ := picked es q2
  refine ⟨order.filterMap (es[·]?), t', ?_, p1, p2, by rw [p2]; exact q3, q4⟩
  unfold relayAll
  rw [gr, q1]
  dsimp only
  have c : coversAll order es.size = true := by
    unfold coversAll
    exact List.isPerm_iff.mpr q2
  have f : t'.fits (order.filterMap (es[·]?)).size = true := by rw [p2]; exact q3.fits
  rw [c, f]
  rfl
end NdS
namespace NdS
open PySem
abbrev bt (w : World) : Bool := w.params.followText "set-order"
def keyOf : Int × Value → Int
  | (_, .int k _) => k
  | _ => 0
def isEnt (e : Int × Value) : Prop := ∃ k tk, e = (hashInt k, Value.int k tk)
abbrev keys (es : Array (Int × Value)) : List Int := es.toList.map keyOf
abbrev setObj (es : Array (Int × Value)) (ep : Nat) (t : SetTable) : Obj := { cls := .type "set", dict := none, data := .set es ep t }
structure SetS (w : World) (h : Heap) (a : Addr) (es : Array (Int × Value)) (ep : Nat) (t : SetTable) : Prop where
  obj : h.get? a = some (setObj es ep t)
  ent : ∀ e ∈ es.toList, isEnt e
  nd : (keys es).Nodup
  tab : Tab es.size t
  led : bt w = false → t.led = true
  few : es.size < 64
theorem SetS.keep {w : World} {h h' : Heap} {a : Addr} {es : Array (Int × Value)} {ep : Nat} {t : SetTable} (S : SetS w h a es ep t) (k : ∀ o, h.get? a = some o → h'.get? a = some o) : SetS w h' a es ep t :=
  ⟨k _ S.obj, S.ent, S.nd, S.tab, S.led, S.few⟩
def ins (k : Int) (l : List Int) : List Int := if k ∈ l then l else k :: l
theorem elems {prog : Program} {w : World} {h : Heap} {a : Addr} {es : Array (Int × Value)} {ep : Nat} {t : SetTable} (S : SetS w h a es ep t) : ElemsOf (intKind prog w) es.toList := fun e he => by
  obtain ⟨k, tk, rfl⟩ := S.ent e he
  exact ⟨⟨k, intKind_is _ _ _ _, rfl⟩, rfl⟩
theorem is_iff {prog : Program} {w : World} {e : Int × Value} (h : isEnt e) (k : Int) : (intKind prog w).is k e.2 = true ↔ keyOf e = k := by
  obtain ⟨k', tk, rfl⟩ := h
  show Value.isInt k (.int k' tk) = true ↔ k' = k
  simp [Value.isInt]
  try exact eq_comm
theorem small {n : Nat} (h : n < 64) : n ≤ sizeLine := by rw [sizeLine_eq]; omega
theorem put_obj {es : Array (Int × Value)} {ep : Nat} {t : SetTable} (es' : Array (Int × Value)) (t' : SetTable) : Obj.putSet es' t' (setObj es ep t) = setObj es' (ep + 1) t' := putSet_of es' t' rfl
theorem put_get {h : Heap} {a : Addr} {es : Array (Int × Value)} {ep : Nat} {t : SetTable} (ho : h.get? a = some (setObj es ep t)) (es' : Array (Int × Value)) (t' : SetTable) : (h.update a (Obj.putSet es' t')).get? a = some (setObj es' (ep + 1) t') := by
  have := Heap.get?_update_self (Obj.putSet es' t') ho (by rw [put_obj]; rfl)
  rw [put_obj] at this
  exact this
section
variable {prog : Program} {w : World} {A : Around} {E : Value → Shared → Prop} {s : Shared}
theorem state_ok {a : Addr} {es : Array (Int × Value)} {ep : Nat} {t : SetTable} {Q : (Array (Int × Value) × Nat × SetTable) → Shared → Prop} (S : SetS w s.heap a es ep t) (h : Q (es, ep, t) s) : wpAny (model prog w) A (setState a) Q E s :=
  wpAny_setState_of S.obj rfl S.tab.fits h
theorem store_set {a : Addr} {es es' : Array (Int × Value)} {ep : Nat} {t t' : SetTable} {Q : Unit → Shared → Prop} (S : SetS w s.heap a es ep t) (he : ∀ e ∈ es'.toList, isEnt e) (nd : (keys es').Nodup) (tab : Tab es'.size t') (led : bt w = false → t'.led = true) (few : es'.size < 64)
    (h : ∀ h', Heap.SameBut a s.heap h' → SetS w h' a es' (ep + 1) t' → Q () { s with heap := h' }) : wpAny (model prog w) A (storeSet a es' t') Q E s :=
  wpAny_storeSet_of S.obj rfl (h _ (Heap.SameBut.update ..) ⟨put_get S.obj es' t', he, nd, tab, led, few⟩) (small few)
theorem find_none {es : Array (Int × Value)} {k : Int} (he : ∀ e ∈ es.toList, isEnt e) : es.toList.findIdx? (fun e => (intKind prog w).is k e.2) = none ↔ k ∉ keys es := by
  rw [List.findIdx?_eq_none_iff]
  constructor
  · intro h hm
    obtain ⟨e, hm', rfl⟩ := List.mem_map.mp hm
    have := h e hm'
    rw [(is_iff (he e hm') _).mpr rfl] at this
    cases this
  · intro h e hm
    cases q : (intKind prog w).is k e.2 with
    | false => rfl
    | true => exact absurd (List.mem_map.mpr ⟨e, hm, (is_iff (he e hm) k).mp q⟩) h
theorem add_ok {a : Addr} {es : Array (Int × Value)} {ep : Nat} {t : SetTable} {k : Int} {tk : Tok} {Q : Bool → Shared → Prop} (S : SetS w s.heap a es ep t) (hn : es.size < 63)
    (h : ∀ b es' ep' t' h', Heap.SameBut a s.heap h' → SetS w h' a es' ep' t' → (keys es').Perm (ins k (keys es)) → Q b { s with heap := h' }) : wpAny (model prog w) A (setAddHashed a (.int k tk) (hashInt k)) Q E s := by
  unfold setAddHashed setAddHashedIn
  refine wpAny_holding (wpAny_bind (state_ok S ?_))
  dsimp only
  rw [byScan_of (knd := intKind prog w) (x := .int k tk) rfl (Nat.lt_trans S.few (by decide)) (elems S), if_pos rfl]
  unfold setAddByScan
  refine wpAny_bind (wpAny_bind (wpAny_rule (wpAny_bind ?_)))
  refine wpAny_setScan_of (knd := intKind prog w) (k := k) (intKind_is _ _ _ _) S.obj rfl S.tab.fits (elems S) ?_
  cases hr : es.toList.findIdx? (fun e => (intKind prog w).is k e.2) with
  | some j =>
    dsimp only
    have hk : k ∈ keys es := Classical.byContradiction fun z => by
      rw [(find_none (prog := prog) (w := w) S.ent).mpr z] at hr
      cases hr
    refine wpAny_pure (wpAny_pure ?_)
    have := h false es ep t s.heap (Heap.SameBut.refl a s.heap) S (by unfold ins; rw [if_pos hk])
    exact this
  | none =>
    dsimp only
    have hk : k ∉ keys es := (find_none (prog := prog) (w := w) S.ent).mp hr
    obtain ⟨es1, t1, e1, p1, z1, ok1, m1, l1⟩ := new_ok S.tab (hashInt k) (.int k tk)
    rw [e1]
    dsimp only
    have ent1 : ∀ e ∈ es1.toList, isEnt e := fun e he => by
      rcases List.mem_append.mp (p1.mem_iff.mp he) with z | z
      · exact S.ent e z
      · rw [List.mem_singleton.mp z]; exact ⟨k, tk, rfl⟩
    have pk1 : (keys es1).Perm (k :: keys es) := by
      have := p1.map keyOf
      rw [List.map_append] at this
      exact this.trans List.perm_append_comm
    have nd1 : (keys es1).Nodup := pk1.nodup_iff.mpr (List.nodup_cons.mpr ⟨hk, S.nd⟩)
    have few1 : es1.size < 64 := by omega
    have led1 : bt w = false → t1.led = true := fun z => by rw [l1]; exact S.led z
    refine wpAny_bind (m := (pure () : Sem Unit)) (wpAny_pure ?_)
    rw [ok1.plain, if_pos rfl]
    refine wpAny_bind (m := hashByValue 8 (.int k tk)) (wpAny_pure ?_)
    simp only [if_true]
    by_cases tf : t1.tooFull = true
    · obtain ⟨es2, t2, e2, p2, z2, tab2, l2⟩ := relayAll_ok (es := es1) ok1.plain few1
      have ent2 : ∀ e ∈ es2.toList, isEnt e := fun e he => ent1 e (p2.mem_iff.mp he)
      have pk2 : (keys es2).Perm (k :: keys es) := (p2.map keyOf).trans pk1
      refine wpAny_bind (wpAny_storeSet_of S.obj rfl ?_ (small few1))
      rw [tf, if_pos (by decide), e2]
      dsimp only
      refine wpAny_bind (m := (pure () : Sem Unit)) (wpAny_pure ?_)
      have o1 := put_get S.obj es1 t1
      refine wpAny_bind (wpAny_storeSet_of o1 rfl (wpAny_pure ?_) (small (by omega)))
      dsimp only
      refine wpAny_pure (h true es2 (ep + 1 + 1) t2 _ ((Heap.SameBut.update s.heap a _).trans (Heap.SameBut.update _ a _)) ⟨put_get o1 es2 t2, ent2, pk2.nodup_iff.mpr (List.nodup_cons.mpr ⟨hk, S.nd⟩), tab2, fun z => by rw [l2, l1]; exact S.led z, by omega⟩ ?_)
      unfold ins
      rw [if_neg hk]
      exact pk2
    · have room : es1.size * 5 < t1.mask * 3 := by
        have : ¬ (t1.fill * 5 ≥ t1.mask * 3) := fun z => tf (by unfold SetTable.tooFull; exact decide_eq_true z)
        have e : t1.fill = es1.size := by
          unfold SetTable.fill
          rw [ok1.dum, ok1.size]
          rfl
        omega
      refine wpAny_bind (wpAny_storeSet_of S.obj rfl ?_ (small few1))
      rw [Bool.not_eq_true] at tf
      rw [tf]
      simp only [Bool.and_false, Bool.false_eq_true, if_false]
      refine wpAny_pure ?_
      dsimp only
      refine wpAny_pure (h true es1 (ep + 1) t1 _ (Heap.SameBut.update s.heap a _) ⟨put_get S.obj es1 t1, ent1, nd1, ⟨ok1, room⟩, led1, few1⟩ ?_)
      unfold ins
      rw [if_neg hk]
      exact pk1
end
end NdS
namespace NdS
open PySem
theorem erase_perm {α : Type} : ∀ {l : List α} {i : Nat} (h : i < l.length), (l[i] :: l.eraseIdx i).Perm l
  | [], _, h => absurd h (Nat.not_lt_zero _)
  | a :: l, 0, h => List.Perm.refl _
  | a :: l, i + 1, h => by
    have := erase_perm (l := l) (i := i) (by simpa using h)
    exact (List.Perm.swap a _ _).trans (List.Perm.cons a this)
theorem pick_go {α : Type} (next : Nat → Nat) : ∀ (fuel k : Nat) (left : List α) (out : Array α), left.length = fuel → (pickOrder.go next fuel k left out).toList.Perm (out.toList ++ left)
  | 0, k, left, out, h => by
    unfold pickOrder.go
    have : left = [] := List.eq_nil_of_length_eq_zero h
    subst this
    simp
  | fuel + 1, k, left, out, h => by
    unfold pickOrder.go
    have hi : next k % left.length < left.length := Nat.mod_lt _ (by omega)
    rw [List.getElem?_eq_getElem hi]
    dsimp only
    refine (pick_go next fuel (k + 1) _ _ (by rw [List.length_eraseIdx, if_pos hi]; omega)).trans ?_
    rw [Array.toList_push, List.append_assoc]
    exact List.Perm.append_left _ (erase_perm hi)
theorem pick_perm {α : Type} (next : Nat → Nat) (xs : Array α) : (pickOrder next xs).toList.Perm xs.toList := by
  unfold pickOrder
  simpa using pick_go next xs.size 0 xs.toList #[] (by simp)
section
variable {prog : Program} {w : World} {A : Around} {E : Value → Shared → Prop} {s : Shared}
theorem byText_ok {Q : Bool → Shared → Prop} (h : Q (bt w) s) : wpAny (model prog w) A setsByText Q E s := by
  unfold setsByText
  exact wpAny_bind (wpAny_askSetting (wpAny_pure h))
theorem walk_ok {a : Addr} {es : Array (Int × Value)} {ep : Nat} {t : SetTable} {Q : Array (Int × Value) → Shared → Prop} (S : SetS w s.heap a es ep t) (h : Q (if bt w then pickOrder (w.params.setOrder a ep) es else es) s) : wpAny (model prog w) A (setWalk a) Q E s := by
  unfold setWalk
  refine wpAny_bind (state_ok S ?_)
  dsimp only
  refine wpAny_bind (byText_ok ?_)
  cases hb : bt w with
  | true =>
    rw [hb] at h
    rw [if_pos rfl] at h ⊢
    exact wpAny_bind (wpAny_askSetting (wpAny_pure h))
  | false =>
    have hl := S.led hb
    have hp := S.tab.plain
    rw [hb] at h
    obtain ⟨mask, place, dummies, finger, led, moves, plain⟩ := t
    have hl' : led = true := hl
    have hp' : plain = true := hp
    subst hl' hp'
    exact wpAny_bind (m := (pure () : Sem Unit)) (wpAny_pure (wpAny_pure h))
theorem walk_perm {a : Addr} {es : Array (Int × Value)} {ep : Nat} : (if bt w then pickOrder (w.params.setOrder a ep) es else es).toList.Perm es.toList := by
  cases bt w with
  | true => exact pick_perm _ _
  | false => exact List.Perm.refl _
theorem unseen_ok {a : Addr} {others : List Addr} {filled : Option Addr} {es : Array (Int × Value)} {ep : Nat} {t : SetTable} {Q : Array (Int × Value) → Shared → Prop} (S : SetS w s.heap a es ep t) (h : Q (if bt w then pickOrder (w.params.setOrder a ep) es else es) s) :
    wpAny (model prog w) A (setWalkUnseen a others filled) Q E s := by
  unfold setWalkUnseen
  refine wpAny_bind (state_ok S ?_)
  dsimp only
  refine wpAny_bind (byText_ok ?_)
  have c : (bt w || (t.led && t.plain) || decide (es.size ≤ 1)) = true := by
    cases hb : bt w with
    | true => rfl
    | false => rw [S.led hb, S.tab.plain]; rfl
  rw [if_pos c]
  exact walk_ok S h
theorem relay_set {a : Addr} {es : Array (Int × Value)} {ep : Nat} {t : SetTable} {wanted : Nat} {Q : Unit → Shared → Prop} (S : SetS w s.heap a es ep t) (hw : wanted < 256) (h2 : es.size * 2 ≤ wanted)
    (h : ∀ es' t' h', Heap.SameBut a s.heap h' → SetS w h' a es' (ep + 1) t' → (keys es').Perm (keys es) → wanted ≤ t'.mask → 7 ≤ t'.mask → Q () { s with heap := h' }) : wpAny (model prog w) A (setRelay a wanted) Q E s := by
  obtain ⟨t', order, q1, q2, q3, q4⟩ := relay_ok (es := es) S.tab.plain hw h2
  obtain ⟨p1, p2⟩ := picked es q2
  obtain ⟨m, e1, g, hm⟩ := sizeAbove_good hw
  have mk : t'.mask = m := by
    unfold SetTable.relaid at q1
    rw [(laid_led q1).2.1, e1]
    rfl
  have m7 : 7 ≤ t'.mask := by
    have : 8 ≤ SetTable.sizeAbove wanted := by
      have key : ∀ k : Fin 256, decide (8 ≤ SetTable.sizeAbove k.1) = true := by decide +kernel
      exact of_decide_eq_true (key ⟨wanted, hw⟩)
    omega
  have sz : SetTable.sizeAbove wanted ≤ 256 := by
    have key : ∀ k : Fin 256, decide (SetTable.sizeAbove k.1 ≤ 256) = true := by decide +kernel
    exact of_decide_eq_true (key ⟨wanted, hw⟩)
  unfold setRelay
  refine wpAny_bind (state_ok S ?_)
  dsimp only
  rw [if_neg (by rw [sizeLine_eq]; omega), q1]
  refine wpAny_bind ?_
  show wpAny (model prog w) A (do
    if (order.filterMap (es[·]?)).size != es.size then unsupported "internal:set-table-lost-an-element"
    pure (order.filterMap (es[·]?), t')) _ _ _
  rw [if_neg (by rw [p2]; simp)]
  refine wpAny_pure ?_
  dsimp only
  refine store_set S (fun e he => S.ent e (p1.mem_iff.mp he)) ((p1.map keyOf).nodup_iff.mpr S.nd) (by rw [p2]; exact q3) (fun z => by rw [q4]; exact S.led z) (by rw [p2]; exact S.few) fun h' sb S' => ?_
  exact h _ _ h' sb S' (p1.map keyOf) (by omega) m7
theorem keys_size {es es' : Array (Int × Value)} (p : (keys es').Perm (keys es)) : es'.size = es.size := by
  have := p.length_eq
  rw [List.length_map, List.length_map, Array.length_toList, Array.length_toList] at this
  exact this
theorem room_ok {a : Addr} {es : Array (Int × Value)} {ep more : Nat} {t : SetTable} {Q : Unit → Shared → Prop} (S : SetS w s.heap a es ep t) (hm : es.size + more < 128)
    (h : ∀ es' ep' t' h', Heap.SameBut a s.heap h' → SetS w h' a es' ep' t' → (keys es').Perm (keys es) → (es.size + more) * 5 < t'.mask * 3 → Q () { s with heap := h' }) : wpAny (model prog w) A (setRoomFor a more) Q E s := by
  have fl : t.fill = es.size := by
    unfold SetTable.fill
    rw [S.tab.dum, S.tab.size]
    rfl
  unfold setRoomFor
  refine wpAny_bind (state_ok S ?_)
  dsimp only
  unfold SetTable.roomFor
  rw [fl, S.tab.size]
  by_cases c : (es.size + more) * 5 ≥ t.mask * 3
  · rw [if_pos c]
    dsimp only
    refine relay_set S (by omega) (by omega) fun es' t' h' sb S' p m1 m7 => h es' _ t' h' sb S' p ?_
    omega
  · rw [if_neg c]
    dsimp only
    exact wpAny_pure (h es ep t s.heap (Heap.SameBut.refl _ _) S (List.Perm.refl _) (by omega))
end
def Among (U : List Int) (l : List Int) : Prop := ∀ x ∈ l, x ∈ U
theorem len_leI : ∀ {l1 l2 : List Int}, l1.Nodup → (∀ e ∈ l1, e ∈ l2) → l1.length ≤ l2.length
  | [], _, _, _ => Nat.zero_le _
  | a :: l1, l2, nd, h => by
    have nd' := List.nodup_cons.mp nd
    have ha := h a (List.mem_cons_self ..)
    have := len_leI (l2 := l2.erase a) nd'.2 fun e he => (List.mem_erase_of_ne (show e ≠ a from fun z => nd'.1 (by rw [← z]; exact he))).mpr (h e (List.mem_cons_of_mem _ he))
    rw [List.length_erase_of_mem ha] at this
    have p : 0 < l2.length := List.length_pos_of_mem ha
    rw [List.length_cons]
    omega
theorem Among.size {U : List Int} {es : Array (Int × Value)} (h : Among U (keys es)) (nd : (keys es).Nodup) : es.size ≤ U.length := by
  have := len_leI nd h
  rw [List.length_map, Array.length_toList] at this
  exact this
theorem mem_ins {x k : Int} {l : List Int} : x ∈ ins k l ↔ x = k ∨ x ∈ l := by
  unfold ins
  split
  · rename_i h
    constructor
    · exact .inr
    · rintro (z | z)
      · rw [z]; exact h
      · exact z
  · rw [List.mem_cons]
section
variable {prog : Program} {w : World} {A : Around} {E : Value → Shared → Prop}
theorem merge_loop {U : List Int} (hU : U.length ≤ 62) {a o : Addr} (ao : a ≠ o) {eo : Array (Int × Value)} {epo : Nat} {to : SetTable} {each : Sem Unit}
    (hE : ∀ (s : Shared) (Q : Unit → Shared → Prop), SetS w s.heap o eo epo to → Q () s → wpAny (model prog w) A each Q E s) :
    ∀ (l : List (Int × Value)) (s : Shared) (es : Array (Int × Value)) (ep : Nat) (t : SetTable) (Q : Unit → Shared → Prop), (∀ e ∈ l, isEnt e) → Among U (l.map keyOf) → Among U (keys es) → SetS w s.heap a es ep t → SetS w s.heap o eo epo to →
      (∀ es' ep' t' h', Heap.SameBut a s.heap h' → SetS w h' a es' ep' t' → (∀ x, x ∈ keys es' ↔ x ∈ keys es ∨ x ∈ l.map keyOf) → Q () { s with heap := h' }) →
      wpAny (model prog w) A (forIn l PUnit.unit fun (x : Int × Value) _ => do
        let _ ← holding [x.2] (setAddHashed a x.2 x.1)
        each
        if (← setState o).2.1 != epo then unsupported "set.changed-during-merge"
        pure (ForInStep.yield PUnit.unit)) Q E s
  | [], s, es, ep, t, Q, _, _, _, S, _, h => by
    rw [List.forIn_nil]
    exact wpAny_pure (h es ep t s.heap (Heap.SameBut.refl _ _) S (by simp))
  | e :: l, s, es, ep, t, Q, he, hl, hk, S, So, h => by
    obtain ⟨k, tk, rfl⟩ := he e (List.mem_cons_self ..)
    rw [List.forIn_cons]
    have n1 := hk.size S.nd
    refine wpAny_bind (wpAny_bind (wpAny_holding (add_ok S (by omega) fun b es1 ep1 t1 h1 sb1 S1 p1 => ?_)))
    have So1 : SetS w h1 o eo epo to := So.keep fun ob q => (sb1.2 o (Ne.symm ao)).trans q
    refine wpAny_bind (hE { s with heap := h1 } _ So1 ?_)
    refine wpAny_bind (state_ok (s := { s with heap := h1 }) So1 ?_)
    dsimp only
    rw [if_neg (by simp)]
    refine wpAny_pure ?_
    have m1 : ∀ x, x ∈ keys es1 ↔ x = k ∨ x ∈ keys es := fun x => by rw [p1.mem_iff, mem_ins]
    have hk1 : Among U (keys es1) := fun x hx => by
      rcases (m1 x).mp hx with z | z
      · rw [z]; exact hl k (List.mem_cons_self ..)
      · exact hk x z
    refine merge_loop hU ao hE l { s with heap := h1 } es1 ep1 t1 Q (fun e hm => he e (List.mem_cons_of_mem _ hm)) (fun x hx => hl x (List.mem_cons_of_mem _ hx)) hk1 S1 So1 fun es2 ep2 t2 h2 sb2 S2 m2 => ?_
    refine h es2 ep2 t2 h2 (sb1.trans sb2) S2 fun x => ?_
    rw [m2, m1, List.map_cons, List.mem_cons]
    show (x = k ∨ x ∈ keys es) ∨ x ∈ l.map keyOf ↔ x ∈ keys es ∨ x = k ∨ x ∈ l.map keyOf
    constructor
    · rintro ((z | z) | z)
      · exact .inr (.inl z)
      · exact .inl z
      · exact .inr (.inr z)
    · rintro (z | z | z)
      · exact .inl (.inr z)
      · exact .inl (.inl z)
      · exact .inr z
end
end NdS
namespace NdS
open PySem
section
variable {prog : Program} {w : World} {A : Around} {E : Value → Shared → Prop} {s : Shared}
theorem merge_ok {U : List Int} (hU : U.length ≤ 62) {a o : Addr} (ao : a ≠ o) {es eo : Array (Int × Value)} {ep epo : Nat} {t to : SetTable} {each : Sem Unit} {Q : Unit → Shared → Prop}
    (hE : ∀ (s : Shared) (Q : Unit → Shared → Prop), SetS w s.heap o eo epo to → Q () s → wpAny (model prog w) A each Q E s) (S : SetS w s.heap a es ep t) (So : SetS w s.heap o eo epo to) (hk : Among U (keys es)) (ho : Among U (keys eo))
    (h : ∀ es' ep' t' h', Heap.SameBut a s.heap h' → SetS w h' a es' ep' t' → (∀ x, x ∈ keys es' ↔ x ∈ keys es ∨ x ∈ keys eo) → Q () { s with heap := h' }) : wpAny (model prog w) A (setMerge a o each) Q E s := by
  have n1 := hk.size S.nd
  have n2 := ho.size So.nd
  unfold setMerge
  rw [if_neg (by simpa using ao)]
  refine wpAny_bind (state_ok So ?_)
  dsimp only
  by_cases em : eo.isEmpty = true
  · rw [if_pos em]
    have : eo = #[] := by simpa using em
    refine wpAny_pure (h es ep t s.heap (Heap.SameBut.refl _ _) S fun x => ?_)
    rw [this]
    simp
  rw [if_neg em]
  refine wpAny_bind (room_ok S (by omega) fun es1 ep1 t1 h1 sb1 S1 p1 r1 => ?_)
  have So1 : SetS w h1 o eo epo to := So.keep fun ob q => (sb1.2 o (Ne.symm ao)).trans q
  refine wpAny_bind (state_ok (s := { s with heap := h1 }) S1 ?_)
  dsimp only
  have z1 := keys_size p1
  have fl : t1.fill = es.size := by
    unfold SetTable.fill
    rw [S1.tab.dum, S1.tab.size]
    exact z1
  have empty : t1.fill = 0 → ∀ x, x ∉ keys es := fun z x hx => by
    have : es.size = 0 := by omega
    have e : es = #[] := Array.eq_empty_of_size_eq_zero this
    rw [e] at hx
    simp at hx
  cases hr : t1.road to with
  | slotForSlot =>
    unfold SetTable.road at hr
    split at hr
    · cases hr
    · rename_i hf
      have hf' : t1.fill = 0 := by simpa using hf
      split at hr
      · rename_i hm
        simp only [Bool.and_eq_true, beq_iff_eq] at hm
        refine store_set S1 So1.ent So1.nd (t' := { to with finger := t1.finger, led := t1.led && to.led, moves := t1.moves, plain := t1.plain && to.plain }) ⟨⟨So1.tab.good, So1.tab.dum, by show (t1.plain && to.plain) = true; rw [S1.tab.plain, So1.tab.plain]; rfl, So1.tab.rise, So1.tab.top, So1.tab.size⟩, So1.tab.room⟩
          (fun z => by show (t1.led && to.led) = true; rw [S1.led z, So1.led z]; rfl) So1.few fun h2 sb2 S2 => ?_
        refine h eo _ _ h2 (sb1.trans sb2) S2 fun x => ⟨.inr, fun z => z.elim (fun q => absurd q (empty hf' x)) id⟩
      · cases hr
  | clean =>
    have hf' : t1.fill = 0 := by
      unfold SetTable.road at hr
      split at hr
      · cases hr
      · rename_i hf
        simpa using hf
    have sz : (eo.map (·.1)).size = eo.size := Array.size_map ..
    obtain ⟨t2, order, q1, q2, q3, q4⟩ := laid_tab (mask := t1.mask) (finger := t1.finger) (moves := t1.moves) (led := t1.led && to.led) S1.tab.good (eo.map (·.1)) (by rw [sz]; omega)
    rw [sz] at q2 q3
    obtain ⟨pk, ps⟩ := picked eo q2
    dsimp only
    have pl : (t1.plain && to.plain) = true := by rw [S1.tab.plain, So1.tab.plain]; rfl
    rw [pl, q1]
    refine wpAny_bind ?_
    show wpAny (model prog w) A (do
      if (order.filterMap (eo[·]?)).size != eo.size then unsupported "internal:set-table-lost-an-element"
      pure (order.filterMap (eo[·]?), t2)) _ _ _
    rw [if_neg (by rw [ps]; simp)]
    refine wpAny_pure ?_
    dsimp only
    refine store_set S1 (fun e he => So1.ent e (pk.mem_iff.mp he)) ((pk.map keyOf).nodup_iff.mpr So1.nd) (by rw [ps]; exact q3) (fun z => by rw [q4, S1.led z, So1.led z]; rfl) (by rw [ps]; exact So1.few) fun h2 sb2 S2 => ?_
    refine h _ _ _ h2 (sb1.trans sb2) S2 fun x => ?_
    rw [(pk.map keyOf).mem_iff]
    exact ⟨.inr, fun z => z.elim (fun q => absurd q (empty hf' x)) id⟩
  | oneByOne =>
    dsimp only
    refine wpAny_bind (unseen_ok (s := { s with heap := h1 }) So1 ?_)
    have wp := walk_perm (w := w) (a := o) (es := eo) (ep := epo)
    generalize (if bt w then pickOrder (w.params.setOrder o epo) eo else eo) = arr at wp
    rw [← Array.forIn_toList]
    refine wpAny_bind (merge_loop hU ao hE arr.toList { s with heap := h1 } es1 ep1 t1 _ (fun e he => So1.ent e (wp.mem_iff.mp he)) (fun x hx => ho x ((wp.map keyOf).mem_iff.mp hx)) (fun x hx => hk x (p1.mem_iff.mp hx)) S1 So1 fun es2 ep2 t2 h2 sb2 S2 m2 => wpAny_pure ?_)
    refine h es2 ep2 t2 h2 (sb1.trans sb2) S2 fun x => ?_
    rw [m2, p1.mem_iff, (wp.map keyOf).mem_iff]
end
end NdS
namespace NdS
open PySem
theorem entry_set_or : entryFor table "set.__or__" = some Builtin.«frozenset.__or__» :=
  entryFor_alias (id' := "frozenset.__or__") (by kernel_rfl) (by first | rfl | decide +kernel) (by decide +kernel) (by kernel_rfl)
theorem sub_set_set : isSubtype (.type "set") (.type "set") = pure true := by rw [isSubtype_type]; kernel_rfl
section
variable {prog : Program} {w : World} {A : Around} {E : Value → Shared → Prop} {s : Shared}
theorem SetS.ty {a : Addr} {es : Array (Int × Value)} {ep : Nat} {t : SetTable} (S : SetS w s.heap a es ep t) : s.TypeIs (.ref a) "set" := ⟨_, S.obj, rfl⟩
theorem fresh_set {h : Heap} : SetS w (h.push (setObj #[] 0 (.fresh 0 0 (!bt w)))) h.objs.size #[] 0 (.fresh 0 0 (!bt w)) :=
  ⟨Heap.get?_push_size _ rfl, (fun e he => by simp at he), List.Pairwise.nil, ⟨⟨good8, rfl, rfl, List.Pairwise.nil, (fun j hj => by simp [SetTable.fresh] at hj), rfl⟩, by show 0 * 5 < 7 * 3; decide⟩, (fun z => by show (!bt w) = true; rw [z]; rfl), by decide⟩
theorem newSet_ok {Q : Value → Shared → Prop} (h : Q (.ref s.heap.objs.size) { s with heap := s.heap.push (setObj #[] 0 (.fresh 0 0 (!bt w))) }) : wpAny (model prog w) A (newSet (.type "set")) Q E s := by
  unfold newSet
  refine wpAny_bind (byText_ok ?_)
  dsimp only
  simp only [newObj]
  exact wpAny_bind (wpAny_alloc (wpAny_pure h))
theorem anySet_ok {a : Addr} {Q : Bool → Shared → Prop} (T : s.TypeIs (.ref a) "set") (h : Q true s) : wpAny (model prog w) A (Builtin.Frozenset.isAnySet (.ref a)) Q E s := by
  unfold Builtin.Frozenset.isAnySet
  exact wpAny_bind (wpAny_isInstance T sub_set_set (wpAny_pure h))
theorem base_ok {a : Addr} {Q : Value → Shared → Prop} (T : s.TypeIs (.ref a) "set") (h : Q (.type "set") s) : wpAny (model prog w) A (Builtin.Frozenset.baseOf a) Q E s := by
  unfold Builtin.Frozenset.baseOf
  exact wpAny_bind (wpAny_isInstance T sub_set_set (wpAny_pure h))
theorem keep_of {h h' h2 : Heap} {a : Addr} (k : ∀ b o, h.get? b = some o → h'.get? b = some o) (n : h.get? a = none) (sb : Heap.SameBut a h' h2) : ∀ b o, h.get? b = some o → h2.get? b = some o := fun b o e =>
  (sb.2 b (fun z => by rw [z, n] at e; cases e)).trans (k b o e)
theorem copy_ok {U : List Int} (hU : U.length ≤ 62) {a : Addr} {es : Array (Int × Value)} {ep : Nat} {t : SetTable} {Q : Value → Shared → Prop} (S : SetS w s.heap a es ep t) (hk : Among U (keys es))
    (h : ∀ es' ep' t' h', (∀ b o, s.heap.get? b = some o → h'.get? b = some o) → SetS w h' s.heap.objs.size es' ep' t' → (∀ x, x ∈ keys es' ↔ x ∈ keys es) → Q (.ref s.heap.objs.size) { s with heap := h' }) :
    wpAny (model prog w) A (Builtin.Frozenset.copyOf a) Q E s := by
  have lt := Heap.lt_size S.obj
  have ne : s.heap.objs.size ≠ a := Nat.ne_of_gt lt
  unfold Builtin.Frozenset.copyOf
  refine wpAny_bind (base_ok S.ty (wpAny_bind (newSet_ok ?_)))
  refine wpAny_bind (m := Builtin.Frozenset.addrOf (.ref s.heap.objs.size)) (wpAny_pure ?_)
  refine wpAny_bind (merge_ok (s := { s with heap := s.heap.push (setObj #[] 0 (.fresh 0 0 (!bt w))) }) hU ne (each := pure ()) (fun s' Q' _ q => wpAny_pure q) fresh_set (S.keep fun o q => Heap.get?_push_of_some _ q) (fun x hx => by simp at hx) hk fun es' ep' t' h' sb S' m => wpAny_pure ?_)
  exact h es' ep' t' h' (keep_of (fun b o e => Heap.get?_push_of_some _ e) (Heap.get?_none_of_le (Nat.le_refl _)) sb) S' fun x => by rw [m]; simp
theorem or_ok {U : List Int} (hU : U.length ≤ 62) {a b : Addr} (ab : a ≠ b) {ea eb : Array (Int × Value)} {epa epb : Nat} {ta tb : SetTable} {Q : Value → Shared → Prop} (Sa : SetS w s.heap a ea epa ta) (Sb : SetS w s.heap b eb epb tb) (ka : Among U (keys ea)) (kb : Among U (keys eb))
    (h : ∀ es' ep' t' h', (∀ c o, s.heap.get? c = some o → h'.get? c = some o) → SetS w h' s.heap.objs.size es' ep' t' → (∀ x, x ∈ keys es' ↔ x ∈ keys ea ∨ x ∈ keys eb) → Q (.ref s.heap.objs.size) { s with heap := h' }) :
    wpAny (model prog w) A (binaryOp .BitOr (.ref a) (.ref b)) Q E s := by
  refine wpAny_binaryOp_same (id := "set.__or__") Sa.ty Sb.ty PySem.F.fills_set_or PySem.F.slot_set_or (wpAny_call_entry PySem.F.slot_set_or Sa.ty entry_set_or ?_ (PySem.F.args_set_or_2 _ _))
  show wpAny (model prog w) _ (do
    let (self, other) ← Builtin.Frozenset.slot1 "__or__" ⟨[.ref a, .ref b], []⟩
    let (l, r) := (self, other)
    if !(← Builtin.Frozenset.isAnySet l <&&> Builtin.Frozenset.isAnySet r) then rule s!"frozenset.{"__or__"}.declined"; return ← ret .notImplemented
    ret (← (do
      let result ← Builtin.Frozenset.copyOf (← Builtin.Frozenset.addrOf l)
      if r != .ref (← Builtin.Frozenset.addrOf l) then holding [result] (Builtin.Frozenset.updateFrom s!"frozenset.{"__or__"}" (← Builtin.Frozenset.addrOf result) r)
      return result))) _ _ _
  refine wpAny_bind (m := Builtin.Frozenset.slot1 "__or__" ⟨[.ref a, .ref b], []⟩) (wpAny_of_eq (a := (Value.ref a, Value.ref b)) rfl ?_)
  dsimp only
  refine wpAny_bind (wpAny_bind (anySet_ok Sa.ty ?_))
  refine anySet_ok Sb.ty ?_
  simp only [Bool.not_true, Bool.false_eq_true, if_false]
  refine wpAny_bind (wpAny_bind (m := Builtin.Frozenset.addrOf (.ref a)) (wpAny_pure (wpAny_bind (copy_ok hU Sa ka fun e1 p1 t1 h1 k1 S1 m1 => ?_))))
  have ne : s.heap.objs.size ≠ b := Nat.ne_of_gt (Heap.lt_size Sb.obj)
  have nr : s.heap.get? s.heap.objs.size = none := Heap.get?_none_of_le (Nat.le_refl _)
  have Sb1 : SetS w h1 b eb epb tb := Sb.keep fun o q => k1 b o q
  refine wpAny_bind (m := Builtin.Frozenset.addrOf (.ref a)) (wpAny_pure ?_)
  rw [if_pos (show (Value.ref b != Value.ref a) = true by simpa using Ne.symm ab)]
  refine wpAny_bind (m := Builtin.Frozenset.addrOf (.ref s.heap.objs.size)) (wpAny_pure (wpAny_bind (wpAny_holding ?_)))
  unfold Builtin.Frozenset.updateFrom
  refine wpAny_bind (anySet_ok (s := { s with heap := h1 }) (w := w) Sb1.ty ?_)
  rw [if_pos rfl]
  refine wpAny_bind (m := Builtin.Frozenset.addrOf (.ref b)) (wpAny_pure ?_)
  unfold Builtin.Frozenset.merge setEpoch
  refine wpAny_bind (wpAny_bind (state_ok (s := { s with heap := h1 }) Sb1 (wpAny_pure ?_)))
  refine merge_ok (s := { s with heap := h1 }) hU ne (fun s' Q' So' q' => ?_) S1 Sb1 (fun x hx => ka x ((m1 x).mp hx)) kb fun e2 p2 t2 h2 sb2 S2 m2 => ?_
  · unfold Builtin.Frozenset.unchanged setEpoch
    refine wpAny_bind (wpAny_bind (state_ok So' (wpAny_pure ?_)))
    dsimp only
    rw [if_neg (by simp)]
    exact wpAny_pure q'
  · refine wpAny_pure (wpAny_pure ⟨_, rfl, (fun z => nomatch z), h e2 p2 t2 h2 (keep_of k1 nr sb2) S2 fun x => by rw [m2, m1]⟩)
end
end NdS
namespace NdS
open PySem PyProof.Rows
section
variable {prog : Program} {w : World} {A : Around} {R : Result → Shared → Prop}
theorem upd_loop {U : List Int} (hU : U.length ≤ 62) {a it l : Addr} (n1 : a ≠ it) (n2 : a ≠ l) (n3 : l ≠ it) {items : Array Value} {ns : List Int} (hI : IntsAre items.toList ns) (hN : Among U ns) (hh : A.in1.handled = none) :
    ∀ (k i : Nat) (s : Shared) (es : Array (Int × Value)) (ep : Nat) (t : SetTable), items.size - i = k → i ≤ items.size → s.heap.IsTupleIter it l i → s.heap.IsTuple l items → SetS w s.heap a es ep t → Among U (keys es) →
      (∀ es' ep' t' h' tk, (∀ b o, b ≠ a → b ≠ it → s.heap.get? b = some o → h'.get? b = some o) → SetS w h' a es' ep' t' → (∀ x, x ∈ keys es' ↔ x ∈ keys es ∨ x ∈ ns.drop i) → R (.ok (.ret .none)) { s with heap := h', toks := tk }) →
      codeAny (model prog w) A (.builtin "set.update.loop" ⟨[.ref a, .ref it], []⟩) R s := by
  have len : ns.length = items.size := by rw [← hI.length, Array.length_toList]
  intro k
  induction k with
  | zero =>
    intro i s es ep t hk hi hit hl S hu hR
    have e : i = items.size := by omega
    refine codeAny_builtin PyProof.Rows.F.entry_set_update_loop ?_
    rw [Around.under_plainId PyProof.Rows.F.plain_set_update_loop _]
    show wpAny _ A.in1 (pyNext (.ref it) >>= _) _ _ s
    refine wpAny_bind (wpAny_pyNext_tuple_end hh hit hl (by rw [e]; simp) fun h' x => ?_)
    refine wpAny_pure (hR es ep t h' s.toks (fun b o _ q e => x b o q e) (S.keep fun o q => x a o n1 q) fun x => ?_)
    rw [e, ← len, List.drop_length]
    simp
  | succ k ih =>
    intro i s es ep t hk hi hit hl S hu hR
    have lt : i < items.size := by omega
    have lt' : i < ns.length := by omega
    obtain ⟨tk, ev⟩ := IntsAre.int_at hI i items[i] (by simp [lt])
    have eg : ns.getD i 0 = ns[i] := by simp [List.getD, lt']
    rw [eg] at ev
    refine codeAny_builtin PyProof.Rows.F.entry_set_update_loop ?_
    rw [Around.under_plainId PyProof.Rows.F.plain_set_update_loop _]
    show wpAny _ A.in1 (pyNext (.ref it) >>= _) _ _ s
    refine wpAny_bind (wpAny_pyNext_tuple_item hit hl (x := items[i]) (by simp [lt]) fun h1 hit1 sb1 => ?_)
    rw [ev]
    show wpAny _ A.in1 (holding [Value.int ns[i] tk] (setAdd a (.int ns[i] tk)) >>= _) _ _ _
    refine wpAny_bind (wpAny_holding ?_)
    unfold setAdd
    refine wpAny_holding (wpAny_bind ((intKind prog w).pyHash (k := ns[i]) (intKind_is _ _ _ _) ?_))
    have S1 : SetS w h1 a es ep t := S.keep fun o q => (sb1.2 a n1).trans q
    have z := hu.size S1.nd
    refine add_ok (s := { s with heap := h1, toks := s.toks + 1 }) S1 (by omega) fun b es2 ep2 t2 h2 sb2 S2 p2 => ?_
    have m2 : ∀ x, x ∈ keys es2 ↔ x = ns[i] ∨ x ∈ keys es := fun x => by rw [p2.mem_iff, mem_ins]
    refine wpAny_pure ⟨plainId_quiet PyProof.Rows.F.plain_set_update_loop _, ?_⟩
    refine ih (i + 1) { s with heap := h2, toks := s.toks + 1 } es2 ep2 t2 (by omega) lt ?_ ?_ S2 (fun x hx => ?_) fun es3 ep3 t3 h3 tk3 k3 S3 m3 => ?_
    · obtain ⟨o, ho, r⟩ := hit1
      exact ⟨o, (sb2.2 it (Ne.symm n1)).trans ho, r⟩
    · obtain ⟨o, ho, r⟩ := hl
      exact ⟨o, (sb2.2 l (Ne.symm n2)).trans ((sb1.2 l n3).trans ho), r⟩
    · rcases (m2 x).mp hx with q | q
      · rw [q]; exact hN _ (List.getElem_mem lt')
      · exact hu x q
    · refine hR es3 ep3 t3 h3 tk3 (fun b o q1 q2 e => k3 b o q1 q2 ((sb2.2 b q1).trans ((sb1.2 b q2).trans e))) S3 fun x => ?_
      rw [m3, m2, List.drop_eq_getElem_cons lt', List.mem_cons]
      constructor
      · rintro ((q | q) | q)
        · exact .inr (.inl q)
        · exact .inl q
        · exact .inr (.inr q)
      · rintro (q | q | q)
        · exact .inl (.inr q)
        · exact .inl (.inl q)
        · exact .inr q
end
section
variable {prog : Program} {w : World} {A : Around} {E : Value → Shared → Prop} {s : Shared}
theorem new_code (v : Value) {Q : Value → Shared → Prop} (h : Q (.ref s.heap.objs.size) { s with heap := s.heap.push (setObj #[] 0 (.fresh 0 0 (!bt w))) }) :
    codeAny (model prog w) A (.call (.builtin "set.__new__") ⟨[.type "set", v], []⟩) (wants Q E) s := by
  have sub := sub_set_set
  obtain ⟨hp, g, d, tk, os⟩ := s
  refine codeAny_of_tree (show wpAny _ A.in1 (do checkBuiltinCall "set.__new__" ⟨[.type "set", v], []⟩; again (.builtin "set.__new__" ⟨[.type "set", v], []⟩)) _ _ _ from ?_)
  refine wpAny_bind (wpAny_of_eq (PySem.F.newCall_set_1 v) (wpAny_pure ⟨plainId_quiet PySem.F.plain_set_new _, codeAny_builtin PySem.F.entry_set_new ?_⟩))
  rw [Around.under_plainId PySem.F.plain_set_new _]
  unfold Builtin.«set.__new__» Builtin.Frozenset.newClass
  dsimp only
  wp_walk
  refine wpAny_askSetting (wpAny_pure ?_)
  dsimp only
  simp only [newObj]
  exact wpAny_bind (wpAny_alloc (wpAny_pure (wpAny_pure h)))
theorem set_tup {U : List Int} (hU : U.length ≤ 62) {l : Addr} {items : Array Value} {ns : List Int} {Q : Value → Shared → Prop} (hh : A.handled = none) (hl : s.heap.IsTuple l items) (hI : IntsAre items.toList ns) (hN : Among U ns)
    (h : ∀ es ep t h' tk, (∀ b o, s.heap.get? b = some o → h'.get? b = some o) → SetS w h' s.heap.objs.size es ep t → (∀ x, x ∈ keys es ↔ x ∈ ns) → Q (.ref s.heap.objs.size) { s with heap := h', toks := tk }) :
    wpAny (model prog w) A (call (.type "set") [.ref l]) Q E s := by
  obtain ⟨c, tl, hmro⟩ := PySem.F.called_set.mro
  have hmade := PySem.F.called_set.made
  have hsub := PySem.F.called_set.sub
  have h1 := PySem.F.called_set.notType
  have h2 := PySem.F.called_set.canCreate
  have hct := PySem.F.typeCall_set_1 (.ref l)
  refine wpAny_call (codeAny_of_tree (show wpAny _ _ (callAny (.type "set") _) _ _ _ from ?_))
  refine wpAny_pure ⟨Code.quiet_builtin _ (by decide +kernel), codeAny_builtin PySem.F.entry_type_call ?_⟩
  rw [Around.under_plain (weight_type_call_type "set" [.ref l] []) rfl]
  repeat (any_goals (first | assumption | wp_step))
  refine codeAny_mono (new_code (.ref l) (E := E) (Q := fun v s1 => v = .ref s.heap.objs.size ∧ s1 = { s with heap := s.heap.push (setObj #[] 0 (.fresh 0 0 (!bt w))) }) ⟨rfl, rfl⟩) fun r s1 hr => ?_
  rcases r with e | (_ | _ | _ | v)
  · exact hr
  · exact hr.elim
  · exact hr.elim
  · exact hr.elim
  obtain ⟨rfl, rfl⟩ := hr
  have S0 := fresh_set (w := w) (h := s.heap)
  have T0 : Shared.TypeIs { s with heap := s.heap.push (setObj #[] 0 (.fresh 0 0 (!bt w))) } (.ref s.heap.objs.size) "set" := ⟨_, S0.obj, rfl⟩
  have hli := PySem.F.called_set.init.lookup
  have hbi := PySem.F.called_set.init.bind (.ref s.heap.objs.size)
  repeat (any_goals (first | assumption | wp_step))
  refine codeAny_mono (codeAny_call_builtin (R := wants (fun r s2 => r = .none ∧ ∃ es ep t h' tk, s2 = { s with heap := h', toks := tk } ∧ (∀ b o, s.heap.get? b = some o → h'.get? b = some o) ∧ SetS w h' s.heap.objs.size es ep t ∧ ∀ x, x ∈ keys es ↔ x ∈ ns) E)
    PySem.F.called_set.init.plain PySem.F.entry_set_init (check_set_init_1 T0 ?_)) fun r s2 hr => ?_
  · obtain ⟨⟨oc, od, odt, osl⟩, ho, hc, n, hd⟩ := id hl
    have hc' : oc = .type "tuple" := hc
    have hd' : odt = .seq items n := hd
    subst hc' hd'
    have ho' := Heap.get?_push_of_some (setObj #[] 0 (.fresh 0 0 (!bt w))) ho
    have hl1 : (s.heap.push (setObj #[] 0 (.fresh 0 0 (!bt w)))).IsTuple l items := ⟨_, ho', rfl, n, rfl⟩
    have f1 := PySem.F.sub_tuple_set
    have f2 := PySem.F.sub_tuple_frozenset
    have f3 : (Value.type "tuple" == Value.type "dict") = false := by decide
    have lt := Heap.lt_size ho
    unfold Builtin.«set.__init__» noKeywords Builtin.Frozenset.updateFrom
    generalize hPI : pyIter = PI
    wp_walk
    subst hPI
    refine wpAny_pyIter_tuple hl1 (wpAny_bind (wpAny_runValue ?_))
    have sz : (s.heap.push (setObj #[] 0 (.fresh 0 0 (!bt w)))).objs.size = s.heap.objs.size + 1 := Heap.size_push _ _
    have g1 : ((s.heap.push (setObj #[] 0 (.fresh 0 0 (!bt w)))).push { cls := .type "tuple_iterator", data := .fields #[.ref l, .int 0 0] }).get? (s.heap.push (setObj #[] 0 (.fresh 0 0 (!bt w)))).objs.size = some { cls := .type "tuple_iterator", data := .fields #[.ref l, .int 0 0] } := Heap.get?_push_size _ rfl
    refine upd_loop hU (by rw [sz]; exact Nat.ne_of_lt (Nat.lt_succ_self _)) (Nat.ne_of_gt lt) (by rw [sz]; exact Nat.ne_of_lt (Nat.lt_succ_of_lt lt)) hI hN (by simp [hh]) (items.size - 0) 0 _ #[] 0 (.fresh 0 0 (!bt w)) rfl (Nat.zero_le _) ⟨_, g1, rfl, rfl⟩ ⟨_, Heap.get?_push_of_some _ ho', rfl, n, rfl⟩
      (S0.keep fun o q => Heap.get?_push_of_some _ q) (fun x hx => by simp at hx) fun es ep t h' tk k' S' m' => ?_
    refine wpAny_pure (wpAny_pure ⟨rfl, es, ep, t, h', tk, rfl, fun b o e => ?_, S', fun x => ?_⟩)
    · have lb := Heap.lt_size e
      exact k' b o (Nat.ne_of_lt lb) (by rw [sz]; exact Nat.ne_of_lt (Nat.lt_succ_of_lt lb)) (Heap.get?_push_of_some _ (Heap.get?_push_of_some _ e))
    · rw [m', List.drop_zero]
      simp
  · rcases r with e | (_ | _ | _ | v)
    · exact hr
    · exact hr.elim
    · exact hr.elim
    · exact hr.elim
    obtain ⟨rfl, es, ep, t, h', tk, rfl, k', S', m'⟩ := hr
    repeat (any_goals (first | assumption | wp_step))
    exact h es ep t h' tk k' S' m'
end
end NdS
namespace NdS
open PySem PyProof.Rows
theorem slot_next : Slot "set_iterator" "__next__" "set_iterator.__next__" :=
  .of (owner := "set_iterator") (n := "__next__") (by rw [typeLookup_type, builtinLookup_eq_fast]; kernel_rfl) (by decide +kernel) (by decide +kernel) (by decide +kernel) (by first | exact .inl (by decide +kernel) | exact .inr (by decide +kernel)) (by rw [isSubtype_type]; kernel_rfl)
theorem entry_next : entryFor table "set_iterator.__next__" = some Builtin.«set_iterator.__next__» := entryFor_of_tree (by kernel_rfl)
theorem args_next (a : Value) : argsOk "set_iterator.__next__" ⟨[a], []⟩ := by unfold argsOk; kernel_rfl
theorem entry_iter : entryFor table "set.__iter__" = some Builtin.«frozenset.__iter__» :=
  entryFor_alias (id' := "frozenset.__iter__") (by kernel_rfl) (by first | rfl | decide +kernel) (by decide +kernel) (by kernel_rfl)
abbrev itObj (f i : Nat) (a : Addr) (n ep : Nat) : Obj := { cls := .type "set_iterator", data := .fields #[rawInt f, rawInt i, .ref a, rawInt n, rawInt ep] }
def arrOf (w : World) (a : Addr) (ep : Nat) (es : Array (Int × Value)) : Array (Int × Value) := if bt w then pickOrder (w.params.setOrder a ep) es else es
theorem arr_perm {w : World} {a : Addr} {ep : Nat} {es : Array (Int × Value)} : (arrOf w a ep es).toList.Perm es.toList := walk_perm
theorem arr_size {w : World} {a : Addr} {ep : Nat} {es : Array (Int × Value)} : (arrOf w a ep es).size = es.size := by
  have := (arr_perm (w := w) (a := a) (ep := ep) (es := es)).length_eq
  rw [Array.length_toList, Array.length_toList] at this
  exact this
def Stand (w : World) (I a : Addr) (es : Array (Int × Value)) (ep : Nat) (t : SetTable) (i : Nat) (h : Heap) : Prop :=
  (∃ f, h.get? I = some (itObj f i a es.size ep) ∧ (bt w = false → SetTable.below t.place f = i)) ∧ SetS w h a es ep t
section
variable {prog : Program} {w : World} {A : Around} {E : Value → Shared → Prop} {s : Shared}
theorem iter_ok {a : Addr} {es : Array (Int × Value)} {ep : Nat} {t : SetTable} {Q : Value → Shared → Prop} (S : SetS w s.heap a es ep t) (h : Q (.ref s.heap.objs.size) { s with heap := s.heap.push (itObj 0 0 a es.size ep) }) :
    wpAny (model prog w) A (pyIter (.ref a)) Q E s := by
  refine wpAny_pyIter_slot S.ty PySem.F.slot_set_iter (wpAny_call_entry PySem.F.slot_set_iter S.ty entry_iter ?_ (PySem.F.args_set_iter_1 _))
  unfold Builtin.«frozenset.__iter__»
  refine wpAny_bind (m := Builtin.Frozenset.slot0 "__iter__" ⟨[.ref a], []⟩) (wpAny_of_eq (a := a) rfl ?_)
  unfold Builtin.Frozenset.sizeOf setEntries setDrawn setEpoch
  refine wpAny_bind (wpAny_bind (wpAny_bind (state_ok S (wpAny_pure (wpAny_pure ?_)))))
  refine wpAny_bind (wpAny_bind (state_ok S ?_))
  dsimp only
  refine wpAny_bind (byText_ok (wpAny_pure ?_))
  have hp := S.tab.plain
  have tail : wpAny (model prog w) A.in1 (do
      let first ← (pure (rawInt 0) : Sem Value)
      ret (← newFields "set_iterator" [first, rawInt 0, .ref a, rawInt es.size, rawInt (← (do return (← setState a).2.1))])) (fun fin s' => ∃ v, fin = .done (.ret v) ∧ ∃ T' r, s'.TypeIs v T' ∧ typeLookup (.type T') "__next__" = pure (some r) ∧ Q v s') E s := by
    refine wpAny_bind (wpAny_pure ?_)
    refine wpAny_bind (wpAny_bind (state_ok S (wpAny_pure ?_)))
    refine wpAny_bind (wpAny_newObj_type (wpAny_pure ⟨_, rfl, "set_iterator", _, ⟨_, Heap.get?_push_size _ rfl, rfl⟩, slot_next.lookup, h⟩))
  obtain ⟨mask, place, dummies, finger, led, moves, plain⟩ := t
  have hp' : plain = true := hp
  subst hp'
  cases hb : bt w with
  | true => exact tail
  | false => exact tail
theorem setNext_at {a : Addr} {es : Array (Int × Value)} {ep f i : Nat} {t : SetTable} {Q : Option (Value × Nat) → Shared → Prop} (S : SetS w s.heap a es ep t) (hf : bt w = false → SetTable.below t.place f = i)
    (h1 : ∀ (hi : i < es.size) f', (bt w = false → SetTable.below t.place f' = i + 1) → Q (some (((arrOf w a ep es)[i]'(by rw [arr_size]; exact hi)).2, f')) s) (h2 : es.size ≤ i → Q none s) : wpAny (model prog w) A (setNext a f i ep) Q E s := by
  unfold setNext
  refine wpAny_bind (state_ok S ?_)
  dsimp only
  refine wpAny_bind (byText_ok ?_)
  cases hb : bt w with
  | true =>
    rw [if_pos rfl, if_neg (by simp)]
    refine wpAny_bind (walk_ok S (wpAny_pure ?_))
    show Q (((arrOf w a ep es)[i]?).map fun e => (e.2, f)) s
    by_cases hi : i < es.size
    · rw [Array.getElem?_eq_getElem (by rw [arr_size]; exact hi)]
      exact h1 hi f (fun z => by rw [hb] at z; cases z)
    · rw [Array.getElem?_eq_none (by rw [arr_size]; omega)]
      exact h2 (by omega)
  | false =>
    have hl := S.led hb
    have hp := S.tab.plain
    have tail : wpAny (model prog w) A (pure (match es[SetTable.below t.place f]?, t.place[SetTable.below t.place f]? with
        | some (_, x), some j => some (x, j + 1)
        | _, _ => none) : Sem (Option (Value × Nat))) Q E s := by
      rw [hf hb]
      by_cases hi : i < es.size
      · have hi2 : i < t.place.size := by rw [S.tab.size]; exact hi
        rw [Array.getElem?_eq_getElem hi, Array.getElem?_eq_getElem hi2]
        refine wpAny_pure ?_
        have := h1 hi (t.place[i] + 1) (fun _ => below_next S.tab.rise hi2)
        have e : arrOf w a ep es = es := by unfold arrOf; rw [hb]; rfl
        simp only [e] at this
        exact this
      · rw [Array.getElem?_eq_none (by omega)]
        exact wpAny_pure (h2 (by omega))
    obtain ⟨mask, place, dummies, finger, led, moves, plain⟩ := t
    have hl' : led = true := hl
    have hp' : plain = true := hp
    subst hl' hp'
    exact wpAny_bind (m := (pure () : Sem Unit)) (wpAny_pure tail)
theorem next_item {I a : Addr} {es : Array (Int × Value)} {ep : Nat} {t : SetTable} {i : Nat} {Q : Option Value → Shared → Prop} (st : Stand w I a es ep t i s.heap) (ne : a ≠ I) (hi : i < es.size)
    (h : ∀ h', Stand w I a es ep t (i + 1) h' → Heap.SameBut I s.heap h' → Q (some ((arrOf w a ep es)[i]'(by rw [arr_size]; exact hi)).2) { s with heap := h' }) :
    wpAny (model prog w) A (pyNext (.ref I)) Q E s := by
  obtain ⟨⟨f, ho, hf⟩, S⟩ := st
  have T : s.TypeIs (.ref I) "set_iterator" := ⟨_, ho, rfl⟩
  unfold pyNext
  refine wpAny_bind (wpAny_attempt (wpAny_callSpecial?_slot (name := Str.ofString "__next__") T slot_next (wpAny_call_entry slot_next T entry_next ?_ (args_next _))))
  unfold Builtin.«set_iterator.__next__»
  refine wpAny_bind (m := slotArgs "__next__" 0 ⟨[.ref I], []⟩) (wpAny_of_eq (a := (Value.ref I, [])) rfl ?_)
  dsimp only
  refine wpAny_bind (wpAny_fieldsOf ho rfl ?_)
  show wpAny (model prog w) A.in1 (do
    if (((← setEntries a).size : Nat) : Int) != (es.size : Int) then
      rule "set_iterator.__next__.size-changed"
      setField (.ref I) 3 (rawInt (-1))
      raiseError "RuntimeError" "Set changed size during iteration"
    match ← setNext a (f : Int).toNat (i : Int).toNat (ep : Int).toNat with
    | some (x, next) =>
      setField (.ref I) 0 (rawInt next)
      setField (.ref I) 1 (rawInt ((i : Int) + 1))
      ret x
    | none => setField (.ref I) 2 .none; raiseNew (← newExc (.type "StopIteration") [])) _ _ _
  unfold setEntries
  refine wpAny_bind (wpAny_bind (state_ok S (wpAny_pure ?_)))
  rw [if_neg (by simp)]
  simp only [Int.toNat_natCast]
  refine wpAny_bind (setNext_at S hf (fun _ f' hf' => ?_) (fun z => absurd hi (by omega)))
  dsimp only
  refine wpAny_bind (wpAny_setField ho rfl (by simp) ?_)
  have g1 : (s.heap.update I (Obj.mapFields (·.setIfInBounds 0 (rawInt f')))).get? I = some (itObj f' i a es.size ep) := Heap.get?_update_self _ ho rfl
  refine wpAny_bind (wpAny_setField g1 rfl (by simp) (wpAny_pure ⟨_, rfl, wpAny_pure (h _ ⟨⟨f', ?_, hf'⟩, ?_⟩ ((Heap.SameBut.update ..).trans (Heap.SameBut.update ..)))⟩))
  · exact Heap.get?_update_self _ g1 rfl
  · refine S.keep fun o q => ?_
    exact ((Heap.SameBut.update _ _ _).2 a ne).trans (((Heap.SameBut.update _ _ _).2 a ne).trans q)
theorem next_end {I a : Addr} {es : Array (Int × Value)} {ep : Nat} {t : SetTable} {Q : Option Value → Shared → Prop} (hh : A.handled = none) (st : Stand w I a es ep t es.size s.heap)
    (h : ∀ h', Heap.ExtBut I s.heap h' → Q none { s with heap := h' }) : wpAny (model prog w) A (pyNext (.ref I)) Q E s := by
  obtain ⟨⟨f, ho, hf⟩, S⟩ := st
  have T : s.TypeIs (.ref I) "set_iterator" := ⟨_, ho, rfl⟩
  unfold pyNext
  refine wpAny_bind (wpAny_attempt (wpAny_callSpecial?_slot (name := Str.ofString "__next__") T slot_next (wpAny_call_entry slot_next T entry_next ?_ (args_next _))))
  unfold Builtin.«set_iterator.__next__»
  refine wpAny_bind (m := slotArgs "__next__" 0 ⟨[.ref I], []⟩) (wpAny_of_eq (a := (Value.ref I, [])) rfl ?_)
  dsimp only
  refine wpAny_bind (wpAny_fieldsOf ho rfl ?_)
  show wpAny (model prog w) A.in1 (do
    if (((← setEntries a).size : Nat) : Int) != (es.size : Int) then
      rule "set_iterator.__next__.size-changed"
      setField (.ref I) 3 (rawInt (-1))
      raiseError "RuntimeError" "Set changed size during iteration"
    match ← setNext a (f : Int).toNat (es.size : Int).toNat (ep : Int).toNat with
    | some (x, next) =>
      setField (.ref I) 0 (rawInt next)
      setField (.ref I) 1 (rawInt ((es.size : Int) + 1))
      ret x
    | none => setField (.ref I) 2 .none; raiseNew (← newExc (.type "StopIteration") [])) _ _ _
  unfold setEntries
  refine wpAny_bind (wpAny_bind (state_ok S (wpAny_pure ?_)))
  rw [if_neg (by simp)]
  simp only [Int.toNat_natCast]
  refine wpAny_bind (setNext_at S hf (fun z _ _ => absurd z (Nat.lt_irrefl _)) (fun _ => ?_))
  dsimp only
  refine wpAny_bind (wpAny_setField ho rfl (by simp) (wpAny_bind ?_))
  simp only [newExc, newTuple]
  refine wpAny_bind (wpAny_newObj_type ?_ (by size_fits))
  refine wpAny_bind (m := firstArgMember _ _) (wpAny_of_eq (a := Value.none) (by first | rfl | (simp only [firstArgMember]; rfl)) (wpAny_newObj_type ?_ (by size_fits)))
  simp only [raiseNew]
  refine wpAny_bind (wpAny_handled ?_)
  rw [show A.in1.handled = none from hh]
  refine wpAny_bind (wpAny_pure (wpAny_throw ?_))
  refine wpAny_bind (wpAny_isInstance (T := "StopIteration") (b := true) ⟨_, Heap.get?_push_size _ rfl, rfl⟩ isSubtype_stop ?_)
  exact wpAny_pure (h _ (((Heap.SameBut.update ..).extBut.push _).push _))
end
end NdS
namespace NdS
open PySem PyProof.Rows
theorem slot_self : Slot "set_iterator" "__iter__" "set_iterator.__iter__" :=
  .of (owner := "set_iterator") (n := "__iter__") (by rw [typeLookup_type, builtinLookup_eq_fast]; kernel_rfl) (by decide +kernel) (by decide +kernel) (by decide +kernel) (by first | exact .inl (by decide +kernel) | exact .inr (by decide +kernel)) (by rw [isSubtype_type]; kernel_rfl)
theorem entry_self : entryFor table "set_iterator.__iter__" = some Builtin.«dict_keyiterator.__iter__» :=
  entryFor_alias (id' := "dict_keyiterator.__iter__") (by kernel_rfl) (by first | rfl | decide +kernel) (by decide +kernel) (by kernel_rfl)
theorem args_self (a : Value) : argsOk "set_iterator.__iter__" ⟨[a], []⟩ := by unfold argsOk; kernel_rfl
section
variable {prog : Program} {w : World} {A : Around} {E : Value → Shared → Prop} {s : Shared}
theorem walks_set (hh : A.handled = none) {I a : Addr} (ne : a ≠ I) (es : Array (Int × Value)) (ep : Nat) (t : SetTable) :
    Walks prog w A I [I, a] [I] es.size (fun i v => ∃ e, (arrOf w a ep es)[i]? = some e ∧ v = e.2) (fun i h => Stand w I a es ep t i h) where
  sub := fun b hb => by simp at hb; simp [hb]
  frame := fun i h h' ⟨⟨f, ho, hf⟩, S⟩ hk => ⟨⟨f, hk I (by simp) _ ho, hf⟩, S.keep fun o q => hk a (by simp) o q⟩
  item := fun i s Q E hi st hQ => next_item st ne hi fun h' st' sb => hQ _ h' s.toks ⟨_, Array.getElem?_eq_getElem (by rw [arr_size]; exact hi), rfl⟩ st' fun b o hb e => (sb.2 b (fun z => hb (by simp [z]))).trans e
  done := fun s Q E st hQ => next_end hh st fun h' x => hQ h' s.toks fun b o hb e => x b o (fun z => hb (by simp [z])) e
  self := fun i s Q E st hQ => by
    obtain ⟨⟨f, ho, hf⟩, S⟩ := st
    have T : s.TypeIs (.ref I) "set_iterator" := ⟨_, ho, rfl⟩
    refine wpAny_pyIter_slot T slot_self (wpAny_call_entry slot_self T entry_self ?_ (args_self _))
    exact wpAny_pure ⟨_, rfl, "set_iterator", _, T, slot_next.lookup, hQ⟩
theorem hint_set {r : Addr} {Q : Bool → Shared → Prop} (hT : s.TypeIs (.ref r) "set") (h : Q false s) : wpAny (model prog w) A (Builtin.List.listLengthHint (.ref r)) Q E s := by
  unfold Builtin.List.listLengthHint
  refine wpAny_bind (wpAny_specialOf hT PySem.F.slot_set_len.lookup ?_)
  generalize hid : ("set.__len__" : String) = id0
  wp_delta
  rw [show splitId id0 = some ("set", "__len__") from by subst hid; decide +kernel]
  subst hid
  refine wpAny_bind (wpAny_isInstance (T := "set") (b := true) hT sub_set_set ?_)
  refine wpAny_ite_split (fun z => absurd z (by decide)) (fun _ => wpAny_ite_split (fun _ => ?_) (fun z => absurd (by decide +kernel) z))
  exact wpAny_bind (wpAny_typeOf hT (wpAny_pure h))
theorem src_set (a : Addr) (es : Array (Int × Value)) (ep : Nat) (t : SetTable) : PySem.W.KdlSrc prog w "set" a a es.size (fun i v => ∃ e, (arrOf w a ep es)[i]? = some e ∧ v = e.2) (fun h => SetS w h a es ep t) where
  type := fun s S => S.ty
  there := fun h S => ⟨Heap.lt_size S.obj, Heap.lt_size S.obj⟩
  keep := fun h h' S k => S.keep fun o q => k a (.inl rfl) o q
  notList := by decide
  notTuple := by decide
  hint := fun A E s Q S h => hint_set S.ty h
  iter := fun A s hh S => by
    have lt := Heap.lt_size S.obj
    refine ⟨itObj 0 0 a es.size ep, fun i h => Stand w s.heap.objs.size a es ep t i h, fun E Q h => iter_ok S h, ?_, ⟨⟨0, Heap.get?_push_size _ rfl, fun _ => below_first S.tab.rise⟩, S.keep fun o q => Heap.get?_push_of_some _ q⟩⟩
    exact walks_set hh (Nat.ne_of_lt lt) es ep t
theorem ints_of_items {arr : Array (Int × Value)} (he : ∀ e ∈ arr.toList, isEnt e) {acc : Array Value} (h : ItemsOf (fun i v => ∃ e, arr[i]? = some e ∧ v = e.2) acc arr.size) : IntsAre acc.toList (arr.toList.map keyOf) := by
  have key : ∀ (l : List (Int × Value)) (vs : List Value), (∀ e ∈ l, isEnt e) → vs.length = l.length → (∀ (j : Nat) v, vs[j]? = some v → ∃ e, l[j]? = some e ∧ v = e.2) → IntsAre vs (l.map keyOf) := by
    intro l
    induction l with
    | nil =>
      intro vs _ hl _
      cases vs with
      | nil => exact .nil
      | cons v vs => cases hl
    | cons e l ih =>
      intro vs he hl hv
      cases vs with
      | nil => cases hl
      | cons v vs =>
        obtain ⟨k, tk, rfl⟩ := he e (List.mem_cons_self ..)
        obtain ⟨e', h1, h2⟩ := hv 0 v rfl
        cases h1
        subst h2
        exact .cons k tk (ih vs (fun e hm => he e (List.mem_cons_of_mem _ hm)) (by simpa using hl) fun j u hj => hv (j + 1) u (by simpa using hj))
  refine key arr.toList acc.toList he (by rw [Array.length_toList, Array.length_toList]; exact h.1) fun j v hj => ?_
  obtain ⟨e, h1, h2⟩ := h.2 j v (by rw [← Array.getElem?_toList]; exact hj)
  exact ⟨e, by rw [Array.getElem?_toList]; exact h1, h2⟩
theorem sorted_set {a : Addr} {es : Array (Int × Value)} {ep : Nat} {t : SetTable} {Q : Value → Shared → Prop} (hh : A.handled = none) (S : SetS w s.heap a es ep t)
    (h : ∀ (p : Addr) (out : Array Value) (ns : List Int) (n : Nat) (h1 h' : Heap) (tk : Nat), IntsAre out.toList ns → ns.Perm (keys es) → ns.Pairwise (· ≤ ·) → (∀ b o, s.heap.get? b = some o → h1.get? b = some o) → h1.objs.size ≤ p → (∀ b o, h1.get? b = some o → h'.get? b = some o) → h'.get? p = some (seqObj "list" out n) →
      Q (.ref p) { s with heap := h', toks := tk }) : wpAny (model prog w) A (call (.builtin "sorted") [.ref a]) Q E s := by
  refine Calls.call_function_entry kind_sorted plain_sorted entry_sorted (args_sorted1 _) ?_
  unfold Builtin.«sorted»
  refine wpAny_bind (m := checkCount "sorted" 1 1 _) (wpAny_pure (wpAny_bind (PySem.W.kdu_collect (A := A.in1) (src_set a es ep t) hh S (small S.few) fun h1 tk acc k1 hacc => ?_)))
  have hacc' : ItemsOf (fun i v => ∃ e, (arrOf w a ep es)[i]? = some e ∧ v = e.2) acc (arrOf w a ep es).size := by rw [arr_size]; exact hacc
  have hI := ints_of_items (fun e he => S.ent e (arr_perm.mem_iff.mp he)) hacc'
  have len : acc.toList.length < 64 := by rw [Array.length_toList, hacc.1]; exact S.few
  refine wpAny_bind (wpAny_newList ?_ (Nat.le_trans (Nat.le_of_lt len) (by rw [sizeLine_eq]; decide)))
  have g1 : (h1.push (seqObj "list" acc.toList.toArray 0)).get? h1.objs.size = some (seqObj "list" acc.toList.toArray 0) := Heap.get?_push_size _ rfl
  refine wpAny_bind (wpAny_holding (wpAny_call_entry slot_list_sort ⟨_, g1, rfl⟩ entry_list_sort (list_sort_tree (s := { s with heap := h1.push (seqObj "list" acc.toList.toArray 0), toks := tk }) g1 hI len fun out ns' a1 a2 a3 => ⟨_, rfl, ?_⟩) (args_list_sort _)))
  refine wpAny_pure ⟨_, rfl, ?_⟩
  have g2 := get?_update_seq g1 (fun _ => #[])
  have g3 := Heap.get?_push_of_some (seqObj "list" #[] 0) (Heap.get?_push_of_some (seqObj "tuple" acc.toList.toArray 0) g2)
  have g4 := get?_update_seq g3 (fun _ => out)
  refine h h1.objs.size out ns' _ h1 _ tk a1 (a2.trans (arr_perm.map keyOf)) a3 k1 (Nat.le_refl _) (fun b o e => ?_) g4
  have nb : b ≠ h1.objs.size := Nat.ne_of_lt (Heap.lt_size e)
  exact ((Heap.SameBut.update _ _ _).2 b nb).trans (Heap.get?_push_of_some _ (Heap.get?_push_of_some _ (((Heap.SameBut.update _ _ _).2 b nb).trans (Heap.get?_push_of_some _ e))))
end
end NdS
namespace Nd
open PySem PySem.Spec PyProof.Rows L2 NdS
def IsSet (w : World) (a : Addr) (ks : List Int) (h : Heap) : Prop := ∃ es ep t, SetS w h a es ep t ∧ ∀ x, x ∈ keys es ↔ x ∈ ks
abbrev SetO (w : World) (a : Addr) (ks : List Int) : HO := .ext (IsSet w a ks)
theorem setO_ok {P : Program} {w w' : World} {H : Hp} {h : Heap} {a : Addr} {ks : List Int} (e : IsSet w a ks h) : ObjOk P w' H h a (SetO w a ks) :=
  ⟨e, let ⟨_, _, _, S, _⟩ := e; ⟨_, S.obj⟩, fun h1 h2 ⟨es, ep, t, S, m⟩ k => ⟨es, ep, t, S.keep fun o q => k o q, m⟩⟩
theorem isSet_of {P : Program} {w : World} {H : Hp} {h : Heap} {a : Addr} {ks : List Int} (ok : HOk P w H h) (e : H a = some (SetO w a ks)) : IsSet w a ks h :=
  (show ObjOk P w H h a (SetO w a ks) from ok a _ e).1
section
variable {X : Cx}
def rSet (w : World) (K : PySem.W.Frag) : List V → Hp → VK → Prop := fun xs H Q => ∃ (a : Addr) (ns U : List Int), xs = [.ref a] ∧ SqT K H a (ns.map V.int) ∧ U.length ≤ 62 ∧ Among U ns ∧ ∀ p, H p = none → Q (.ref p) (upd H p (SetO w p ns))
theorem call_set (hc : X.calm = true) : CallR X (.type "set") (rSet X.w X.K) := by
  intro pins s σ H xs us Q I r h
  obtain ⟨a, ns, U, rfl, hs, hU, hN, q⟩ := h
  obtain ⟨u, rfl, ru⟩ := vals1 r
  cases ru
  obtain ⟨its, rv, ⟨o, e, hcl, n, hd⟩, _⟩ := I.tuple hs
  refine set_tup hU (I.ok.hd hc) ⟨o, e, hcl, n, hd⟩ (by simpa using intsAre_of rv) hN fun es ep t h' tk k S m => ?_
  exact ⟨.ref s.heap.objs.size, _, I.laid k (Nat.le_refl _) (setO_ok ⟨es, ep, t, S, m⟩), rfl, q _ (I.hok.fresh (Nat.le_refl _))⟩
def rOr (w : World) : R2 := fun x y H Q => ∃ (a b : Addr) (ks ls U : List Int), x = .ref a ∧ y = .ref b ∧ a ≠ b ∧ H a = some (SetO w a ks) ∧ H b = some (SetO w b ls) ∧ U.length ≤ 62 ∧ Among U ks ∧ Among U ls ∧ ∀ p, H p = none → Q (.ref p) (upd H p (SetO w p (ks ++ ls)))
theorem op_setOr : OpR X (binaryOp .BitOr) (rOr X.w) := by
  intro pins s σ H x y v u Q I rx ry h
  obtain ⟨a, b, ks, ls, U, rfl, rfl, ne, ha, hb, hU, h1, h2, q⟩ := h
  cases rx
  cases ry
  obtain ⟨ea, pa, ta, Sa, ma⟩ := isSet_of I.hok ha
  obtain ⟨eb, pb, tb, Sb, mb⟩ := isSet_of I.hok hb
  refine or_ok hU ne Sa Sb (fun x hx => h1 x ((ma x).mp hx)) (fun x hx => h2 x ((mb x).mp hx)) fun es ep t h' k S m => ?_
  exact ⟨.ref s.heap.objs.size, _, I.laid (t' := s.toks) k (Nat.le_refl _) (setO_ok ⟨es, ep, t, S, fun x => by rw [m, ma, mb, List.mem_append]⟩), rfl, q _ (I.hok.fresh (Nat.le_refl _))⟩
theorem vals_of_ints : ∀ {vs : List Value} {ns : List Int}, IntsAre vs ns → Vals (ns.map V.int) vs
  | _, _, .nil => .nil
  | _, _, .cons n t h => .cons ⟨t, rfl⟩ (vals_of_ints h)
def rSorted (w : World) : List V → Hp → VK → Prop := fun xs H Q => ∃ (a : Addr) (ks : List Int), xs = [.ref a] ∧ H a = some (SetO w a ks) ∧ ∀ (p : Addr) (ns : List Int), H p = none → ns.Nodup → ns.Pairwise (· ≤ ·) → (∀ x, x ∈ ns ↔ x ∈ ks) → Q (.ref p) (upd H p (.lst (ns.map V.int)))
theorem call_sortedS (hc : X.calm = true) : CallR X (.builtin "sorted") (rSorted X.w) := by
  intro pins s σ H xs us Q I r h
  obtain ⟨a, ks, rfl, ha, q⟩ := h
  obtain ⟨u, rfl, ru⟩ := vals1 r
  cases ru
  obtain ⟨es, ep, t, S, m⟩ := isSet_of I.hok ha
  refine sorted_set (I.ok.hd hc) S fun p out ns n h1 h' tk hi hp hs k1 hge k2 hg => ?_
  have I1 : Inv X pins σ H { s with heap := h1, toks := tk } := I.kept k1
  have nd : ns.Nodup := hp.nodup_iff.mpr S.nd
  have hl : ns.length < 64 := by
    rw [hp.length_eq, List.length_map, Array.length_toList]
    exact S.few
  refine ⟨.ref p, upd H p (.lst (ns.map V.int)), I1.laid (t' := tk) k2 hge ⟨by rw [List.length_map, sizeLine_eq]; omega, out.toList, n, vals_of_ints hi, by simpa using hg⟩, rfl, q p ns (I1.hok.fresh hge) nd hs fun x => by rw [hp.mem_iff, m]⟩
end
end Nd
namespace K1
open PySem L2 Nd
theorem compScope0 {X : Cx} {scope : Scope} {x : Str} (clos : closureFor scope X.env = pure []) (nocell : ∀ y ∈ scope.names, y.2 ≠ .cell) (kind : scope.kind = .function) (locs : ∀ y ∈ scope.names, y.2 = .local → scope.names.lookup y.1 = some .local)
    (own : scope.names.lookup x = some .local) (has_ : (scope.names.all fun y => !(y.2 == NameKind.free) || (([] : List (Str × Addr)).lookup y.1).isSome) = true) : CompScope X scope [] x [] [] :=
  ⟨clos, .inl nocell, kind, locs, .inl own, fun _ _ h => by simp at h, has_, List.nodup_cons.mpr ⟨List.not_mem_nil, List.nodup_nil⟩, rfl, fun k y j e1 _ => by simp at e1⟩
theorem ok_ints (ns : List Int) : (ns.map V.int).all okV = true := by
  rw [List.all_map]
  exact List.all_eq_true.mpr fun _ _ => rfl
def U60 : List Int := (List.range 60).map fun i : Nat => (i : Int)
theorem mem_U60 {x : Int} (h0 : 0 ≤ x) (h1 : x < 60) : x ∈ U60 := List.mem_map.mpr ⟨x.toNat, List.mem_range.mpr (by omega), by omega⟩
theorem among {ns : List Int} (r : Rising 60 ns) : NdS.Among U60 ns := fun x hx => mem_U60 (r.2 x hx).1 (r.2 x hx).2
def spTog (K : PySem.W.Frag) : Sp := fun vs H Q _ => ∃ (a b : Addr) (ns ms : List Int), vs = [.ref a, .ref b] ∧ SqT K H a (ns.map V.int) ∧ SqT K H b (ms.map V.int) ∧ Rising 60 ns ∧ Rising 60 ms ∧
  ∀ (r : Addr) (ts : List Int) (H' : Hp), H r = none → H' r = some (.tup (ts.map V.int)) → ts.Nodup → ts.Pairwise (· ≤ ·) → (∀ x, x ∈ ts ↔ x ∈ ns ++ ms) → Same H H' → Q (.ref r) H'
def notIn (ms : List Int) (i : Int) : Bool := !inV (.int i) (ms.map V.int)
def spBey (K : PySem.W.Frag) : Sp := fun vs H Q _ => ∃ (a b : Addr) (ns ms : List Int), vs = [.ref a, .ref b] ∧ SqT K H a (ns.map V.int) ∧ SqT K H b (ms.map V.int) ∧ ns.length ≤ 60 ∧
  ∀ (r : Addr) (H' : Hp), H r = none → H' r = some (.tup ((ns.filter (notIn ms)).map V.int)) → Same H H' → Q (.ref r) H'
def spLIs : Sp := fun vs H Q _ => ∃ (a b : Addr) (ts : List Int), vs = [.ref a, .ref b] ∧ H a = some (.tup (ts.map V.int)) ∧ H b = some (.tup (ts.map V.int)) ∧ ts.length ≤ 1000 ∧ ∀ H', Same H H' → Q (.bl true) H'
theorem filter_ints (ns ms : List Int) : ((ns.map V.int).filter fun x => !inV x (ms.map V.int)).map (fun x => x) = (ns.filter (notIn ms)).map V.int := by
  rw [List.map_id', List.filter_map]
  rfl
section
variable {P : Program} {w : World} {K : PySem.W.Frag} {mg : Str → Option Value} {base : Heap}
theorem scT : FnScope ["one", "other"] ["one", "other"] (defScope sTogether) := ⟨rfl, rfl, rfl, by decide +kernel, rfl, by decide +kernel, by decide +kernel⟩
theorem ok_together {f : Addr} {fd : FuncData} (F : Fun K "together" "together" sTogether f fd) (mT : mg "tuple" = none) (mS : mg "sorted" = none) (mE : mg "set" = none) : FnOk P w K mg base CX0 1 f fd ["one", "other"] (spTog K) := by
  refine F.ok scT (fun vs H Q E h => ?_) (fun cdv A outer s H vs Q E hr h => ?_)
  · obtain ⟨a, b, ns, ms, rfl, _⟩ := h
    rfl
  obtain ⟨a, b, ns, ms, rfl, hA, hB, rn, rm, q⟩ := h
  refine ⟨_, pss_one (ps_ret (pe_callTy call_tuple_of rfl mT (by decide +kernel) (pa_cons (pe_callB (r := rSorted w) (call_sortedS rfl) rfl mS (by decide +kernel) (pa_cons
    (pe_op (r := rOr w) op_setOr (pe_callTy (r := rSet w K) (call_set rfl) rfl mE (by decide +kernel) (pa_cons (pv 0) pa_nil)) (pe_callTy (r := rSet w K) (call_set rfl) rfl mE (by decide +kernel) (pa_cons (pv 1) pa_nil))) pa_nil)) pa_nil))), ?_⟩
  refine ⟨_, rfl, a, ns, U60, rfl, hA, (by show U60.length ≤ 62; decide), among rn, fun p1 n1 => ?_⟩
  have s1 := same_new n1 (SetO w p1 ns)
  refine ⟨_, rfl, b, ms, U60, rfl, Same.tup s1 hB, (by show U60.length ≤ 62; decide), among rm, fun p2 n2 => ?_⟩
  have s2 := same_new n2 (SetO w p2 ms)
  refine ⟨p1, p2, ns, ms, U60, rfl, rfl, ne_of_none upd_same n2, s2 _ _ upd_same, upd_same, (by show U60.length ≤ 62; decide), among rn, among rm, fun p3 n3 => ?_⟩
  have s3 := same_new n3 (SetO w p3 (ns ++ ms))
  refine ⟨p3, _, rfl, upd_same, fun p4 ts n4 nd pw mem => ?_⟩
  have s4 := same_new n4 (.lst (ts.map V.int))
  refine ⟨p4, _, rfl, .inl ⟨SqL.of upd_same, fun p5 n5 => ?_⟩⟩
  have s5 := same_new n5 (.tup (ts.map V.int))
  have sA := ((s1.trans s2).trans (s3.trans s4))
  exact q p5 ts _ (sA.free n5) upd_same nd pw mem (sA.trans s5)
theorem scB : FnScope ["one", "other"] ["one", "other"] (defScope sBeyond) := ⟨rfl, rfl, rfl, by decide +kernel, rfl, by decide +kernel, by decide +kernel⟩
theorem ok_beyond {f : Addr} {fd : FuncData} (F : Fun K "beyond" "beyond" sBeyond f fd) (mT : mg "tuple" = none) : FnOk P w K mg base CX0 1 f fd ["one", "other"] (spBey K) := by
  refine F.ok scB (fun vs H Q E h => ?_) (fun cdv A outer s H vs Q E hr h => ?_)
  · obtain ⟨a, b, ns, ms, rfl, _⟩ := h
    rfl
  obtain ⟨a, b, ns, ms, rfl, hA, hB, hl, q⟩ := h
  refine ⟨_, pss_one (ps_ret (pe_callTy call_tuple_of rfl mT (by decide +kernel) (pa_cons
    (pe_comp (compScope1 (x := "place") (y := "other") (j := 1) (cl := [("other", s.heap.objs.size + 1)]) (by rfl) (by decide +kernel) (by rfl) (by decide +kernel) (by rfl) (fun _ _ h => h) (by rfl) (by decide +kernel) (by rfl) (by rfl) (by rfl)) rfl (pi_tup (pv 0))
      (fun _ _ _ => pts_one (pt_cmpR (r := rIn K true) op_notIn_seq (pv 0) (pv 1) (by with_unfolding_all rfl))) (fun _ _ _ => pv 0)) pa_nil))), ?_⟩
  refine ⟨_, rfl, a, rfl, ⟨_, hA⟩, comp_pure (walked_tup (xs := ns.map V.int)) (by rw [List.length_map]; exact small (by omega)) (fun x => !inV x (ms.map V.int)) (fun x => x) (fun H' sm => Same.tup sm hA) ?_ (fun x hx _ H' sm Q' k => ⟨_, rfl, k H' (Same.refl _)⟩) ?_⟩
  · intro x hx H' sm Q' k
    obtain ⟨i, _, rfl⟩ := mem_int hx
    exact ⟨_, rfl, _, rfl, b, _, rfl, .inr (Same.tup sm hB), rfl, flat_ints ms, _, rfl, k H' (Same.refl _)⟩
  · intro D H' nD eD sm
    rw [filter_ints] at eD
    refine ⟨D, _, rfl, .inl ⟨SqL.of eD, fun r nr => ?_⟩⟩
    exact q r _ (sm.free nr) upd_same (sm.trans (same_new nr _))
theorem scI : FnScope ["_law_told", "_law_due_here"] ["_law_told", "_law_due_here"] (defScope sLIs) := ⟨rfl, rfl, rfl, by decide +kernel, rfl, by decide +kernel, by decide +kernel⟩
theorem ok_lis {f g : Addr} {fd gd : FuncData} (F : Fun K "_law_is_word" "_law_is_word" sLIs f fd) (G : FnOk P w K mg base CX0 1 g gd ["_law_thing"] spWh) (bG : Binds K gd ["_law_thing"] []) (kG : PySem.W.keepIn K (.ref g) = true) (mG : mg "_law_whole" = some (.ref g))
    (mI : mg "isinstance" = none) (mT : mg "tuple" = none) : FnOk P w K mg base CX0 2 f fd ["_law_told", "_law_due_here"] spLIs := by
  refine F.ok scI (fun vs H Q E h => ?_) (fun cdv A outer s H vs Q E hr h => ?_)
  · obtain ⟨a, b, ts, rfl, _⟩ := h
    rfl
  obtain ⟨a, b, ts, rfl, hA, hB, hl, q⟩ := h
  have hu := hu_of hr
  refine ⟨_, pss_cons (ps_if (PW.pt (pw_or (pt_not (pt_val (pe_callB (r := rIs K) isi_ok rfl mI (by decide +kernel) (pa_cons (pv 0) (pa_cons (pe_bltn (v := .ty "tuple") rfl mT (by decide +kernel) rfl) pa_nil)))))
      (pw_or1 (pt_cmpR (op_neT hu) (pv 0) (pv 1) (nomark _))))) (pss_one (ps_ret pe_bl)) pss_nil)
    (pss_one (ps_ret (pe_cmpR (op_eqL hu) (pe_comp (compScope0 (x := "_law_place") (by rfl) (by decide +kernel) (by rfl) (by decide +kernel) (by rfl) (by rfl)) rfl (pi_tup (pv 0))
      (fun _ _ _ => pts_one (pt_not (pt_val (pe_call G hr rfl mG kG bG .nil pass0 (pa_cons (pv 0) pa_nil))))) (fun _ _ _ => pv 0)) (pe_lst pa_nil) (nomark _)))), ?_⟩
  refine ⟨_, rfl, .ref a, "tuple", _, true, rfl, .tup hA, kit_same, _, rfl, iteF ⟨_, rfl, _, rfl, a, b, _, _, rfl, rfl, SqT.of hA, SqT.of hB, EqVs.same (ok_ints ts), _, rfl, iteF ?_⟩⟩
  refine ⟨_, rfl, a, rfl, ⟨_, SqT.of hA⟩, comp_pure (walked_tup (xs := ts.map V.int)) (by rw [List.length_map]; exact small hl) (fun _ => false) (fun x => x) (fun H' sm => SqT.of (sm _ _ hA)) ?_ (fun x hx z => by cases z) ?_⟩
  · intro x hx H' sm Q' k
    obtain ⟨i, _, rfl⟩ := mem_int hx
    exact ⟨_, rfl, _, rfl, .int i, _, rfl, k H' (Same.refl _)⟩
  · intro D H' nD eD sm
    refine ⟨(by show 0 ≤ sizeLine; decide), fun p hp => ?_⟩
    have s2 := same_new hp (.lst [])
    have eD' : H' D = some (.lst []) := by
      rw [eD, List.filter_eq_nil_iff.mpr (fun _ _ => by decide)]
      rfl
    exact ⟨D, p, [], [], rfl, rfl, SqL.of (s2 _ _ eD'), SqL.of upd_same, .inl ⟨EqVs.same rfl, q _ (sm.trans s2)⟩⟩
end
end K1
namespace K1
open PySem L2 Nd
def rCatX (K : PySem.W.Frag) : R2 := fun x y H Q => ∃ a b xs ys, x = .ref a ∧ y = .ref b ∧ SqT K H a xs ∧ SqT K H b ys ∧ xs.length + ys.length ≤ sizeLine ∧ (xs = [] → Q (.ref b) H) ∧ (ys = [] → Q (.ref a) H) ∧ (∀ p, H p = none → Q (.ref p) (upd H p (.tup (xs ++ ys))))
open PyProof.Rows in
theorem op_catX {X : Cx} : OpR X (binaryOp .Add) (rCatX X.K) := by
  intro pins s σ H x y v u Q I rx ry h
  obtain ⟨a, b, xs, ys, rfl, rfl, ha, hb, hz, q1, q3, q2⟩ := h
  by_cases hx : xs = []
  · cases rx
    cases ry
    obtain ⟨its, r1, p1, _⟩ := I.tuple ha
    obtain ⟨its2, r2, p2, _⟩ := I.tuple hb
    have e1 : its = [] := r1.nil_iff.mpr hx
    subst e1
    obtain ⟨⟨c1, d1, dt1, sl1⟩, g1, k1, n1, e1⟩ := id p1
    obtain ⟨⟨c2, d2, dt2, sl2⟩, g2, k2, n2, e2⟩ := id p2
    simp only at k1 e1 k2 e2
    subst k1 e1 k2 e2
    exact concat_meets ⟨_, g1, rfl⟩ ⟨_, g2, rfl⟩ noFill_tuple_add seq_tuple_add PySem.F.slot_tuple_add PySem.F.entry_tuple_add (PySem.F.args_tuple_add_2 _ _)
      (tuple_addW0 a b _ _ n1 n2 d1 d2 sl1 sl2 rfl) ⟨g1, g2, ⟨.ref b, H, I, rfl, q1 hx⟩⟩
  · exact op_catT pins s σ H (.ref a) (.ref b) v u Q I rx ry ⟨a, b, xs, ys, rfl, rfl, ha, hb, hx, hz, q3, fun _ => q2⟩
def cut (ds : List Addr) (H : Hp) : Hp := fun b => if b ∈ ds then none else H b
theorem cut_iff {ds : List Addr} {H : Hp} {b : Addr} {o : HO} : cut ds H b = some o ↔ b ∉ ds ∧ H b = some o := by
  unfold cut
  by_cases h : b ∈ ds
  · rw [if_pos h]
    exact ⟨fun z => (nomatch z), fun z => absurd h z.1⟩
  · rw [if_neg h]
    exact ⟨fun z => ⟨h, z⟩, fun z => z.2⟩
section
variable {ds : List Addr} {H H' : Hp} {d l p : Addr} {o : HO}
theorem of_cut : Same (cut ds H) H := fun b u h => (cut_iff.mp h).2
theorem same_cut (s : Same H H') : Same (cut ds H) (cut ds H') := fun b u h => cut_iff.mpr ⟨(cut_iff.mp h).1, s b u (cut_iff.mp h).2⟩
theorem same_cutB (s : SameB d H H') : Same (cut [d] H) (cut [d] H') := fun b u h => cut_iff.mpr ⟨(cut_iff.mp h).1, s b u (fun z => (cut_iff.mp h).1 (by rw [z]; exact List.mem_cons_self)) (cut_iff.mp h).2⟩
theorem same_cut_new (n : H l = none) : Same (cut ds H) (cut (l :: ds) (upd H l o)) := fun b u h => by
  obtain ⟨h1, h2⟩ := cut_iff.mp h
  have nb : b ≠ l := ne_of_none h2 n
  refine cut_iff.mpr ⟨fun z => ?_, by rw [upd_ne nb]; exact h2⟩
  rcases List.mem_cons.mp z with z | z
  · exact nb z
  · exact h1 z
theorem same_cut_upd : Same (cut (l :: ds) H) (cut (l :: ds) (upd H l o)) := fun b u h => by
  obtain ⟨h1, h2⟩ := cut_iff.mp h
  have nb : b ≠ l := fun z => h1 (by rw [z]; exact List.mem_cons_self)
  exact cut_iff.mpr ⟨h1, by rw [upd_ne nb]; exact h2⟩
theorem same_cut_less : Same (cut (l :: ds) H) (cut ds H) := fun b u h => by
  obtain ⟨h1, h2⟩ := cut_iff.mp h
  exact cut_iff.mpr ⟨fun z => h1 (List.mem_cons_of_mem _ z), h2⟩
def There (ds : List Addr) (H : Hp) : Prop := ∀ d ∈ ds, ∃ o, H d = some o
theorem There.same (t : There ds H) (s : Same H H') : There ds H' := fun d hd => let ⟨o, e⟩ := t d hd; ⟨o, s _ _ e⟩
theorem cut_new (t : There ds H) (n : H p = none) : cut ds (upd H p o) p = some o := cut_iff.mpr ⟨fun z => (by
  obtain ⟨u, e⟩ := t p z
  rw [n] at e
  cases e), upd_same⟩
end
def Itm (K : PySem.W.Frag) (G : Hp) (x : V) : Prop := Ty7 G x ∧ ∃ d, RdV K G x d ∧ Fits 30 d ∧ nodes d ≤ 100 ∧ d.depth ≤ 2
def Tp (K : PySem.W.Frag) (G : Hp) (a : Addr) (n : Nat) : Prop := ∃ xs, G a = some (.tup xs) ∧ xs.length ≤ n ∧ ∀ x ∈ xs, Itm K G x
def Bnt (K : PySem.W.Frag) (G : Hp) (x : V) : Prop := ∃ o, Th G x o ∧ Short o ∧ ((∃ d, Tells K G x d) ∨ ∃ a, x = .ref a ∧ G a = some (.dK []))
section
variable {K : PySem.W.Frag} {G G' : Hp} {x : V} {a : Addr} {n m : Nat}
theorem Itm.same (h : Itm K G x) (s : Same G G') : Itm K G' x := let ⟨t, d, r, z⟩ := h; ⟨t.same s, d, r.same s, z⟩
theorem Tp.same (h : Tp K G a n) (s : Same G G') : Tp K G' a n := let ⟨xs, e, l, i⟩ := h; ⟨xs, s _ _ e, l, fun x hx => (i x hx).same s⟩
theorem Tp.more (h : Tp K G a n) (l : n ≤ m) : Tp K G a m := let ⟨xs, e, l', i⟩ := h; ⟨xs, e, Nat.le_trans l' l, i⟩
theorem Bnt.same (h : Bnt K G x) (s : Same G G') : Bnt K G' x := by
  obtain ⟨o, t, sh, z⟩ := h
  refine ⟨o, t.same s, sh, ?_⟩
  rcases z with ⟨d, z⟩ | ⟨a, e, z⟩
  · exact .inl ⟨d, z.same s⟩
  · exact .inr ⟨a, e, s _ _ z⟩
theorem itm_int {i : Int} (h : i.natAbs < 10 ^ 30) : Itm K G (.int i) := ⟨.int i, .int i, .int i, fits_int h, by simp [nodes], by simp [PyData.depth]⟩
theorem itm_bl {b : Bool} : Itm K G (.bl b) := ⟨.bl b, .bool b, .bl b, by simp [Fits], by simp [nodes], by simp [PyData.depth]⟩
theorem itm_non : Itm K G .non := ⟨.non, .none, .non, by simp [Fits], by simp [nodes], by simp [PyData.depth]⟩
theorem itm_str {z : Str} (h : (reprText z).length ≤ 30) : Itm K G (.str z) := ⟨.str z, .str z, .str z, by simpa [Fits] using h, by simp [nodes], by simp [PyData.depth]⟩
theorem items_rd : ∀ {xs : List V}, (∀ x ∈ xs, Itm K G x) → ∃ ds, RdVs K G xs ds ∧ (∀ d ∈ ds, Fits 30 d ∧ nodes d ≤ 100 ∧ d.depth ≤ 2) ∧ ds.length = xs.length
  | [], _ => ⟨[], .nil, fun _ z => (nomatch z), rfl⟩
  | x :: xs, h => by
    obtain ⟨ds, r, f, l⟩ := items_rd (xs := xs) fun y hy => h y (List.mem_cons_of_mem _ hy)
    obtain ⟨_, d, r1, f1⟩ := h x List.mem_cons_self
    refine ⟨d :: ds, .cons r1 r, fun e he => ?_, by simp [l]⟩
    rcases List.mem_cons.mp he with z | z
    · rw [z]; exact f1
    · exact f e z
theorem tells_seq {ds : List PyData} {n : Nat} (f : ∀ d ∈ ds, Fits 30 d ∧ nodes d ≤ 100 ∧ d.depth ≤ 2) (l : ds.length ≤ 1000) : nodesAll ds + 1 ≤ 100001 ∧ PyData.depthAll ds ≤ 2 := by
  have h1 := nodesAll_le (m := 100) (xs := ds) fun x hx => (f x hx).2.1
  have h2 := depthAll_le (m := 2) (xs := ds) fun x hx => (f x hx).2.2
  have : 100 * ds.length ≤ 100 * 1000 := Nat.mul_le_mul_left _ l
  exact ⟨by omega, h2⟩
theorem Tp.bnt (h : Tp K G a n) (l : n ≤ 1000) : Bnt K G (.ref a) := by
  obtain ⟨xs, e, hl, i⟩ := h
  obtain ⟨ds, r, f, el⟩ := items_rd i
  have z := tells_seq (n := n) f (by omega)
  refine ⟨some xs, .tup e fun x hx => (i x hx).1, (fun ys hy => by cases hy; omega), .inl ⟨.tuple ds, .tup (SqT.of e) r, ⟨30, by decide, fits_tup fun d hd => (f d hd).1, ?_⟩, ?_⟩⟩
  · have : nodes (.tuple ds) = nodesAll ds + 1 := by simp [nodes]
    rw [this, sizeLine_eq]
    have := Nat.mul_le_mul_left (30 + 12) z.1
    omega
  · have : (PyData.tuple ds).depth ≤ PyData.depthAll ds + 1 := by simp [PyData.depth]
    omega
theorem bnt_lst {xs : List V} (e : G a = some (.lst xs)) (l : xs.length ≤ 1000) (i : ∀ x ∈ xs, Itm K G x) : Bnt K G (.ref a) := by
  obtain ⟨ds, r, f, el⟩ := items_rd i
  have z := tells_seq (n := 0) f (by omega)
  refine ⟨none, .lst e, fun ys hy => (nomatch hy), .inl ⟨.list ds, .lst (SqL.of e) r, ⟨30, by decide, fits_lst fun d hd => (f d hd).1, ?_⟩, ?_⟩⟩
  · have : nodes (.list ds) = nodesAll ds + 1 := by simp [nodes]
    rw [this, sizeLine_eq]
    have := Nat.mul_le_mul_left (30 + 12) z.1
    omega
  · have : (PyData.list ds).depth ≤ PyData.depthAll ds + 1 := by simp [PyData.depth]
    omega
theorem bnt_flat {d : PyData} (t : Th G x none) (r : RdV K G x d) (f : Fits 30 d) (n1 : nodes d ≤ 100) (dp : d.depth ≤ 2) : Bnt K G x := by
  refine ⟨none, t, fun ys hy => (nomatch hy), .inl ⟨d, r, ⟨30, by decide, f, ?_⟩, by omega⟩⟩
  rw [sizeLine_eq]
  have := Nat.mul_le_mul_left (30 + 12) n1
  omega
theorem bnt_non : Bnt K G .non := bnt_flat .non .non (by simp [Fits]) (by simp [nodes]) (by simp [PyData.depth])
theorem bnt_bl {b : Bool} : Bnt K G (.bl b) := bnt_flat (.bl b) (.bl b) (by simp [Fits]) (by simp [nodes]) (by simp [PyData.depth])
theorem bnt_int {i : Int} (h : i.natAbs < 10 ^ 30) : Bnt K G (.int i) := bnt_flat (.int i) (.int i) (fits_int h) (by simp [nodes]) (by simp [PyData.depth])
theorem bnt_str {z : Str} (h : (reprText z).length ≤ 30) : Bnt K G (.str z) := bnt_flat (.str z) (.str z) (by simpa [Fits] using h) (by simp [nodes]) (by simp [PyData.depth])
theorem bnt_dct (e : G a = some (.dK [])) : Bnt K G (.ref a) := ⟨none, .dct e, fun ys hy => (nomatch hy), .inr ⟨a, rfl, e⟩⟩
theorem word_tp {ns : List Int} (e : G a = some (.tup (ns.map V.int))) (l : ns.length ≤ 60) (b : ∀ i ∈ ns, i.natAbs < 10 ^ 30) : Tp K G a 60 ∧ Itm K G (.ref a) := by
  refine ⟨⟨_, e, by rw [List.length_map]; exact l, fun x hx => ?_⟩, .tup e, .tuple (ns.map PyData.int), .tup (SqT.of e) (RdVs.ints ns), fits_tup fun d hd => ?_, ?_, ?_⟩
  · obtain ⟨i, hi, rfl⟩ := mem_int hx
    exact itm_int (b i hi)
  · obtain ⟨i, hi, rfl⟩ := List.mem_map.mp hd
    exact fits_int (b i hi)
  · have : nodes (.tuple (ns.map PyData.int)) = nodesAll (ns.map PyData.int) + 1 := by simp [nodes]
    rw [this, nodes_ints]
    omega
  · have : (PyData.tuple (ns.map PyData.int)).depth ≤ PyData.depthAll (ns.map PyData.int) + 1 := by simp [PyData.depth]
    rw [depth_ints] at this
    omega
end
structure Bs (K : PySem.W.Frag) (ds : List Addr) (w : Addr) (new : V) (H : Hp) : Prop where
  th : There ds H
  wd : Tp K (cut ds H) w 60
  i : Itm K (cut ds H) (.ref w)
  n : Itm K (cut ds H) new
theorem Bs.same {K : PySem.W.Frag} {ds : List Addr} {w : Addr} {new : V} {H H' : Hp} (B : Bs K ds w new H) (s : Same H H') : Bs K ds w new H' := ⟨B.th.same s, B.wd.same (same_cut s), B.i.same (same_cut s), B.n.same (same_cut s)⟩
def GT (K : PySem.W.Frag) (ds : List Addr) (w : Addr) (new : V) (σ : L2.St) (te : TE) (n : Nat) : Prop := ∀ (H : Hp) (Q : VK), Bs K ds w new H → (∀ z H', Same H H' → Tp K (cut ds H') z n → Q (.ref z) H') → te σ H Q
def GE (K : PySem.W.Frag) (ds : List Addr) (w : Addr) (new : V) (σ : L2.St) (te : TE) : Prop := ∀ (H : Hp) (Q : VK), Bs K ds w new H → (∀ x H', Same H H' → Bnt K (cut ds H') x → Q x H') → te σ H Q
def GA (K : PySem.W.Frag) (ds : List Addr) (w : Addr) (new : V) (σ : L2.St) (ta : TA) (n : Nat) : Prop := ∀ (H : Hp) (Q : List V → Hp → Prop), Bs K ds w new H → (∀ xs H', Same H H' → xs.length = n → (∀ x ∈ xs, Bnt K (cut ds H') x) → Q xs H') → ta σ H Q
section
variable {K : PySem.W.Frag} {ds : List Addr} {w : Addr} {new : V} {σ : L2.St} {te tb : TE} {ta : TA} {n m : Nat}
theorem GT.ge (h : GT K ds w new σ te n) (l : n ≤ 1000) : GE K ds w new σ te := fun H Q B k => h H Q B fun z H' s t => k _ _ s (t.bnt l)
theorem GA.nil : GA K ds w new σ tNil 0 := fun H Q B k => k [] H (Same.refl _) rfl fun _ z => (nomatch z)
theorem GA.cons (h1 : GE K ds w new σ te) (h2 : GA K ds w new σ ta n) : GA K ds w new σ (tCons te ta) (n + 1) := fun H Q B k =>
  h1 H _ B fun x H1 s1 b1 => h2 H1 _ (B.same s1) fun xs H2 s2 l b2 => k _ _ (s1.trans s2) (by simp [l]) fun y hy => by
    rcases List.mem_cons.mp hy with z | z
    · rw [z]; exact b1.same (same_cut s2)
    · exact b2 y z
theorem GT.var (h : σ[0]? = some (some (.ref w))) : GT K ds w new σ (tVar 0) 60 := fun H Q B k => ⟨_, h, k w H (Same.refl _) B.wd⟩
def Part (σ : L2.St) (tl : TO) : Prop := ∀ (H : Hp) (Q : Option Int → Hp → Prop), (∀ lo, Q lo H) → tl σ H Q
theorem part_none : Part σ tNoPart := fun H Q k => k none
theorem GT.slice {tl th : TO} (h : σ[0]? = some (some (.ref w))) (hl : Part σ tl) (hh : Part σ th) : GT K ds w new σ (tSl (rSlTA K) (tVar 0) tl th) 60 := fun H Q B k =>
  ⟨_, h, hl H _ fun lo => hh H _ fun hi => by
    obtain ⟨xs, e, l, i⟩ := B.wd
    refine ⟨w, xs, rfl, SqT.of (of_cut _ _ e), k w H (Same.refl _) B.wd, fun p hp => ?_⟩
    have s := same_new hp (.tup (cutV xs lo hi))
    refine k p _ s ⟨_, cut_new B.th hp, Nat.le_trans (cutV_length _ _ _) l, fun x hx => (i x ?_).same (same_cut s)⟩
    exact List.mem_of_mem_drop (List.mem_of_mem_take hx)⟩
theorem GT.cat (h1 : GT K ds w new σ te n) (h2 : GT K ds w new σ tb m) (l : n + m ≤ 1000) : GT K ds w new σ (tOp (rCatX K) te tb) (n + m) := fun H Q B k =>
  h1 H _ B fun a H1 s1 t1 => h2 H1 _ (B.same s1) fun b H2 s2 t2 => by
    have t1' := t1.same (same_cut s2)
    have s12 := s1.trans s2
    obtain ⟨xs, e1, l1, i1⟩ := id t1'
    obtain ⟨ys, e2, l2, i2⟩ := id t2
    refine ⟨a, b, xs, ys, rfl, rfl, SqT.of (of_cut _ _ e1), SqT.of (of_cut _ _ e2), small (by omega), fun _ => k b _ s12 (t2.more (by omega)), fun _ => k a _ s12 (t1'.more (by omega)), fun p hp => ?_⟩
    have s := same_new hp (.tup (xs ++ ys))
    refine k p _ (s12.trans s) ⟨_, cut_new (B.same s12).th hp, by rw [List.length_append]; omega, fun x hx => ?_⟩
    rcases List.mem_append.mp hx with z | z
    · exact (i1 x z).same (same_cut s)
    · exact (i2 x z).same (same_cut s)
theorem GT.one {x : V} {i : Nat} (h : σ[i]? = some (some x)) (hx : ∀ H, Bs K ds w new H → Itm K (cut ds H) x) : GT K ds w new σ (tTup (tCons (tVar i) tNil)) 1 := fun H Q B k =>
  ⟨_, h, (by show 1 ≤ sizeLine; decide), fun p hp => by
    have s := same_new hp (.tup [x])
    refine k p _ s ⟨_, cut_new B.th hp, Nat.le_refl _, fun y hy => ?_⟩
    rw [List.mem_singleton.mp hy]
    exact (hx H B).same (same_cut s)⟩
theorem GT.nil : GT K ds w new σ (tTup tNil) 0 := fun H Q B k =>
  ⟨(by show 0 ≤ sizeLine; decide), fun p hp => k p _ (same_new hp _) ⟨_, cut_new B.th hp, Nat.le_refl _, fun y hy => (nomatch hy)⟩⟩
theorem GT.rev (h : σ[0]? = some (some (.ref w))) : GT K ds w new σ (fun σ H Q => tVar 0 σ H fun x H1 => ∃ a xs, x = .ref a ∧ SqT K H1 a xs ∧ ∀ p, H1 p = none → Q (.ref p) (upd H1 p (.tup xs.reverse))) 60 := fun H Q B k => by
  obtain ⟨xs, e, l, i⟩ := B.wd
  refine ⟨_, h, w, xs, rfl, SqT.of (of_cut _ _ e), fun p hp => ?_⟩
  have s := same_new hp (.tup xs.reverse)
  exact k p _ s ⟨_, cut_new B.th hp, by rw [List.length_reverse]; exact l, fun x hx => (i x (List.mem_reverse.mp hx)).same (same_cut s)⟩
theorem GE.list (h : σ[0]? = some (some (.ref w))) : GE K ds w new σ (tCB (fun xs H Q => ∃ p ys, xs = [.ref p] ∧ (SqL K H p ys ∨ SqT K H p ys) ∧ ∀ l, H l = none → Q (.ref l) (upd H l (.lst ys))) (tCons (tVar 0) tNil)) := fun H Q B k => by
  obtain ⟨xs, e, l, i⟩ := B.wd
  refine ⟨_, h, w, xs, rfl, .inr (SqT.of (of_cut _ _ e)), fun p hp => ?_⟩
  have s := same_new hp (.lst xs)
  exact k _ _ s (bnt_lst (cut_new B.th hp) (by omega) fun x hx => (i x hx).same (same_cut s))
theorem GE.lst0 : GE K ds w new σ (tLst tNil) := fun H Q B k => ⟨(by show 0 ≤ sizeLine; decide), fun p hp => k _ _ (same_new hp _) (bnt_lst (cut_new B.th hp) (by decide) fun x hx => (nomatch hx))⟩
theorem GE.dct0 : GE K ds w new σ tD0 := fun H Q B k p hp => k _ _ (same_new hp _) (bnt_dct (cut_new B.th hp))
theorem GE.con {x : V} (h : ∀ G, Bnt K G x) : GE K ds w new σ (tC x) := fun H Q B k => k _ _ (Same.refl _) (h _)
end
end K1
namespace K1
open PySem L2 Nd
def spBent (K : PySem.W.Frag) : Sp := fun vs H Q _ => ∃ (w : Addr) (ds : List Addr) (h pk : Int), vs = [.ref w, .int h, .int pk] ∧ There ds H ∧ Tp K (cut ds H) w 60 ∧ Itm K (cut ds H) (.ref w) ∧ 0 ≤ h ∧ h ≤ 60 ∧ ∀ x H', Same H H' → Bnt K (cut ds H') x → Q x H'
section
variable {P : Program} {w : World} {K : PySem.W.Frag} {mg : Str → Option Value} {base : Heap}
theorem part_var {σ : L2.St} {i : Nat} {n : Int} (h : σ[i]? = some (some (.int n))) : Part σ (tPart (tVar i)) := fun H Q k => ⟨_, h, n, rfl, k _⟩
theorem part_int {σ : L2.St} {n : Int} : Part σ (tPart (tC (.int n))) := fun H Q k => ⟨n, rfl, k _⟩
theorem part_neg {σ : L2.St} {n : Int} : Part σ (tPart (tUn (rU fun i => .int (-i)) (tC (.int n)))) := fun H Q k => ⟨_, rfl, _, rfl, k _⟩
theorem part_add {σ : L2.St} {i : Nat} {n m : Int} (h : σ[i]? = some (some (.int n))) : Part σ (tPart (tOp (rI0 fun i j => .int (i + j)) (tVar i) (tC (.int m)))) := fun H Q k => ⟨_, h, _, _, rfl, rfl, _, rfl, k _⟩
theorem scBn : FnScope ["_law_word_here", "_law_holes", "_law_pick", "_law_at", "_law_new", "_law_some"] ["_law_word_here", "_law_holes", "_law_pick"] (defScope sBent) := ⟨rfl, rfl, rfl, by decide +kernel, rfl, by decide +kernel, by decide +kernel⟩
theorem new10 {H : Hp} {ds : List Addr} {p0 : Addr} {h i : Int} (t : Itm K (cut ds H) (.ref p0)) (h0 : 0 ≤ h) (h1 : h ≤ 60) :
    ∃ v, atI [V.int h, V.int (h - 1), V.int 0, V.int (-1), V.bl true, V.non, V.str "0", V.ref p0, V.int (10 ^ (20 : Int).toNat), V.bl false] (i % 10) = some v ∧ Itm K (cut ds H) v := by
  have z := emod_in i 10 (by decide)
  obtain ⟨v, e, m⟩ := atI_in (xs := [V.int h, V.int (h - 1), V.int 0, V.int (-1), V.bl true, V.non, V.str "0", V.ref p0, V.int (10 ^ (20 : Int).toNat), V.bl false]) z.1 (by simpa using z.2)
  refine ⟨v, e, ?_⟩
  simp only [List.mem_cons, List.not_mem_nil, or_false] at m
  rcases m with rfl | rfl | rfl | rfl | rfl | rfl | rfl | rfl | rfl | rfl
  · exact itm_int (by omega)
  · exact itm_int (by omega)
  · exact itm_int (by decide)
  · exact itm_int (by decide)
  · exact itm_bl
  · exact itm_non
  · exact itm_str (by decide +kernel)
  · exact t
  · exact itm_int (by decide)
  · exact itm_bl
theorem seq_lst {ds : List Addr} {wa : Addr} {new : V} {σ : L2.St} {ta : TA} {n i : Nat} {u : TS} {D : Ends} {H : Hp} (B : Bs K ds wa new H) (l : n ≤ 1000) (h : GA K ds wa new σ ta n)
    (k : ∀ xs H', Same H H' → xs.length = n → (∀ x ∈ xs, Bnt K (cut ds H') x) → ∀ p, H' p = none → u D (σ.set i (some (.ref p))) (upd H' p (.lst xs))) : tSeq (tAsg (tLst ta) (gName i)) u D σ H :=
  h H _ B fun xs H' s e b => ⟨small (by omega), fun p np => k xs H' s e b p np⟩
theorem seq_app {ds : List Addr} {wa la : Addr} {new : V} {σ : L2.St} {te : TE} {n i : Nat} {u : TS} {D : Ends} {H : Hp} {ys : List V} (B : Bs K ds wa new H) (hσ : σ[i]? = some (some (.ref la))) (e : H la = some (.lst ys)) (l : ys.length ≤ 100) (h : GT K ds wa new σ te n)
    (k : ∀ z H', Same H H' → Tp K (cut ds H') z n → u D σ (upd H' la (.lst (ys ++ [.ref z])))) : tSeq (tDrop (tBM K "list" rAppend (tVar i) (tCons te tNil))) u D σ H :=
  ⟨_, hσ, .inl ⟨rfl, _, SqL.of e⟩, h H _ B fun z H' s t => ⟨la, ys, _, rfl, rfl, s _ _ e, small1000 (by omega), k z H' s t⟩⟩
theorem seq_cat {ds : List Addr} {wa la : Addr} {new : V} {σ : L2.St} {ta : TA} {n i : Nat} {u : TS} {D : Ends} {H : Hp} {ys : List V} (B : Bs K ds wa new H) (hσ : σ[i]? = some (some (.ref la))) (e : H la = some (.lst ys)) (l : ys.length + n ≤ 1000) (h : GA K ds wa new σ ta n)
    (k : ∀ zs H' p, Same H H' → zs.length = n → (∀ x ∈ zs, Bnt K (cut ds H') x) → H' p = some (.lst (ys ++ zs)) → u D (σ.set i (some (.ref p))) H') : tSeq (tAsg (tOp rCat (tVar i) (tLst ta)) (gName i)) u D σ H :=
  ⟨_, hσ, h H _ B fun zs H' s e' b => ⟨small (by omega), fun p np => ⟨la, p, _, zs, rfl, rfl, (same_new np _) _ _ (s _ _ e), upd_same, small (by omega), fun p2 np2 =>
    have s2 := (same_new np (.lst zs)).trans (same_new np2 (.lst (ys ++ zs)))
    k zs _ p2 (s.trans s2) e' (fun x hx => (b x hx).same (same_cut s2)) upd_same⟩⟩⟩
theorem ok_bent {f : Addr} {fd : FuncData} (F : Fun K "_law_bent" "_law_bent" sBent f fd) (mL : mg "len" = none) (mLi : mg "list" = none) : FnOk P w K mg base CX0 1 f fd ["_law_word_here", "_law_holes", "_law_pick"] (spBent K) := by
  refine F.ok scBn (fun vs H Q E h => ?_) (fun cdv A outer s H vs Q E hr h => ?_)
  · obtain ⟨w, ds, h, pk, rfl, _⟩ := h
    rfl
  obtain ⟨wa, ds, h, pk, rfl, td, tw, iw, h0, h1, q⟩ := h
  refine ⟨_, pss_cons (ps_set (i := 3) scBn.nd rfl (Or.inl rfl) (pe_op op_mod (pe_op op_fdiv (pv 2) pe_int) (pe_op op_add (pe_callB call_len_seq rfl mL (by decide +kernel) (pa_cons (pv 0) pa_nil)) pe_int)))
    (pss_cons (ps_set (i := 4) scBn.nd rfl (Or.inl rfl) (pe_ix ix_list (pe_lst (pa_cons (pv 1) (pa_cons (pe_op op_sub (pv 1) pe_int) (pa_cons pe_int (pa_cons (pe_un un_neg pe_int) (pa_cons pe_bl (pa_cons pe_non (pa_cons pe_str (pa_cons (pe_tup (pa_cons pe_int pa_nil)) (pa_cons (pe_op op_pow pe_int pe_int) (pa_cons pe_bl pa_nil)))))))))))
      (pe_op op_mod (pe_op op_fdiv (pv 2) pe_int) pe_int) (fun _ _ => rfl)))
    (pss_cons (ps_set (i := 5) scBn.nd rfl (Or.inl rfl) (pe_lst (pa_cons (pe_op op_catX (pe_op op_catX (pe_slice sl_tupA (pv 0) po_none (po_some (pv 3))) (pe_tup (pa_cons (pv 4) pa_nil))) (pe_slice sl_tupA (pv 0) (po_some (pv 3)) po_none))
      (pa_cons (pe_op op_catX (pv 0) (pe_slice sl_tupA (pv 0) (po_some (pe_un un_neg pe_int)) po_none)) (pa_cons (pe_rev (pv 0) (pe_un un_neg pe_int) (fun σ H Q k => ⟨_, rfl, k⟩)) (pa_cons (pe_callTy call_list_of rfl mLi (by decide +kernel) (pa_cons (pv 0) pa_nil)) pa_nil))))))
    (pss_cons (ps_expr (pe_bm PySem.F.plainAttrs_list PySem.F.slot_list_append PySem.F.type_list_append mt_append (pv 5) (pa_cons (pe_op op_catX (pe_op op_catX (pe_slice sl_tupA (pv 0) po_none (po_some (pv 3))) (pe_tup (pa_cons (pv 4) pa_nil))) (pe_slice sl_tupA (pv 0) (po_some (pe_op op_add (pv 3) pe_int)) po_none)) pa_nil)))
    (pss_cons (ps_set (i := 5) scBn.nd rfl (Or.inl rfl) (pe_op op_cat (pv 5) (pe_lst (pa_cons pe_non (pa_cons pe_str (pa_cons (pe_lst pa_nil) (pa_cons pe_int (pa_cons pe_bl (pa_cons (pe_tup (pa_cons (pv 0) pa_nil))
      (pa_cons (pe_op op_catX (pe_slice sl_tupA (pv 0) po_none (po_some (pv 3))) (pe_slice sl_tupA (pv 0) (po_some (pe_op op_add (pv 3) pe_int)) po_none)) (pa_cons (pe_op op_catX (pe_slice sl_tupA (pv 0) po_none (po_some pe_int)) (pv 0)) (pa_cons pe_d0 (pa_cons (pv 0) (pa_cons (pe_tup pa_nil) pa_nil)))))))))))))) 
    (pss_one (ps_ret (pe_ix ix_list (pv 5) (pe_op op_mod (pv 2) pe_int) (fun _ _ => rfl)))))))), ?_⟩
  obtain ⟨xs, ew, lw, _⟩ := id tw
  -- at
  refine ⟨_, rfl, _, _, rfl, rfl, ⟨by decide, by decide⟩, _, rfl, wa, xs, rfl, .inr (SqT.of (of_cut _ _ ew)), _, _, rfl, rfl, _, _, rfl, rfl, (by show (0 : Int) < _; omega), ?_⟩
  generalize pk / 16 % ((xs.length : Int) + 1) = at_
  -- new
  refine ⟨_, rfl, _, rfl, _, _, rfl, rfl, _, rfl, (by show 1 ≤ sizeLine; decide), fun p0 np0 => ⟨10, 20, rfl, rfl, ⟨by decide, by decide, by decide⟩, (by show 10 ≤ sizeLine; decide), fun p1 np1 => ?_⟩⟩
  have s0 := same_new np0 (.tup [V.int 0])
  have t0 : Itm K (cut ds (upd H p0 (.tup [V.int 0]))) (.ref p0) := (word_tp (ns := [0]) (cut_new td np0) (by decide) (fun i hi => by rw [List.mem_singleton.mp hi]; decide)).2
  obtain ⟨v, hv, iv⟩ := new10 (H := upd H p0 (.tup [V.int 0])) (i := pk / 1024) t0 h0 h1
  refine ⟨_, rfl, _, _, rfl, rfl, ⟨by decide, by decide⟩, _, _, rfl, rfl, (by show (0 : Int) < 10; decide), p1, _, _, v, rfl, rfl, SqL.of upd_same, hv, ?_⟩
  have s1 := same_new np1 (.lst [V.int h, V.int (h - 1), V.int 0, V.int (-1), V.bl true, V.non, V.str "0", V.ref p0, V.int (10 ^ (20 : Int).toNat), V.bl false])
  have B1 : Bs K ds wa v (upd (upd H p0 (.tup [V.int 0])) p1 (.lst [V.int h, V.int (h - 1), V.int 0, V.int (-1), V.bl true, V.non, V.str "0", V.ref p0, V.int (10 ^ (20 : Int).toNat), V.bl false])) :=
    ⟨td.same (s0.trans s1), tw.same (same_cut (s0.trans s1)), iw.same (same_cut (s0.trans s1)), iv.same (same_cut s1)⟩
  have s01 := s0.trans s1
  generalize upd (upd H p0 (.tup [V.int 0])) p1 (.lst [V.int h, V.int (h - 1), V.int 0, V.int (-1), V.bl true, V.non, V.str "0", V.ref p0, V.int (10 ^ (20 : Int).toNat), V.bl false]) = H1 at B1 s01
  -- some = [..]
  refine seq_lst B1 (n := 4) (by decide) (GA.cons (GT.ge (GT.cat (GT.cat (GT.slice rfl part_none (part_var rfl)) (GT.one rfl fun H B => B.n) (by decide)) (GT.slice rfl (part_var rfl) part_none) (by decide)) (by decide))
    (GA.cons (GT.ge (GT.cat (GT.var rfl) (GT.slice rfl part_neg part_none) (by decide)) (by decide)) (GA.cons (GT.ge (GT.rev rfl) (by decide)) (GA.cons (GE.list rfl) GA.nil)))) fun ys H2 s2 l2 b2 l nl => ?_
  have B2 := B1.same s2
  have sN : Same (cut ds H2) (cut (l :: ds) (upd H2 l (.lst ys))) := same_cut_new nl
  have B3 : Bs K (l :: ds) wa v (upd H2 l (.lst ys)) := ⟨fun e he => by
    rcases List.mem_cons.mp he with z | z
    · rw [z]; exact ⟨_, upd_same⟩
    · exact (B2.th.same (same_new nl _)) e z, B2.wd.same sN, B2.i.same sN, B2.n.same sN⟩
  -- some.append(..)
  refine seq_app B3 rfl upd_same (by rw [l2]; decide) (GT.cat (GT.cat (GT.slice rfl part_none (part_var rfl)) (GT.one rfl fun H B => B.n) (by decide)) (GT.slice rfl (part_add rfl) part_none) (by decide)) fun z H4 s4 t4 => ?_
  have tz := (t4.bnt (by decide)).same (same_cut_upd (ds := ds) (o := .lst (ys ++ [V.ref z])))
  have by4 : ∀ y ∈ ys, Bnt K (cut (l :: ds) (upd H4 l (.lst (ys ++ [V.ref z])))) y := fun y hy => ((((b2 y hy).same sN).same (same_cut s4)).same same_cut_upd)
  have B4 := B3.same s4
  have B5 : Bs K ds wa v (upd H4 l (.lst (ys ++ [V.ref z]))) := ⟨fun e he => by
    obtain ⟨o, e1⟩ := B4.th e (List.mem_cons_of_mem _ he)
    by_cases hl : e = l
    · rw [hl]; exact ⟨_, upd_same⟩
    · exact ⟨o, by rw [upd_ne hl]; exact e1⟩, (B4.wd.same same_cut_upd).same same_cut_less, (B4.i.same same_cut_upd).same same_cut_less, (B4.n.same same_cut_upd).same same_cut_less⟩
  have b5 : ∀ y ∈ ys ++ [V.ref z], Bnt K (cut ds (upd H4 l (.lst (ys ++ [V.ref z])))) y := fun y hy => by
    rcases List.mem_append.mp hy with m | m
    · exact (by4 y m).same same_cut_less
    · rw [List.mem_singleton.mp m]; exact tz.same same_cut_less
  have n2 : H l = none := s01.free (s2.free nl)
  have s5 : Same H (upd H4 l (.lst (ys ++ [V.ref z]))) := fun b o e => by
    have nb := ne_of_none e n2
    rw [upd_ne nb]
    exact s4 _ _ (by rw [upd_ne nb]; exact s2 _ _ (s01 _ _ e))
  have e5 : (upd H4 l (.lst (ys ++ [V.ref z]))) l = some (.lst (ys ++ [V.ref z])) := upd_same
  generalize upd H4 l (.lst (ys ++ [V.ref z])) = H5 at B5 b5 s5 e5
  -- some = some + [..]
  refine seq_cat B5 rfl e5 (n := 11) (by rw [List.length_append, l2]; show 4 + 1 + 11 ≤ 1000; decide) (GA.cons (GE.con fun _ => bnt_non) (GA.cons (GE.con fun _ => bnt_str (by decide +kernel)) (GA.cons GE.lst0 (GA.cons (GE.con fun _ => bnt_int (by decide)) (GA.cons (GE.con fun _ => bnt_bl) (GA.cons (GT.ge (GT.one rfl fun H B => B.i) (by decide))
    (GA.cons (GT.ge (GT.cat (GT.slice rfl part_none (part_var rfl)) (GT.slice rfl (part_add rfl) part_none) (by decide)) (by decide)) (GA.cons (GT.ge (GT.cat (GT.slice rfl part_none part_int) (GT.var rfl) (by decide)) (by decide)) (GA.cons GE.dct0 (GA.cons (GT.ge (GT.var rfl) (by decide)) (GA.cons (GT.ge GT.nil (by decide)) GA.nil))))))))))) fun zs H6 p2 s6 l6 b6 e6 => ?_
  have len : (ys ++ [V.ref z] ++ zs).length = 16 := by rw [List.length_append, List.length_append, l2, l6]; rfl
  have em := emod_in pk 16 (by decide)
  obtain ⟨r, hr', mr⟩ := atI_in (xs := ys ++ [V.ref z] ++ zs) em.1 (by rw [len]; exact em.2)
  refine ⟨_, rfl, _, rfl, _, _, rfl, rfl, (by show (0 : Int) < 16; decide), p2, _, _, r, rfl, rfl, SqL.of e6, hr', q r _ (s5.trans s6) ?_⟩
  rcases List.mem_append.mp mr with m | m
  · exact (b5 r m).same (same_cut s6)
  · exact b6 r m
end
end K1
namespace K1
open PySem L2 Nd
def forBody : Stmt → List Stmt
  | .For _ _ b _ _ => b
  | _ => []
abbrev NL : List Str := ["_law_script", "_law_cell", "_law_draws_here", "_law_pick", "_law_good", "_law_holes", "_law_word_here", "_law_other", "_law_thing", "_law_kept", "_law_one", "_law_there", "_law_told"]
abbrev bodyS : List Stmt := forBody ((defBody sLaw).getD 0 (.Pass ⟨0, 0, 0, 0⟩))
abbrev thingsS : Stmt := bodyS.getD 7 (.Pass ⟨0, 0, 0, 0⟩)
abbrev pairsS : Stmt := bodyS.getD 8 (.Pass ⟨0, 0, 0, 0⟩)
theorem PS.imp {X : Cx} {st : Stmt} {t t' : TS} (h : PS X st t) (k : ∀ D σ H, t' D σ H → t D σ H) : PS X st t' := fun pins s σ H D I q => h pins s σ H D I (k D σ H q)
def rStrB (K : PySem.W.Frag) : List V → Hp → VK → Prop := fun xs H Q => rStr K xs H Q ∨ rStr0 xs H Q
theorem call_strB {X : Cx} (hg : X.A.guards = some []) (hu : X.A.units + 100 < cLine) : CallR X (.type "str") (rStrB X.K) := fun pins s σ H xs us Q I r h => by
  rcases h with h | h
  · exact call_strD hg hu pins s σ H xs us Q I r h
  · exact call_str0 hg hu pins s σ H xs us Q I r h
theorem Bnt.text {K : PySem.W.Frag} {G : Hp} {x : V} (b : Bnt K G x) : ∃ z : Str, ∀ (H : Hp) (Q : VK), Same G H → Q (.str z) H → rStrB K [x] H Q := by
  obtain ⟨o, _, _, ⟨d, t⟩ | ⟨a, rfl, e⟩⟩ := b
  · exact ⟨textOf d, fun H Q s q => .inl ⟨x, d, rfl, t.same s, q⟩⟩
  · exact ⟨_, fun H Q s q => .inr ⟨a, rfl, s _ _ e, q⟩⟩
def Wo (H : Hp) (r : Addr) (ns : List Int) : Prop := H r = some (.tup (ns.map V.int)) ∧ ns.length ≤ 60 ∧ Rising 60 ns
theorem Wo.same {H H' : Hp} {r : Addr} {ns : List Int} (h : Wo H r ns) (s : Same H H') : Wo H' r ns := ⟨s _ _ h.1, h.2⟩
theorem Wo.ne {H : Hp} {r d : Addr} {ns : List Int} {c k : Int} {f : Bool} (h : Wo H r ns) (hd : Draw H d c k f) : r ≠ d := ne_of h.1 hd (by intro z; cases z)
theorem Wo.sameB {H H' : Hp} {r d : Addr} {ns : List Int} {c k : Int} {f : Bool} (h : Wo H r ns) (hd : Draw H d c k f) (s : SameB d H H') : Wo H' r ns := ⟨s _ _ (h.ne hd) h.1, h.2⟩
theorem Wo.tp {K : PySem.W.Frag} {H : Hp} {r : Addr} {ns : List Int} (h : Wo H r ns) : Tp K H r 60 ∧ Itm K H (.ref r) := word_tp h.1 h.2.1 fun i hi => by
  have z := h.2.2.2 i hi
  omega
theorem Wo.cut {ds : List Addr} {H : Hp} {r : Addr} {ns : List Int} (h : Wo H r ns) (n : r ∉ ds) : Wo (cut ds H) r ns := ⟨cut_iff.mpr ⟨n, h.1⟩, h.2⟩
def tThings (K : PySem.W.Frag) : TS := fun D σ H => ∃ (sc : V) (d wa ot : Addr) (c k good : Int) (fl : Bool) (holes : V) (ns ms : List Int) (v1 v3 v8 v9 v10 v11 v12 : Option V),
  σ = [some sc, v1, some (.ref d), v3, some (.int good), some holes, some (.ref wa), some (.ref ot), v8, v9, v10, v11, v12] ∧ Draw H d c k fl ∧ 0 ≤ k ∧ k ≤ 1000 ∧ Wo H wa ns ∧ Wo H ot ms ∧ 1 ≤ good ∧ good ≤ 60 ∧ Ty7 (cut [d] H) holes ∧
  ∀ (u8 u9 : Option V) (H' : Hp), SameB d H H' → D.nx [some sc, v1, some (.ref d), v3, some (.int good), some holes, some (.ref wa), some (.ref ot), u8, u9, v10, v11, v12] H'
section
variable {P : Program} {w : World} {K : PySem.W.Frag} {mg : Str → Option Value} {base : Heap}
theorem scL : FnScope NL ["_law_script"] (defScope sLaw) := ⟨rfl, rfl, rfl, by decide +kernel, rfl, by decide +kernel, by decide +kernel⟩
theorem things_ok {fn fb fs fu f : Addr} {fnd fbd fsd fud : FuncData} {cdv : Value} {A : Around} {outer : List Env} {s : Shared} {H : Hp} {E : XK}
    (N : FnOk P w K mg base CX0 1 fn fnd ["_law_draws_here"] spNext) (bN : Binds K fnd ["_law_draws_here"] []) (kN : PySem.W.keepIn K (.ref fn) = true) (mN : mg "_law_next" = some (.ref fn))
    (B : FnOk P w K mg base CX0 1 fb fbd ["_law_word_here", "_law_holes", "_law_pick"] (spBent K)) (bB : Binds K fbd ["_law_word_here", "_law_holes", "_law_pick"] []) (kB : PySem.W.keepIn K (.ref fb) = true) (mB : mg "_law_bent" = some (.ref fb))
    (S : FnOk P w K mg base CX0 4 fs fsd ["_law_holes", "_law_word_here"] spSaid) (bS : Binds K fsd ["_law_holes", "_law_word_here"] []) (kS : PySem.W.keepIn K (.ref fs) = true) (mS : mg "_law_said" = some (.ref fs))
    (U : FnOk P w K mg base CX0 2 fu fud ["_law_holes", "_law_thing"] spDue) (bU : Binds K fud ["_law_holes", "_law_thing"] []) (kU : PySem.W.keepIn K (.ref fu) = true) (mU : mg "_law_due" = some (.ref fu))
    (mR : mg "range" = none) (mStr : mg "str" = none)
    (hr : Room 4 (cxOf CX0 P w K mg base NL "law" (defScope sLaw) f cdv A outer s H E).nox.A) :
    PS (cxOf CX0 P w K mg base NL "law" (defScope sLaw) f cdv A outer s H E).nox thingsS (tThings K) := by
  have hr1 : Room 1 (cxOf CX0 P w K mg base NL "law" (defScope sLaw) f cdv A outer s H E).nox.A := hr.mono (by decide)
  have hr2 : Room 2 (cxOf CX0 P w K mg base NL "law" (defScope sLaw) f cdv A outer s H E).nox.A := hr.mono (by decide)
  have hu : (cxOf CX0 P w K mg base NL "law" (defScope sLaw) f cdv A outer s H E).nox.A.units + 100 < cLine := by have := hr.un; omega
  have CS : ∀ {scope : Scope} (h : scope = { kind := .function, names := [(".0", .local), ("_law_k", .local), ("_law_bent", .globalImplicit), ("_law_next", .globalImplicit), ("_law_draws_here", .free), ("_law_good", .free), ("_law_word_here", .free)], isGenerator := false, isCoroutine := false }),
      CompScope (cxOf CX0 P w K mg base NL "law" (defScope sLaw) f cdv A outer s H E).nox scope [("_law_word_here", s.heap.objs.size + 3), ("_law_good", s.heap.objs.size + 2), ("_law_draws_here", s.heap.objs.size + 1)] "_law_k" ["_law_draws_here", "_law_good", "_law_word_here"] [2, 4, 6] := by
    rintro scope rfl
    refine ⟨by rfl, .inl (by decide +kernel), by rfl, by decide +kernel, .inl rfl, fun y c h => ?_, by rfl, by decide +kernel, rfl, fun k y j e1 e2 => ?_⟩
    · have z := lookup_mem h
      simp only [List.mem_cons, List.not_mem_nil, or_false, Prod.mk.injEq] at z
      rcases z with ⟨rfl, rfl⟩ | ⟨rfl, rfl⟩ | ⟨rfl, rfl⟩ <;> rfl
    · match k, e1, e2 with
      | 0, e1, e2 => cases e1; cases e2; exact ⟨rfl, rfl, .inl rfl⟩
      | 1, e1, e2 => cases e1; cases e2; exact ⟨rfl, rfl, .inl rfl⟩
      | 2, e1, e2 => cases e1; cases e2; exact ⟨rfl, rfl, .inl rfl⟩
      | k + 3, e1, e2 => cases e1
  suffices h : ∃ t, PS (cxOf CX0 P w K mg base NL "law" (defScope sLaw) f cdv A outer s H E).nox thingsS t ∧ ∀ D σ H, tThings K D σ H → t D σ H by
    obtain ⟨t, h1, h2⟩ := h
    exact PS.imp h1 h2
  refine ⟨_, ps_for PassesOwn.never rfl (pi_list (pe_op op_cat (pe_lst (pa_cons (pv 6) (pa_cons (pv 7) pa_nil)))
      (pe_comp (CS rfl) rfl (pi_range1 rfl mR (pa_cons pe_int pa_nil)) (fun _ _ _ => pts_none) (fun _ _ _ => pe_call B hr1 rfl mB kB bB .nil pass0 (pa_cons (pv 3) (pa_cons (pv 2) (pa_cons (pe_call N hr1 rfl mN kN bN .nil pass0 (pa_cons (pv 1) pa_nil)) pa_nil)))))))
      (pg_name (i := 8) scL.nd rfl (Or.inl rfl))
    (pss_cons (ps_set (i := 9) scL.nd rfl (Or.inl rfl) (pe_callTy (r := rStrB K) (call_strB hr.gd hu) rfl mStr (by decide +kernel) (pa_cons (pv 8) pa_nil)))
    (pss_one (ps_if (PW.pt (pw_or (pt_cmpR op_ne (pe_call S hr rfl mS kS bS .nil pass0 (pa_cons (pv 5) (pa_cons (pv 8) pa_nil))) (pe_call U hr2 rfl mU kU bU .nil pass0 (pa_cons (pv 5) (pa_cons (pv 8) pa_nil))) (nomark _))
      (pw_or1 (pt_cmpR op_ne (pe_callTy (r := rStrB K) (call_strB hr.gd hu) rfl mStr (by decide +kernel) (pa_cons (pv 8) pa_nil)) (pv 9) (nomark _))))) (pss_one (ps_ret pe_bl)) pss_nil))), ?_⟩
  rintro D σ H0 ⟨sc, d, wa, ot, c, k, good, fl, holes, ns, ms, v1, v3, v8, v9, v10, v11, v12, rfl, hd, k0, k1, hwa, hot, g0, g1, hh, fin⟩
  -- [word, other]
  refine ⟨_, rfl, _, rfl, (by show 2 ≤ sizeLine; decide), fun p0 np0 => ?_⟩
  have s0 := same_new np0 (.lst [V.ref wa, V.ref ot])
  have ep0 : (upd H0 p0 (.lst [V.ref wa, V.ref ot])) p0 = some (.lst [V.ref wa, V.ref ot]) := upd_same
  have n0d : p0 ≠ d := draw_ne hd np0
  have hd1 := hd.same s0
  have hwa1 := hwa.same s0
  have hot1 := hot.same s0
  have hh1 := hh.same (same_cut s0)
  have sB0 : SameB d H0 (upd H0 p0 (.lst [V.ref wa, V.ref ot])) := SameB.of s0
  generalize upd H0 p0 (.lst [V.ref wa, V.ref ot]) = H1 at ep0 hd1 hwa1 hot1 hh1 sB0
  -- the six bent ones
  refine ⟨6, rfl, by decide, by decide, comp_by (walked_range (lo := 0) (n := 6)) (by decide) (fun D i acc H2 => ∃ c2 k2, Draw H2 d c2 k2 fl ∧ 0 ≤ k2 ∧ k2 ≤ 1000 + i ∧ SameB d H1 H2 ∧ (∃ o, H2 D = some o) ∧ acc.length ≤ i ∧ ∀ x ∈ acc, Bnt K (cut [D, d] H2) x)
    (fun D nD => ⟨c, k, hd1.same (same_new nD _), k0, by omega, SameB.of (same_new nD _), ⟨_, upd_same⟩, Nat.le_refl _, fun _ z => (nomatch z)⟩) (fun _ _ _ _ _ => trivial) ?_ ?_⟩
  · intro D i x acc H2 nD hx eD ⟨c2, k2, d2, k20, k21, sm, _, la, ba⟩
    have hi : i < 6 := by
      have := (List.getElem?_eq_some_iff.mp hx).1
      simpa using this
    refine noTest ?_
    refine ⟨_, rfl, _, rfl, _, rfl, d, c2, k2, fl, rfl, d2, k20, by omega, fun r c3 H3 d3 s3 => ?_⟩
    have Dd : D ≠ d := draw_ne hd1 nD
    have eD3 := s3 _ _ Dd eD
    have w3 := (hwa1.sameB hd1 (sm.trans s3))
    have nw : wa ∉ [D, d] := fun z => by
      rcases List.mem_cons.mp z with z | z
      · exact ne_of_none hwa1.1 nD z
      · exact hwa1.ne hd1 (List.mem_singleton.mp z)
    have tw := (w3.cut nw).tp (K := K)
    have th3 : There [D, d] H3 := fun e he => by
      rcases List.mem_cons.mp he with z | z
      · rw [z]; exact ⟨_, eD3⟩
      · rw [List.mem_singleton.mp z]; exact ⟨_, d3⟩
    refine ⟨wa, [D, d], good, r, rfl, th3, tw.1, tw.2, by omega, by omega, fun y H4 s4 b4 => ⟨s4 _ _ eD3, c3, k2 + 1, ?_, by omega, by omega, fun b o nb e => ?_, ⟨_, upd_same⟩, by rw [List.length_append, List.length_singleton]; omega, fun z hz => ?_⟩⟩
    · exact (upd_ne (Ne.symm Dd)).trans (s4 _ _ d3)
    · rw [upd_ne (ne_of_none e nD)]
      exact s4 _ _ (s3 _ _ nb (sm _ _ nb e))
    · rcases List.mem_append.mp hz with m | m
      · have sC : Same (cut [D, d] H2) (cut [D, d] H3) := fun b o e => by
          obtain ⟨n1, e1⟩ := cut_iff.mp e
          exact cut_iff.mpr ⟨n1, s3 _ _ (fun q => n1 (by rw [q]; exact List.mem_cons_of_mem _ List.mem_cons_self)) e1⟩
        exact (((ba z m).same sC).same (same_cut s4)).same same_cut_upd
      · rw [List.mem_singleton.mp m]
        exact b4.same same_cut_upd
  intro Dl acc H2 nD eD ⟨c2, k2, d2, k20, k21, sm, _, la, ba⟩
  have la6 : acc.length ≤ 6 := by simpa using la
  have e02 := sm _ _ n0d ep0
  refine ⟨p0, Dl, _, acc, rfl, rfl, e02, eD, (by show 2 + _ ≤ sizeLine; exact small (by omega)), fun p3 np3 => ?_⟩
  have s3 := same_new np3 (.lst ([V.ref wa, V.ref ot] ++ acc))
  have hwa3 := (hwa1.sameB hd1 sm).same s3
  have hot3 := (hot1.sameB hd1 sm).same s3
  have d3 := d2.same s3
  have all3 : ∀ x ∈ [V.ref wa, V.ref ot] ++ acc, Bnt K (cut [d] (upd H2 p3 (.lst ([V.ref wa, V.ref ot] ++ acc)))) x := fun x hx => by
    rcases List.mem_append.mp hx with m | m
    · simp only [List.mem_cons, List.not_mem_nil, or_false] at m
      rcases m with rfl | rfl
      · exact ((hwa3.cut (ds := [d]) (fun z => hwa3.ne d3 (List.mem_singleton.mp z))).tp (K := K)).1.bnt (by decide)
      · exact ((hot3.cut (ds := [d]) (fun z => hot3.ne d3 (List.mem_singleton.mp z))).tp (K := K)).1.bnt (by decide)
    · exact ((ba x m).same same_cut_less).same (same_cut s3)
  have hh3 : Ty7 (cut [d] (upd H2 p3 (.lst ([V.ref wa, V.ref ot] ++ acc)))) holes := (hh1.same (same_cutB sm)).same (same_cut s3)
  have ep3 : (upd H2 p3 (.lst ([V.ref wa, V.ref ot] ++ acc))) p3 = some (.lst ([V.ref wa, V.ref ot] ++ acc)) := upd_same
  have sB3 : SameB d H0 (upd H2 p3 (.lst ([V.ref wa, V.ref ot] ++ acc))) := (sB0.trans sm).trans (SameB.of s3)
  generalize [V.ref wa, V.ref ot] ++ acc = things at all3 ep3 hh3 sB3
  generalize upd H2 p3 (.lst things) = H4 at all3 ep3 hh3 sB3
  refine ⟨p3, rfl, ⟨_, SqL.of ep3⟩, for_list (K := K) (a := p3) (xs := things) (fun i σ H5 => ∃ u8 u9 : Option V, σ = [some sc, v1, some (.ref d), v3, some (.int good), some holes, some (.ref wa), some (.ref ot), u8, u9, v10, v11, v12] ∧ Same H4 H5)
    ⟨v8, v9, rfl, Same.refl _⟩ (fun i σ H5 _ ⟨_, _, _, s5⟩ => SqL.of (s5 _ _ ep3)) ?_ ?_⟩
  · rintro i x σ H5 hx ⟨u8, u9, rfl, s5⟩
    have bx := all3 x (List.mem_of_getElem? hx)
    obtain ⟨z, hz⟩ := bx.text
    obtain ⟨o, tx, so, _⟩ := bx
    have sx : Same (cut [d] H4) H5 := of_cut.trans s5
    refine ⟨_, rfl, hz H5 _ sx ?_⟩
    refine ⟨_, rfl, _, rfl, holes, x, o, rfl, hh3.same sx, tx.same sx, so, fun H6 s6 => ?_⟩
    have sx6 := sx.trans s6
    refine ⟨_, rfl, _, rfl, holes, x, o, rfl, hh3.same sx6, tx.same sx6, so, rfl, _, rfl, ?_⟩
    refine iteNS rfl ⟨_, rfl, hz H6 _ sx6 ⟨_, rfl, rfl, _, rfl, iteNS rfl ⟨_, _, rfl, s5.trans s6⟩⟩⟩
  · rintro σ H5 ⟨u8, u9, rfl, s5⟩
    exact fin u8 u9 H5 (sB3.trans (SameB.of s5))
end
end K1
namespace K1
open PySem L2 Nd
theorem in_ints {i : Int} {ns : List Int} : inV (.int i) (ns.map V.int) = true ↔ i ∈ ns := by
  unfold inV
  rw [List.any_map, List.any_eq_true]
  constructor
  · rintro ⟨j, hj, e⟩
    have e' : eqV (.int j) (.int i) = true := e
    have : j = i := by simpa [eqV] using e'
    rw [← this]; exact hj
  · intro h
    refine ⟨i, h, ?_⟩
    show eqV (.int i) (.int i) = true
    simp [eqV]
theorem rising_eq : ∀ {l1 l2 : List Int}, l1.Pairwise (· < ·) → l2.Pairwise (· < ·) → (∀ x, x ∈ l1 ↔ x ∈ l2) → l1 = l2
  | [], [], _, _, _ => rfl
  | [], b :: l, _, _, h => by have := (h b).mpr List.mem_cons_self; cases this
  | a :: l, [], _, _, h => by have := (h a).mp List.mem_cons_self; cases this
  | a :: l1, b :: l2, p1, p2, h => by
    obtain ⟨h1, q1⟩ := List.pairwise_cons.mp p1
    obtain ⟨h2, q2⟩ := List.pairwise_cons.mp p2
    have e : a = b := by
      rcases List.mem_cons.mp ((h a).mp List.mem_cons_self) with z | z
      · exact z
      · rcases List.mem_cons.mp ((h b).mpr List.mem_cons_self) with y | y
        · exact y.symm
        · have := h1 b y; have := h2 a z; omega
    subst e
    rw [rising_eq q1 q2 fun x => ⟨fun hx => ?_, fun hx => ?_⟩]
    · rcases List.mem_cons.mp ((h x).mp (List.mem_cons_of_mem _ hx)) with z | z
      · have := h1 x hx; omega
      · exact z
    · rcases List.mem_cons.mp ((h x).mpr (List.mem_cons_of_mem _ hx)) with z | z
      · have := h2 x hx; omega
      · exact z
theorem strict_of : ∀ {l : List Int}, l.Nodup → l.Pairwise (· ≤ ·) → l.Pairwise (· < ·)
  | [], _, _ => .nil
  | a :: l, n, p => by
    obtain ⟨h1, q1⟩ := List.pairwise_cons.mp p
    obtain ⟨m1, n1⟩ := List.nodup_cons.mp n
    refine List.pairwise_cons.mpr ⟨fun b hb => ?_, strict_of n1 q1⟩
    have := h1 b hb
    have : a ≠ b := fun z => m1 (by rw [z]; exact hb)
    omega
def either (h : Nat) (ns ms : List Int) : List Int := ((List.range h).map fun i : Nat => (0 + i : Int)).filter fun i => inV (.int i) (ns.map V.int) || inV (.int i) (ms.map V.int)
theorem either_eq {h : Nat} {ns ms ts : List Int} (rn : Rising h ns) (rm : Rising h ms) (nd : ts.Nodup) (pw : ts.Pairwise (· ≤ ·)) (mem : ∀ x, x ∈ ts ↔ x ∈ ns ++ ms) : either h ns ms = ts := by
  refine rising_eq ?_ (strict_of nd pw) fun x => ?_
  · refine List.Pairwise.filter _ ?_
    rw [List.pairwise_map]
    exact List.Pairwise.imp (fun {a b} (z : a < b) => by omega) List.pairwise_lt_range
  · unfold either
    rw [List.mem_filter, mem, List.mem_append, Bool.or_eq_true, in_ints, in_ints]
    constructor
    · exact fun z => z.2
    · intro z
      refine ⟨?_, z⟩
      have b : 0 ≤ x ∧ x < h := z.elim (rn.2 x) (rm.2 x)
      exact List.mem_map.mpr ⟨x.toNat, List.mem_range.mpr (by omega), by omega⟩
theorem either_V (h : Nat) (ns ms : List Int) : (((List.range h).map fun i : Nat => V.int (0 + i)).filter fun x => inV x (ns.map V.int) || inV x (ms.map V.int)).map (fun x => x) = (either h ns ms).map V.int := by
  rw [List.map_id']
  unfold either
  rw [List.filter_map, List.filter_map, List.map_map]
  rfl
def Pr (good : Int) (H : Hp) (t : Addr) : Prop := ∃ (a b : Addr) (ns ms : List Int), H t = some (.tup [.ref a, .ref b]) ∧ Wo H a ns ∧ Wo H b ms ∧ Rising good ns ∧ Rising good ms
theorem Pr.same {good : Int} {H H' : Hp} {t : Addr} (h : Pr good H t) (s : Same H H') : Pr good H' t := let ⟨a, b, ns, ms, e, x, y, r⟩ := h; ⟨a, b, ns, ms, s _ _ e, x.same s, y.same s, r⟩
def tPairs : TS := fun D σ H => ∃ (sc : V) (wa ot : Addr) (good : Int) (ns ms : List Int) (v1 v2 v3 v5 v8 v9 v10 v11 v12 : Option V),
  σ = [some sc, v1, v2, v3, some (.int good), v5, some (.ref wa), some (.ref ot), v8, v9, v10, v11, v12] ∧ Wo H wa ns ∧ Wo H ot ms ∧ Rising good ns ∧ Rising good ms ∧ 1 ≤ good ∧ good ≤ 60 ∧
  ∀ (u10 u11 u12 : Option V) (H' : Hp), Same H H' → D.nx [some sc, v1, v2, v3, some (.int good), v5, some (.ref wa), some (.ref ot), v8, v9, u10, u11, u12] H'
section
variable {P : Program} {w : World} {K : PySem.W.Frag} {mg : Str → Option Value} {base : Heap}
theorem pairs_ok {fw fl fi ft fb f : Addr} {fwd fld fid ftd fbd : FuncData} {cdv : Value} {A : Around} {outer : List Env} {s : Shared} {H : Hp} {E : XK}
    (W : FnOk P w K mg base CX0 1 fw fwd ["one", "other"] (spIn K)) (bW : Binds K fwd ["one", "other"] []) (kW : PySem.W.keepIn K (.ref fw) = true) (mW : mg "within" = some (.ref fw))
    (L : FnOk P w K mg base CX0 1 fl fld ["_law_one", "_law_other"] (spIn K)) (bL : Binds K fld ["_law_one", "_law_other"] []) (kL : PySem.W.keepIn K (.ref fl) = true) (mL : mg "_law_within" = some (.ref fl))
    (I : FnOk P w K mg base CX0 2 fi fid ["_law_told", "_law_due_here"] spLIs) (bI : Binds K fid ["_law_told", "_law_due_here"] []) (kI : PySem.W.keepIn K (.ref fi) = true) (mIw : mg "_law_is_word" = some (.ref fi))
    (T : FnOk P w K mg base CX0 1 ft ftd ["one", "other"] (spTog K)) (bT : Binds K ftd ["one", "other"] []) (kT : PySem.W.keepIn K (.ref ft) = true) (mTo : mg "together" = some (.ref ft))
    (B : FnOk P w K mg base CX0 1 fb fbd ["one", "other"] (spBey K)) (bB : Binds K fbd ["one", "other"] []) (kB : PySem.W.keepIn K (.ref fb) = true) (mB : mg "beyond" = some (.ref fb))
    (mR : mg "range" = none) (mI : mg "isinstance" = none) (mBo : mg "bool" = none) (mT : mg "tuple" = none)
    (hr : Room 4 (cxOf CX0 P w K mg base NL "law" (defScope sLaw) f cdv A outer s H E).nox.A) :
    PS (cxOf CX0 P w K mg base NL "law" (defScope sLaw) f cdv A outer s H E).nox pairsS tPairs := by
  have hr1 : Room 1 (cxOf CX0 P w K mg base NL "law" (defScope sLaw) f cdv A outer s H E).nox.A := hr.mono (by decide)
  have hr2 : Room 2 (cxOf CX0 P w K mg base NL "law" (defScope sLaw) f cdv A outer s H E).nox.A := hr.mono (by decide)
  have hu := hu_of hr
  have CS2 : ∀ {scope : Scope} (h : scope = { kind := .function, names := [(".0", .local), ("_law_p", .local), ("_law_one", .free), ("_law_there", .free)], isGenerator := false, isCoroutine := false }),
      CompScope (cxOf CX0 P w K mg base NL "law" (defScope sLaw) f cdv A outer s H E).nox scope [("_law_there", s.heap.objs.size + 5), ("_law_one", s.heap.objs.size + 4)] "_law_p" ["_law_one", "_law_there"] [10, 11] := by
    rintro scope rfl
    refine ⟨by rfl, .inl (by decide +kernel), by rfl, by decide +kernel, .inl rfl, fun y c h => ?_, by rfl, by decide +kernel, rfl, fun k y j e1 e2 => ?_⟩
    · have z := lookup_mem h
      simp only [List.mem_cons, List.not_mem_nil, or_false, Prod.mk.injEq] at z
      rcases z with ⟨rfl, rfl⟩ | ⟨rfl, rfl⟩ <;> rfl
    · match k, e1, e2 with
      | 0, e1, e2 => cases e1; cases e2; exact ⟨rfl, rfl, .inl rfl⟩
      | 1, e1, e2 => cases e1; cases e2; exact ⟨rfl, rfl, .inl rfl⟩
      | k + 2, e1, e2 => cases e1
  have CS1 : ∀ {scope : Scope} (h : scope = { kind := .function, names := [(".0", .local), ("_law_p", .local), ("_law_there", .free)], isGenerator := false, isCoroutine := false }),
      CompScope (cxOf CX0 P w K mg base NL "law" (defScope sLaw) f cdv A outer s H E).nox scope [("_law_there", s.heap.objs.size + 5)] "_law_p" ["_law_there"] [11] := by
    rintro scope rfl
    refine ⟨by rfl, .inl (by decide +kernel), by rfl, by decide +kernel, .inl rfl, fun y c h => ?_, by rfl, by decide +kernel, rfl, fun k y j e1 e2 => ?_⟩
    · have z := lookup_mem h
      simp only [List.mem_cons, List.not_mem_nil, or_false, Prod.mk.injEq] at z
      rcases z with ⟨rfl, rfl⟩ <;> rfl
    · match k, e1, e2 with
      | 0, e1, e2 => cases e1; cases e2; exact ⟨rfl, rfl, .inl rfl⟩
      | k + 1, e1, e2 => cases e1
  suffices h : ∃ t, PS (cxOf CX0 P w K mg base NL "law" (defScope sLaw) f cdv A outer s H E).nox pairsS t ∧ ∀ D σ H, tPairs D σ H → t D σ H by
    obtain ⟨t, h1, h2⟩ := h
    exact PS.imp h1 h2
  refine ⟨_, ps_for PassesOwn.never rfl (pi_list (pe_lst (pa_cons (pe_tup (pa_cons (pv 6) (pa_cons (pv 7) pa_nil))) (pa_cons (pe_tup (pa_cons (pv 7) (pa_cons (pv 6) pa_nil))) (pa_cons (pe_tup (pa_cons (pv 6) (pa_cons (pv 6) pa_nil)))
      (pa_cons (pe_tup (pa_cons (pe_tup pa_nil) (pa_cons (pv 6) pa_nil))) (pa_cons (pe_tup (pa_cons (pv 6) (pa_cons (pe_tup pa_nil) pa_nil))) pa_nil)))))))
      (pg_tup rfl (pgs_cons (pg_name (i := 10) scL.nd rfl (Or.inr rfl)) (pgs_cons (pg_name (i := 11) scL.nd rfl (Or.inr rfl)) pgs_nil)))
    (pss_cons (ps_set (i := 12) scL.nd rfl (Or.inl rfl) (pe_call W hr1 rfl mW kW bW .nil pass0 (pa_cons (pv 10) (pa_cons (pv 11) pa_nil))))
    (pss_cons (ps_if (PW.pt (pw_or (pt_not (pt_val (pe_callB (r := rIs K) isi_ok rfl mI (by decide +kernel) (pa_cons (pv 12) (pa_cons (pe_bltn (v := .ty "bool") rfl mBo (by decide +kernel) rfl) pa_nil)))))
        (pw_or1 (pt_cmpR op_ne (pv 12) (pe_call L hr1 rfl mL kL bL .nil pass0 (pa_cons (pv 10) (pa_cons (pv 11) pa_nil))) (nomark _))))) (pss_one (ps_ret pe_bl)) pss_nil)
    (pss_cons (ps_if (pt_not (pt_val (pe_call I hr2 rfl mIw kI bI .nil pass0 (pa_cons (pe_call T hr1 rfl mTo kT bT .nil pass0 (pa_cons (pv 10) (pa_cons (pv 11) pa_nil))) (pa_cons (pe_callTy call_tuple_of rfl mT (by decide +kernel) (pa_cons
        (pe_comp (CS2 rfl) rfl (pi_range1 rfl mR (pa_cons (pv 4) pa_nil)) (fun _ _ _ => pts_one (PW.pt (pw_or (pt_cmpR (r := rIn K false) op_in_seq (pv 0) (pv 1) (by with_unfolding_all rfl)) (pw_or1 (pt_cmpR (r := rIn K false) op_in_seq (pv 0) (pv 2) (by with_unfolding_all rfl)))))) (fun _ _ _ => pv 0)) pa_nil)) pa_nil))))) (pss_one (ps_ret pe_bl)) pss_nil)
    (pss_one (ps_if (pt_not (pt_val (pe_call I hr2 rfl mIw kI bI .nil pass0 (pa_cons (pe_call B hr1 rfl mB kB bB .nil pass0 (pa_cons (pv 10) (pa_cons (pv 11) pa_nil))) (pa_cons (pe_callTy call_tuple_of rfl mT (by decide +kernel) (pa_cons
        (pe_comp (CS1 rfl) rfl (pi_tup (pv 10)) (fun _ _ _ => pts_one (pt_cmpR (r := rIn K true) op_notIn_seq (pv 0) (pv 1) (by with_unfolding_all rfl))) (fun _ _ _ => pv 0)) pa_nil)) pa_nil))))) (pss_one (ps_ret pe_bl)) pss_nil))))), ?_⟩
  rintro D σ H0 ⟨sc, wa, ot, good, ns, ms, v1, v2, v3, v5, v8, v9, v10, v11, v12, rfl, hwa, hot, rn, rm, g0, g1, fin⟩
  have z2 : 2 ≤ sizeLine := by decide
  have z0 : 0 ≤ sizeLine := by decide
  -- the five pairs
  refine ⟨_, rfl, _, rfl, z2, fun t1 n1 => ⟨_, rfl, _, rfl, z2, fun t2 n2 => ⟨_, rfl, _, rfl, z2, fun t3 n3 => ⟨z0, fun e1 ne1 => ⟨_, rfl, z2, fun t4 n4 => ⟨_, rfl, z0, fun e2 ne2 => ⟨z2, fun t5 n5 => ⟨(by show 5 ≤ sizeLine; decide), fun p np => ?_⟩⟩⟩⟩⟩⟩⟩⟩
  have s1 := same_new n1 (.tup [V.ref wa, V.ref ot])
  have p1 : Pr good (upd H0 t1 (.tup [V.ref wa, V.ref ot])) t1 := ⟨wa, ot, ns, ms, upd_same, hwa.same s1, hot.same s1, rn, rm⟩
  generalize upd H0 t1 (.tup [V.ref wa, V.ref ot]) = H1 at *
  have s2 := same_new n2 (.tup [V.ref ot, V.ref wa])
  have p2 : Pr good (upd H1 t2 (.tup [V.ref ot, V.ref wa])) t2 := ⟨ot, wa, ms, ns, upd_same, (hot.same s1).same s2, (hwa.same s1).same s2, rm, rn⟩
  generalize upd H1 t2 (.tup [V.ref ot, V.ref wa]) = H2 at *
  have s3 := same_new n3 (.tup [V.ref wa, V.ref wa])
  have w3 := ((hwa.same s1).same s2).same s3
  have p3 : Pr good (upd H2 t3 (.tup [V.ref wa, V.ref wa])) t3 := ⟨wa, wa, ns, ns, upd_same, w3, w3, rn, rn⟩
  generalize upd H2 t3 (.tup [V.ref wa, V.ref wa]) = H3 at *
  have s4 := same_new ne1 (.tup [])
  have w4 := w3.same s4
  have x4 : Wo (upd H3 e1 (.tup [])) e1 [] := ⟨upd_same, by decide, Rising.nil _⟩
  generalize upd H3 e1 (.tup []) = H4 at *
  have s5 := same_new n4 (.tup [V.ref e1, V.ref wa])
  have p5 : Pr good (upd H4 t4 (.tup [V.ref e1, V.ref wa])) t4 := ⟨e1, wa, [], ns, upd_same, x4.same s5, w4.same s5, Rising.nil _, rn⟩
  have w5 := w4.same s5
  generalize upd H4 t4 (.tup [V.ref e1, V.ref wa]) = H5 at *
  have s6 := same_new ne2 (.tup [])
  have w6 := w5.same s6
  have x6 : Wo (upd H5 e2 (.tup [])) e2 [] := ⟨upd_same, by decide, Rising.nil _⟩
  generalize upd H5 e2 (.tup []) = H6 at *
  have s7 := same_new n5 (.tup [V.ref wa, V.ref e2])
  have p7 : Pr good (upd H6 t5 (.tup [V.ref wa, V.ref e2])) t5 := ⟨wa, e2, ns, [], upd_same, w6.same s7, x6.same s7, rn, Rising.nil _⟩
  generalize upd H6 t5 (.tup [V.ref wa, V.ref e2]) = H7 at *
  have s8 := same_new np (.lst [V.ref t1, V.ref t2, V.ref t3, V.ref t4, V.ref t5])
  have sA : Same H0 (upd H7 p (.lst [V.ref t1, V.ref t2, V.ref t3, V.ref t4, V.ref t5])) := (((s1.trans s2).trans (s3.trans s4)).trans ((s5.trans s6).trans s7)).trans s8
  have ep : (upd H7 p (.lst [V.ref t1, V.ref t2, V.ref t3, V.ref t4, V.ref t5])) p = some (.lst [V.ref t1, V.ref t2, V.ref t3, V.ref t4, V.ref t5]) := upd_same
  have prs : ∀ x ∈ [V.ref t1, V.ref t2, V.ref t3, V.ref t4, V.ref t5], ∃ t, x = .ref t ∧ Pr good (upd H7 p (.lst [V.ref t1, V.ref t2, V.ref t3, V.ref t4, V.ref t5])) t := fun t ht => by
    simp only [List.mem_cons, List.not_mem_nil, or_false] at ht
    rcases ht with rfl | rfl | rfl | rfl | rfl
    · exact ⟨_, rfl, p1.same ((s2.trans (s3.trans s4)).trans (((s5.trans s6).trans s7).trans s8))⟩
    · exact ⟨_, rfl, p2.same ((s3.trans s4).trans (((s5.trans s6).trans s7).trans s8))⟩
    · exact ⟨_, rfl, p3.same (s4.trans (((s5.trans s6).trans s7).trans s8))⟩
    · exact ⟨_, rfl, p5.same ((s6.trans s7).trans s8)⟩
    · exact ⟨_, rfl, p7.same s8⟩
  refine ⟨p, rfl, ⟨_, SqL.of ep⟩, ?_⟩
  generalize [V.ref t1, V.ref t2, V.ref t3, V.ref t4, V.ref t5] = ts at *
  generalize upd H7 p (.lst ts) = G at *
  refine for_list (K := K) (a := p) (xs := ts) (fun i σ H9 => ∃ u10 u11 u12 : Option V, σ = [some sc, v1, v2, v3, some (.int good), v5, some (.ref wa), some (.ref ot), v8, v9, u10, u11, u12] ∧ Same G H9)
    ⟨v10, v11, v12, rfl, Same.refl _⟩ (fun i σ H9 _ ⟨_, _, _, _, s9⟩ => SqL.of (s9 _ _ ep)) ?_ ?_
  · rintro i x σ H9 hx ⟨u10, u11, u12, rfl, s9⟩
    obtain ⟨t, rfl, pt⟩ := prs x (List.mem_of_getElem? hx)
    obtain ⟨a, b, ns', ms', et, ha, hb, ra, rb⟩ := pt.same s9
    refine ⟨t, _, rfl, SqT.of et, rfl, _, _, rfl, _, _, rfl, rfl, ?_⟩
    -- told = within(one, there)
    refine ⟨_, rfl, _, rfl, a, b, ns', ms', rfl, SqT.of ha.1, SqT.of hb.1, ha.2.1, fun Ha sa => ?_⟩
    refine ⟨_, rfl, .bl _, "bool", _, true, rfl, .bl _, kit_same, _, rfl, iteF ⟨_, rfl, _, rfl, _, rfl, a, b, ns', ms', rfl, SqT.of (sa _ _ ha.1), SqT.of (sa _ _ hb.1), ha.2.1, fun Hb sb => ⟨rfl, _, rfl, iteNS rfl ?_⟩⟩⟩
    have ha2 := (ha.same sa).same sb
    have hb2 := (hb.same sa).same sb
    have sab := sa.trans sb
    -- together
    refine ⟨_, rfl, _, rfl, a, b, ns', ms', rfl, SqT.of ha2.1, SqT.of hb2.1, ha2.2.2, hb2.2.2, fun r ks Hc nr er nd pw mem sc' => ?_⟩
    have ha3 := ha2.same sc'
    have hb3 := hb2.same sc'
    refine ⟨_, rfl, good, rfl, by omega, by omega, comp_pure (walked_range (lo := 0) (n := good.toNat)) (by rw [List.length_map, List.length_range]; exact small (by omega)) (fun x => inV x (ns'.map V.int) || inV x (ms'.map V.int)) (fun x => x) (fun _ _ => trivial) ?_ (fun x _ _ H' _ Q' k => ⟨_, rfl, k H' (Same.refl _)⟩) ?_⟩
    · intro x hx' H' sm Q' k
      obtain ⟨j, _, rfl⟩ := List.mem_map.mp hx'
      refine ⟨_, rfl, _, rfl, a, _, rfl, .inr (SqT.of (sm _ _ ha3.1)), rfl, flat_ints ns', _, rfl, ?_⟩
      have k' := k H' (Same.refl _)
      cases c1 : inV (V.int (0 + j)) (ns'.map V.int) with
      | true =>
        rw [c1, Bool.true_or] at k'
        show if true = true then _ else _
        exact iteT k'
      | false =>
        rw [c1, Bool.false_or] at k'
        show if false = true then _ else _
        exact iteF ⟨_, rfl, _, rfl, b, _, rfl, .inr (SqT.of (sm _ _ hb3.1)), rfl, flat_ints ms', _, rfl, k'⟩
    intro D1 Hd nD1 eD1 sd
    rw [either_V, either_eq (by rw [show ((good.toNat : Nat) : Int) = good by omega]; exact ra) (by rw [show ((good.toNat : Nat) : Int) = good by omega]; exact rb) nd pw mem] at eD1
    refine ⟨D1, _, rfl, .inl ⟨SqL.of eD1, fun r2 nr2 => ?_⟩⟩
    have s10 := same_new nr2 (.tup (ks.map V.int))
    have kl : ks.length ≤ 1000 := by
      have : ks.length ≤ U60.length := NdS.len_leI nd fun e he => by
        rcases List.mem_append.mp ((mem e).mp he) with z | z
        · exact mem_U60 (ha.2.2.2 e z).1 (ha.2.2.2 e z).2
        · exact mem_U60 (hb.2.2.2 e z).1 (hb.2.2.2 e z).2
      have e60 : U60.length = 60 := by decide
      omega
    refine ⟨r, r2, ks, rfl, s10 _ _ (sd _ _ er), upd_same, kl, fun He se => ⟨_, rfl, iteF ?_⟩⟩
    have sAll := ((sab.trans sc').trans sd).trans (s10.trans se)
    have ha4 := ha.same sAll
    have hb4 := hb.same sAll
    -- beyond
    refine ⟨_, rfl, _, rfl, a, b, ns', ms', rfl, SqT.of ha4.1, SqT.of hb4.1, ha4.2.1, fun r3 Hf nr3 er3 sf => ?_⟩
    have ha5 := ha4.same sf
    have hb5 := hb4.same sf
    refine ⟨_, rfl, a, rfl, ⟨_, SqT.of ha5.1⟩, comp_pure (walked_tup (xs := ns'.map V.int)) (by rw [List.length_map]; exact small (by have := ha5.2.1; omega)) (fun x => !inV x (ms'.map V.int)) (fun x => x) (fun H' sm => SqT.of (sm _ _ ha5.1)) ?_ (fun x _ _ H' _ Q' k => ⟨_, rfl, k H' (Same.refl _)⟩) ?_⟩
    · intro x hx' H' sm Q' k
      obtain ⟨j, _, rfl⟩ := mem_int hx'
      exact ⟨_, rfl, _, rfl, b, _, rfl, .inr (SqT.of (sm _ _ hb5.1)), rfl, flat_ints ms', _, rfl, k H' (Same.refl _)⟩
    intro D2 Hg nD2 eD2 sg
    rw [filter_ints] at eD2
    refine ⟨D2, _, rfl, .inl ⟨SqL.of eD2, fun r4 nr4 => ?_⟩⟩
    have s11 := same_new nr4 (.tup ((ns'.filter (notIn ms')).map V.int))
    refine ⟨r3, r4, _, rfl, s11 _ _ (sg _ _ er3), upd_same, ?_, fun Hh sh => ⟨_, rfl, iteF ⟨_, _, _, rfl, ((s9.trans sAll).trans sf).trans (sg.trans (s11.trans sh))⟩⟩⟩
    have := List.length_filter_le (notIn ms') ns'
    have := ha.2.1
    omega
  · rintro σ H9 ⟨u10, u11, u12, rfl, s9⟩
    exact fin u10 u11 u12 H9 (sA.trans s9)
end
end K1
namespace K1
open PySem L2 Nd
def cutI (xs : List Int) (lo hi : Option Int) : List Int := (xs.drop (HT.sIx xs.length 0 lo)).take (HT.sIx xs.length xs.length hi - HT.sIx xs.length 0 lo)
theorem cut_ints (xs : List Int) (lo hi : Option Int) : cutV (xs.map V.int) lo hi = (cutI xs lo hi).map V.int := by
  unfold cutV cutI
  rw [List.length_map, List.map_take, List.map_drop]
def spLaw (K : PySem.W.Frag) : Sp := fun vs H Q _ => ∃ (a : Addr) (ns : List Int), vs = [.ref a] ∧ SqL K H a (ns.map V.int) ∧ ns.length ≤ 63 ∧ ∀ H', Q (.bl true) H'
abbrev tailS : List Stmt := bodyS.drop 5
def tTail : TS := fun D σ H => ∃ (sc : V) (d : Addr) (c k good : Int) (fl : Bool) (holes : V) (v1 v3 v6 v7 v8 v9 v10 v11 v12 : Option V),
  σ = [some sc, v1, some (.ref d), v3, some (.int good), some holes, v6, v7, v8, v9, v10, v11, v12] ∧ Draw H d c k fl ∧ 0 ≤ k ∧ k ≤ 500 ∧ 1 ≤ good ∧ good ≤ 60 ∧ Ty7 (cut [d] H) holes ∧
  ∀ (u6 u7 u8 u9 u10 u11 u12 : Option V) (H' : Hp), SameB d H H' → D.nx [some sc, v1, some (.ref d), v3, some (.int good), some holes, u6, u7, u8, u9, u10, u11, u12] H'
theorem PSs.imp {X : Cx} {st : List Stmt} {t t' : TS} (h : PSs X st t) (k : ∀ D σ H, t' D σ H → t D σ H) : PSs X st t' := fun pins s σ H D I q => h pins s σ H D I (k D σ H q)
section
variable {P : Program} {w : World} {K : PySem.W.Frag} {mg : Str → Option Value} {base : Heap}
theorem tail_ok {fw f : Addr} {fwd : FuncData} {cdv : Value} {A : Around} {outer : List Env} {s : Shared} {H : Hp} {E : XK}
    (W : FnOk P w K mg base CX0 2 fw fwd ["_law_draws_here", "_law_holes"] spWord) (bW : Binds K fwd ["_law_draws_here", "_law_holes"] []) (kW : PySem.W.keepIn K (.ref fw) = true) (mW : mg "_law_word" = some (.ref fw))
    (T : PS (cxOf CX0 P w K mg base NL "law" (defScope sLaw) f cdv A outer s H E).nox thingsS (tThings K)) (R : PS (cxOf CX0 P w K mg base NL "law" (defScope sLaw) f cdv A outer s H E).nox pairsS tPairs)
    (hr : Room 4 (cxOf CX0 P w K mg base NL "law" (defScope sLaw) f cdv A outer s H E).nox.A) :
    PSs (cxOf CX0 P w K mg base NL "law" (defScope sLaw) f cdv A outer s H E).nox tailS tTail := by
  have hr2 : Room 2 (cxOf CX0 P w K mg base NL "law" (defScope sLaw) f cdv A outer s H E).nox.A := hr.mono (by decide)
  suffices h : ∃ t, PSs (cxOf CX0 P w K mg base NL "law" (defScope sLaw) f cdv A outer s H E).nox tailS t ∧ ∀ D σ H, tTail D σ H → t D σ H by
    obtain ⟨t, h1, h2⟩ := h
    exact PSs.imp h1 h2
  refine ⟨_, pss_cons (ps_set (i := 6) scL.nd rfl (Or.inr rfl) (pe_call W hr2 rfl mW kW bW .nil pass0 (pa_cons (pv 2) (pa_cons (pv 4) pa_nil))))
    (pss_cons (ps_set (i := 7) scL.nd rfl (Or.inl rfl) (pe_call W hr2 rfl mW kW bW .nil pass0 (pa_cons (pv 2) (pa_cons (pv 4) pa_nil))))
    (pss_cons T (pss_one R))), ?_⟩
  rintro D σ H0 ⟨sc, d, c, k, good, fl, holes, v1, v3, v6, v7, v8, v9, v10, v11, v12, rfl, hd, k0, k1, g0, g1, hh, fin⟩
  refine ⟨_, rfl, _, rfl, d, good, c, k, fl, rfl, hd, k0, by omega, by omega, by omega, fun w1 ns c1 k1' H1 nw1 ew1 lw1 rw1 d1 ka kb s1 => ?_⟩
  have x1 : Wo H1 w1 ns := ⟨ew1, lw1, rw1.up (by omega)⟩
  refine ⟨_, rfl, _, rfl, d, good, c1, k1', fl, rfl, d1, by omega, by omega, by omega, by omega, fun w2 ms c2 k2 H2 nw2 ew2 lw2 rw2 d2 kc kd s2 => ?_⟩
  have x2 : Wo H2 w2 ms := ⟨ew2, lw2, rw2.up (by omega)⟩
  have x1' := x1.sameB d1 s2
  refine ⟨sc, d, w1, w2, c2, k2, good, fl, holes, ns, ms, v1, v3, v8, v9, v10, v11, v12, rfl, d2, by omega, by omega, x1', x2, g0, g1, hh.same (same_cutB (s1.trans s2)), fun u8 u9 H3 s3 => ?_⟩
  refine ⟨sc, w1, w2, good, ns, ms, v1, _, v3, _, u8, u9, v10, v11, v12, rfl, x1'.sameB d2 s3, x2.sameB d2 s3, rw1, rw2, g0, g1, fun u10 u11 u12 H4 s4 => ?_⟩
  exact fin _ _ _ _ _ _ _ H4 (((s1.trans s2).trans s3).trans (SameB.of s4))
theorem holes8 {G : Hp} {p0 : Addr} {i : Int} {xs : List V} (e : G p0 = some (.tup xs)) : ∃ v, atI [V.int 0, V.int 61, V.int (-1), V.bl true, V.non, V.str "8", V.int (10 ^ (20 : Int).toNat), V.ref p0] (i % 8) = some v ∧ Ty7 G v := by
  have z := emod_in i 8 (by decide)
  obtain ⟨v, e', m⟩ := atI_in (xs := [V.int 0, V.int 61, V.int (-1), V.bl true, V.non, V.str "8", V.int (10 ^ (20 : Int).toNat), V.ref p0]) z.1 (by simpa using z.2)
  refine ⟨v, e', ?_⟩
  simp only [List.mem_cons, List.not_mem_nil, or_false] at m
  rcases m with rfl | rfl | rfl | rfl | rfl | rfl | rfl | rfl
  · exact .int _
  · exact .int _
  · exact .int _
  · exact .bl _
  · exact .non
  · exact .str _
  · exact .int _
  · exact .tup e
theorem ok_law {f fd1 fn1 fw1 : Addr} {fd d1 n1 w1 : FuncData} (F : Fun K "law" "law" sLaw f fd)
    (GD : FnOk P w K mg base CX0 1 fd1 d1 ["_law_cell"] spDraws) (bD : Binds K d1 ["_law_cell"] []) (kD : PySem.W.keepIn K (.ref fd1) = true) (mD : mg "_law_draws" = some (.ref fd1))
    (GN : FnOk P w K mg base CX0 1 fn1 n1 ["_law_draws_here"] spNext) (bN : Binds K n1 ["_law_draws_here"] []) (kN : PySem.W.keepIn K (.ref fn1) = true) (mN : mg "_law_next" = some (.ref fn1))
    (GW : FnOk P w K mg base CX0 2 fw1 w1 ["_law_draws_here", "_law_holes"] spWord) (bW : Binds K w1 ["_law_draws_here", "_law_holes"] []) (kW : PySem.W.keepIn K (.ref fw1) = true) (mW : mg "_law_word" = some (.ref fw1))
    (T : ∀ {cdv : Value} {A : Around} {outer : List Env} {s : Shared} {H : Hp} {E : XK}, Room 4 (cxOf CX0 P w K mg base NL "law" (defScope sLaw) f cdv A outer s H E).nox.A → PS (cxOf CX0 P w K mg base NL "law" (defScope sLaw) f cdv A outer s H E).nox thingsS (tThings K))
    (R : ∀ {cdv : Value} {A : Around} {outer : List Env} {s : Shared} {H : Hp} {E : XK}, Room 4 (cxOf CX0 P w K mg base NL "law" (defScope sLaw) f cdv A outer s H E).nox.A → PS (cxOf CX0 P w K mg base NL "law" (defScope sLaw) f cdv A outer s H E).nox pairsS tPairs) :
    FnOk P w K mg base CX0 5 f fd ["_law_script"] (spLaw K) := by
  refine F.ok scL (fun vs H Q E h => ?_) (fun cdv A outer s H vs Q E hr h => ?_)
  · obtain ⟨a, ns, rfl, _⟩ := h
    rfl
  obtain ⟨a, ns, rfl, hS, h63, q⟩ := h
  have hr2 : Room 2 _ := hr.mono (by decide)
  have hr1 : Room 1 _ := hr.mono (by decide)
  refine ⟨_, pss_cons (ps_for PassesOwn.never rfl (pi_list (pe_op op_cat (pe_slice sl_list (pv 0) po_none (po_some pe_int)) (pe_lst (pa_cons pe_int pa_nil)))) (pg_name (i := 1) scL.nd rfl (Or.inl rfl))
      (pss_cons (ps_set (i := 2) scL.nd rfl (Or.inr rfl) (pe_call GD hr1 rfl mD kD bD .nil pass0 (pa_cons (pv 1) pa_nil)))
      (pss_cons (ps_set (i := 3) scL.nd rfl (Or.inl rfl) (pe_call GN hr1 rfl mN kN bN .nil pass0 (pa_cons (pv 2) pa_nil)))
      (pss_cons (ps_set (i := 4) scL.nd rfl (Or.inr rfl) (pe_op op_add pe_int (pe_op op_mod (pe_op op_fdiv (pv 3) pe_int) pe_int)))
      (pss_cons (ps_set (i := 5) scL.nd rfl (Or.inl rfl) (pv 4))
      (pss_cons (ps_if (pt_cmpR op_eq (pe_op op_mod (pv 3) pe_int) pe_int (nomark _))
        (pss_one (ps_set (i := 5) scL.nd rfl (Or.inl rfl) (pe_ix ix_list (pe_lst (pa_cons pe_int (pa_cons pe_int (pa_cons (pe_un un_neg pe_int) (pa_cons pe_bl (pa_cons pe_non (pa_cons pe_str (pa_cons (pe_op op_pow pe_int pe_int) (pa_cons (pe_tup (pa_cons pe_int pa_nil)) pa_nil)))))))))
          (pe_op op_mod (pe_op op_fdiv (pv 3) pe_int) pe_int) (fun _ _ => rfl)))) pss_nil)
      (tail_ok GW bW kW mW (T hr) (R hr) hr)))))))
    (pss_one (ps_ret pe_bl)), ?_⟩
  -- script[:10] + [0]
  refine ⟨_, rfl, 10, rfl, a, _, rfl, hS, fun p1 np1 => ⟨(by show 1 ≤ sizeLine; decide), fun p2 np2 => ?_⟩⟩
  have s1 : Same H (upd H p1 (.lst (cutV (ns.map V.int) none (some 10)))) := same_new np1 _
  have s2 := same_new np2 (.lst [V.int 0])
  have cl := cutV_length (ns.map V.int) none (some 10)
  rw [List.length_map] at cl
  refine ⟨p1, p2, _, _, rfl, rfl, s2 _ _ upd_same, upd_same, (by show _ + 1 ≤ sizeLine; exact small (by omega)), fun p3 np3 => ?_⟩
  have hp3 : (upd (upd (upd H p1 (.lst (cutV (ns.map V.int) none (some 10)))) p2 (.lst [V.int 0])) p3 (.lst (cutV (ns.map V.int) none (some 10) ++ [V.int 0]))) p3 = some (.lst (cutV (ns.map V.int) none (some 10) ++ [V.int 0])) := upd_same
  generalize upd (upd (upd H p1 (.lst (cutV (ns.map V.int) none (some 10)))) p2 (.lst [V.int 0])) p3 (.lst (cutV (ns.map V.int) none (some 10) ++ [V.int 0])) = H3 at hp3
  have allInt : ∀ x ∈ cutV (ns.map V.int) none (some 10) ++ [V.int 0], ∃ i : Int, x = .int i := fun x hx => by
    rw [cut_ints] at hx
    rcases List.mem_append.mp hx with hx | hx
    · obtain ⟨i, _, e⟩ := List.mem_map.mp hx
      exact ⟨i, e.symm⟩
    · exact ⟨0, by simpa using hx⟩
  generalize cutV (ns.map V.int) none (some 10) ++ [V.int 0] = cells at hp3 allInt
  refine ⟨p3, rfl, ⟨_, SqL.of hp3⟩, for_list (K := K) (a := p3) (xs := cells) (fun i σ H4 => ∃ v1 v2 v3 v4 v5 v6 v7 v8 v9 v10 v11 v12 : Option V, σ = [some (.ref a), v1, v2, v3, v4, v5, v6, v7, v8, v9, v10, v11, v12] ∧ Same H3 H4)
    ⟨none, none, none, none, none, none, none, none, none, none, none, none, rfl, Same.refl _⟩ (fun i σ H4 _ h => by obtain ⟨_, _, _, _, _, _, _, _, _, _, _, _, _, sm⟩ := h; exact SqL.of (sm _ _ hp3)) ?_ ?_⟩
  · rintro i x σ H4 hx ⟨v1, v2, v3, v4, v5, v6, v7, v8, v9, v10, v11, v12, rfl, sm⟩
    obtain ⟨c, rfl⟩ := allInt x (List.mem_of_getElem? hx)
    -- draws_here = draws(cell)
    refine ⟨_, rfl, c, rfl, fun d fl H5 nd5 d5 s5 => ?_⟩
    have nd3 : H3 d = none := sm.free nd5
    have fin : ∀ {H' : Hp}, SameB d H5 H' → Same H3 H' := fun {H'} z b o e => z b o (ne_of_none e nd3) (s5 _ _ (sm _ _ e))
    -- pick = next(draws_here)
    refine ⟨_, rfl, d, c, 0, fl, rfl, d5, by decide, by decide, fun pk c6 H6 d6 s6 => ?_⟩
    -- good, holes
    refine ⟨_, rfl, _, _, rfl, rfl, ⟨by decide, by decide⟩, _, _, rfl, rfl, (by show (0 : Int) < 60; decide), _, _, rfl, rfl, _, rfl, ?_⟩
    have gd := emod_in (pk / 8) 60 (by decide)
    generalize pk / 8 % 60 = gg at gd
    refine ⟨_, rfl, _, _, rfl, rfl, (by show (0 : Int) < 8; decide), rfl, _, rfl, ?_⟩
    have tail : ∀ (holes : V) (H7 : Hp) (D : Ends), Draw H7 d c6 (0 + 1) fl → SameB d H6 H7 → Ty7 (cut [d] H7) holes → (∀ (u1 u2 u3 u4 u5 u6 u7 u8 u9 u10 u11 u12 : Option V) (H' : Hp), Same H3 H' → D.nx [some (.ref a), u1, u2, u3, u4, u5, u6, u7, u8, u9, u10, u11, u12] H') →
        tTail D [some (.ref a), some (.int c), some (.ref d), some (.int pk), some (.int (1 + gg)), some holes, v6, v7, v8, v9, v10, v11, v12] H7 := fun holes H7 D d7 s7 th k =>
      ⟨_, d, c6, 0 + 1, 1 + gg, fl, holes, _, _, v6, v7, v8, v9, v10, v11, v12, rfl, d7, by decide, by decide, by omega, by omega, th, fun u6 u7 u8 u9 u10 u11 u12 H' s' => k _ _ _ _ _ _ _ _ _ _ _ _ H' (fin ((s6.trans s7).trans s'))⟩
    refine ite2 (fun _ => ?_) (fun _ => ?_)
    · refine ⟨_, rfl, 10, 20, rfl, rfl, ⟨by decide, by decide, by decide⟩, (by show 1 ≤ sizeLine; decide), fun p8 np8 => ⟨(by show 8 ≤ sizeLine; decide), fun p9 np9 => ?_⟩⟩
      have s8 := same_new np8 (.tup [V.int 8])
      have s9 := same_new np9 (.lst [V.int 0, V.int 61, V.int (-1), V.bl true, V.non, V.str "8", V.int (10 ^ (20 : Int).toNat), V.ref p8])
      have e8 : (cut [d] (upd (upd H6 p8 (.tup [V.int 8])) p9 (.lst [V.int 0, V.int 61, V.int (-1), V.bl true, V.non, V.str "8", V.int (10 ^ (20 : Int).toNat), V.ref p8]))) p8 = some (.tup [V.int 8]) :=
        cut_iff.mpr ⟨fun z => draw_ne d6 np8 (List.mem_singleton.mp z), s9 _ _ upd_same⟩
      obtain ⟨v, hv, tv⟩ := holes8 (i := pk / 8) e8
      refine ⟨_, rfl, _, _, rfl, rfl, ⟨by decide, by decide⟩, _, _, rfl, rfl, (by show (0 : Int) < 8; decide), p9, _, _, v, rfl, rfl, SqL.of upd_same, hv, ?_⟩
      exact tail v _ _ (d6.same (s8.trans s9)) (SameB.of (s8.trans s9)) tv fun u1 u2 u3 u4 u5 u6 u7 u8 u9 u10 u11 u12 H' s' => ⟨u1, u2, u3, u4, u5, u6, u7, u8, u9, u10, u11, u12, rfl, s'⟩
    · exact tail (.int (1 + gg)) H6 _ d6 (SameB.refl _ _) (.int _) fun u1 u2 u3 u4 u5 u6 u7 u8 u9 u10 u11 u12 H' s' => ⟨u1, u2, u3, u4, u5, u6, u7, u8, u9, u10, u11, u12, rfl, s'⟩
  · rintro σ H4 ⟨v1, v2, v3, v4, v5, v6, v7, v8, v9, v10, v11, v12, rfl, sm⟩
    exact q H4
end
end K1
namespace K1
open PySem L2 Nd
structure Def (K : PySem.W.Frag) (x : Str) (st : Stmt) (f : Addr) (fd : FuncData) : Prop where
  nm : PySem.W.nsIn K mainGlobals x = some (some (.ref f))
  fn : Fun K x x st f fd
theorem def_mk {K : PySem.W.Frag} {x : Str} {st : Stmt} {f : Addr} {od an : Option Addr} {sl : Array (Option Value)} {oc kV dc pm cd ct : Value}
    (a : PySem.W.nsIn K mainGlobals x = some (some (.ref f))) (l : K.lookup f = some ⟨oc, od, .func (PySem.W.fnOf x x (defArgs st) (defBody st) (defScope st) .none kV dc pm an cd ct), sl⟩) (c : PySem.W.codeIn K cd x = true) (k : PySem.W.keepIn K (.ref f) = true) :
    Def K x st f (PySem.W.fnOf x x (defArgs st) (defBody st) (defScope st) .none kV dc pm an cd ct) := ⟨a, fun_mk l c k⟩
theorem cls_ok {K : PySem.W.Frag} {D : Addr} {cd : ClassData} (h : PySem.W.clsIn K D = some cd) : ∃ cd, PySem.W.clsIn K D = some cd := ⟨cd, h⟩
structure Oth (K : PySem.W.Frag) (C D : Addr) : Prop where
  cls : ∃ cd, PySem.W.clsIn K D = some cd
  ty : PySem.W.typeIn K (.ref D) = some (.type "type")
  sub : PySem.W.subIn K (.ref C) (.ref D) = some false
  ne : C ≠ D
theorem Oth.kit {K : PySem.W.Frag} {C D : Addr} (h : Oth K C D) : PySem.W.kitOne K (.ref C) (.ref D) = some false := let ⟨_, e⟩ := h.cls; kit_ref e h.ty h.sub h.ne
theorem kitAny_no {K : PySem.W.Frag} {t : Value} : ∀ {cs : List Value}, (∀ c ∈ cs, PySem.W.kitOne K t c = some false) → PySem.W.kitAny K t cs = some false
  | [], _ => rfl
  | c :: cs, h => by
    unfold PySem.W.kitAny
    rw [h c List.mem_cons_self]
    exact kitAny_no fun x hx => h x (List.mem_cons_of_mem _ hx)
theorem oths {K : PySem.W.Frag} {C c1 c2 c3 c4 c5 c6 c7 : Addr} (o1 : Oth K C c1) (o2 : Oth K C c2) (o3 : Oth K C c3) (o4 : Oth K C c4) (o5 : Oth K C c5) (o6 : Oth K C c6) (o7 : Oth K C c7) : PySem.W.kitAny K (.ref C) ([c1, c2, c3, c4, c5, c6, c7].map Value.ref) = some false :=
  kitAny_no fun c hc => by
    simp only [List.map_cons, List.map_nil, List.mem_cons, List.not_mem_nil, or_false] at hc
    rcases hc with rfl | rfl | rfl | rfl | rfl | rfl | rfl
    · exact o1.kit
    · exact o2.kit
    · exact o3.kit
    · exact o4.kit
    · exact o5.kit
    · exact o6.kit
    · exact o7.kit
theorem all_mk {l : PySem.W.OpenLaw} {w : World} {K : PySem.W.Frag} {h : Heap} {mg : Str → Option Value} {fa f1 f2 f3 f4 f5 f6 f7 f8 f9 f10 f11 f12 f13 f14 f15 f16 f17 f18 : Addr} {d1 d2 d3 d4 d5 d6 d7 d8 d9 d10 d11 d12 d13 d14 d15 d16 d17 : FuncData} {NE CH CW c1 c2 c3 c4 c5 c6 c7 : Addr} {tk : Tok} (X : K.In h) (G : h.Ns mainGlobals mg) (hfa : mg "law" = some (.ref fa))
    {od an : Option Addr} {sl : Array (Option Value)} {oc kV dc pm cd ct : Value}
    (D1 : Def K "is_whole" sWhole f1 d1) (D2 : Def K "is_word" sIsWord f2 d2) (D3 : Def K "check_holes" sCheckH f3 d3) (D4 : Def K "check_word" sCheck f4 d4) (D5 : Def K "within" sWithin f5 d5) (D6 : Def K "together" sTogether f6 d6) (D7 : Def K "beyond" sBeyond f7 d7) (D8 : Def K "_law_draws" sDraws f8 d8) (D9 : Def K "_law_next" sNext f9 d9) (D10 : Def K "_law_word" sWord f10 d10) (D11 : Def K "_law_within" sLWithin f11 d11) (D12 : Def K "_law_kind" sKind f12 d12) (D13 : Def K "_law_said" sSaid f13 d13) (D14 : Def K "_law_whole" sLWhole f14 d14) (D15 : Def K "_law_due" sDue f15 d15) (D16 : Def K "_law_bent" sBent f16 d16) (D17 : Def K "_law_is_word" sLIs f17 d17)
    (aL : PySem.W.nsIn K mainGlobals "law" = some (some (.ref f18))) (lL : K.lookup f18 = some ⟨oc, od, .func (PySem.W.fnOf "law" "law" (defArgs sLaw) (defBody sLaw) (defScope sLaw) .none kV dc pm an cd ct), sl⟩) (cL : PySem.W.codeIn K cd "law" = true) (kL : PySem.W.keepIn K (.ref f18) = true)
    (z1 : PySem.W.nsIn K mainGlobals "isinstance" = some none) (z2 : PySem.W.nsIn K mainGlobals "int" = some none) (z3 : PySem.W.nsIn K mainGlobals "bool" = some none) (z4 : PySem.W.nsIn K mainGlobals "tuple" = some none) (z5 : PySem.W.nsIn K mainGlobals "all" = some none) (z6 : PySem.W.nsIn K mainGlobals "range" = some none) (z7 : PySem.W.nsIn K mainGlobals "sorted" = some none) (z8 : PySem.W.nsIn K mainGlobals "set" = some none) (z9 : PySem.W.nsIn K mainGlobals "len" = some none) (z10 : PySem.W.nsIn K mainGlobals "list" = some none) (z11 : PySem.W.nsIn K mainGlobals "str" = some none) (z12 : PySem.W.nsIn K mainGlobals "ValueError" = some none)
    (q1 : PySem.W.nsIn K mainGlobals "NeedleError" = some (some (.ref NE))) (q2 : PySem.W.nsIn K mainGlobals "NoHoles" = some (some (.ref CH))) (q3 : PySem.W.nsIn K mainGlobals "NoWord" = some (some (.ref CW))) (q4 : PySem.W.nsIn K mainGlobals "NoBack" = some (some (.ref c1))) (q5 : PySem.W.nsIn K mainGlobals "NoCount" = some (some (.ref c2))) (q6 : PySem.W.nsIn K mainGlobals "NoLine" = some (some (.ref c3))) (q7 : PySem.W.nsIn K mainGlobals "NoName" = some (some (.ref c4))) (q8 : PySem.W.nsIn K mainGlobals "NoSide" = some (some (.ref c5))) (q9 : PySem.W.nsIn K mainGlobals "NoText" = some (some (.ref c6))) (q10 : PySem.W.nsIn K mainGlobals "NoValue" = some (some (.ref c7)))
    (qM : PySem.W.nsIn K mainGlobals "MOST_HOLES" = some (some (.int 60 tk)))
    (xE : PySem.W.excIn K NE bmV "ValueError.__new__" = true) (xH : PySem.W.excIn K CH bmV "ValueError.__new__" = true) (xW : PySem.W.excIn K CW bmV "ValueError.__new__" = true)
    (TH : KX K NE CH CW [c1, c2, c3, c4, c5, c6, c7] CH true false) (TW : KX K NE CH CW [c1, c2, c3, c4, c5, c6, c7] CW false true) :
    ∃ fd : FuncData, (∀ (s : Shared) (v : Value), BindsTo s fd ⟨[v], []⟩ [("_law_script", v)]) ∧ ∀ base : Heap, K.In base → base.Ns mainGlobals mg → FnOk l.prog w K mg base CX0 5 fa fd ["_law_script"] (spLaw K) := by
  have e := hfa.symm.trans (PySem.W.mg_of X G aL)
  cases e
  have FL := fun_mk (st := sLaw) lL cL kL
  have b1 := D1.fn.binds (ps := ["thing"]) fun _ _ _ _ _ _ us hl => match us, hl with | [_], _ => rfl
  have b2 := D2.fn.binds (ps := ["holes", "thing"]) fun _ _ _ _ _ _ us hl => match us, hl with | [_, _], _ => rfl
  have b3 := D3.fn.binds (ps := ["holes"]) fun _ _ _ _ _ _ us hl => match us, hl with | [_], _ => rfl
  have b4 := D4.fn.binds (ps := ["holes", "word"]) fun _ _ _ _ _ _ us hl => match us, hl with | [_, _], _ => rfl
  have b5 := D5.fn.binds (ps := ["one", "other"]) fun _ _ _ _ _ _ us hl => match us, hl with | [_, _], _ => rfl
  have b6 := D6.fn.binds (ps := ["one", "other"]) fun _ _ _ _ _ _ us hl => match us, hl with | [_, _], _ => rfl
  have b7 := D7.fn.binds (ps := ["one", "other"]) fun _ _ _ _ _ _ us hl => match us, hl with | [_, _], _ => rfl
  have b8 := D8.fn.binds (ps := ["_law_cell"]) fun _ _ _ _ _ _ us hl => match us, hl with | [_], _ => rfl
  have b9 := D9.fn.binds (ps := ["_law_draws_here"]) fun _ _ _ _ _ _ us hl => match us, hl with | [_], _ => rfl
  have b10 := D10.fn.binds (ps := ["_law_draws_here", "_law_holes"]) fun _ _ _ _ _ _ us hl => match us, hl with | [_, _], _ => rfl
  have b11 := D11.fn.binds (ps := ["_law_one", "_law_other"]) fun _ _ _ _ _ _ us hl => match us, hl with | [_, _], _ => rfl
  have b12 := D12.fn.binds (ps := ["_law_error"]) fun _ _ _ _ _ _ us hl => match us, hl with | [_], _ => rfl
  have b13 := D13.fn.binds (ps := ["_law_holes", "_law_word_here"]) fun _ _ _ _ _ _ us hl => match us, hl with | [_, _], _ => rfl
  have b14 := D14.fn.binds (ps := ["_law_thing"]) fun _ _ _ _ _ _ us hl => match us, hl with | [_], _ => rfl
  have b15 := D15.fn.binds (ps := ["_law_holes", "_law_thing"]) fun _ _ _ _ _ _ us hl => match us, hl with | [_, _], _ => rfl
  have b16 := D16.fn.binds (ps := ["_law_word_here", "_law_holes", "_law_pick"]) fun _ _ _ _ _ _ us hl => match us, hl with | [_, _, _], _ => rfl
  have b17 := D17.fn.binds (ps := ["_law_told", "_law_due_here"]) fun _ _ _ _ _ _ us hl => match us, hl with | [_, _], _ => rfl
  have m1 := PySem.W.mg_of X G D1.nm
  have m2 := PySem.W.mg_of X G D2.nm
  have m3 := PySem.W.mg_of X G D3.nm
  have m4 := PySem.W.mg_of X G D4.nm
  have m5 := PySem.W.mg_of X G D5.nm
  have m6 := PySem.W.mg_of X G D6.nm
  have m7 := PySem.W.mg_of X G D7.nm
  have m8 := PySem.W.mg_of X G D8.nm
  have m9 := PySem.W.mg_of X G D9.nm
  have m10 := PySem.W.mg_of X G D10.nm
  have m11 := PySem.W.mg_of X G D11.nm
  have m12 := PySem.W.mg_of X G D12.nm
  have m13 := PySem.W.mg_of X G D13.nm
  have m14 := PySem.W.mg_of X G D14.nm
  have m15 := PySem.W.mg_of X G D15.nm
  have m16 := PySem.W.mg_of X G D16.nm
  have m17 := PySem.W.mg_of X G D17.nm
  have y1 := PySem.W.mg_none_of X G z1
  have y2 := PySem.W.mg_none_of X G z2
  have y3 := PySem.W.mg_none_of X G z3
  have y4 := PySem.W.mg_none_of X G z4
  have y5 := PySem.W.mg_none_of X G z5
  have y6 := PySem.W.mg_none_of X G z6
  have y7 := PySem.W.mg_none_of X G z7
  have y8 := PySem.W.mg_none_of X G z8
  have y9 := PySem.W.mg_none_of X G z9
  have y10 := PySem.W.mg_none_of X G z10
  have y11 := PySem.W.mg_none_of X G z11
  have y12 := PySem.W.mg_none_of X G z12
  have n1 := PySem.W.mg_of X G q1
  have n2 := PySem.W.mg_of X G q2
  have n3 := PySem.W.mg_of X G q3
  have n4 := PySem.W.mg_of X G q4
  have n5 := PySem.W.mg_of X G q5
  have n6 := PySem.W.mg_of X G q6
  have n7 := PySem.W.mg_of X G q7
  have n8 := PySem.W.mg_of X G q8
  have n9 := PySem.W.mg_of X G q9
  have n10 := PySem.W.mg_of X G q10
  have nM := PySem.W.mg_of X G qM
  refine ⟨PySem.W.fnOf "law" "law" (defArgs sLaw) (defBody sLaw) (defScope sLaw) .none kV dc pm an cd ct, fun s v => .of_eq rfl, fun base _ _ => ?_⟩
  have g1 := ok_whole (P := l.prog) (w := w) (mg := mg) (base := base) D1.fn y1 y2 y3
  have g2 := ok_isw (P := l.prog) (w := w) (mg := mg) (base := base) D2.fn g1 b1 D1.fn.kp m1 y1 y4
  have g3 := ok_checkH (P := l.prog) (w := w) (mg := mg) (base := base) D3.fn g1 b1 D1.fn.kp m1 nM n2 xH
  have g4 := ok_check (P := l.prog) (w := w) (mg := mg) (base := base) D4.fn g3 b3 D3.fn.kp m3 g2 b2 D2.fn.kp m2 n3 xW
  have g5 := ok_within (P := l.prog) (w := w) (mg := mg) (base := base) D5.fn y5
  have g6 := ok_together (P := l.prog) (w := w) (mg := mg) (base := base) D6.fn y4 y7 y8
  have g7 := ok_beyond (P := l.prog) (w := w) (mg := mg) (base := base) D7.fn y4
  have g8 := ok_draws (P := l.prog) (w := w) (mg := mg) (base := base) D8.fn 
  have g9 := ok_next (P := l.prog) (w := w) (mg := mg) (base := base) D9.fn 
  have g10 := ok_word (P := l.prog) (w := w) (mg := mg) (base := base) D10.fn g9 b9 D9.fn.kp m9 y6 y4
  have g11 := ok_lwithin (P := l.prog) (w := w) (mg := mg) (base := base) D11.fn 
  have g12 := ok_kind (NE := NE) (P := l.prog) (w := w) (mg := mg) (base := base) D12.fn y1 y12 y2 n2 n3 n4 n5 n6 n7 n8 n9 n10
  have g13 := ok_said (P := l.prog) (w := w) (mg := mg) (base := base) D13.fn g4 b4 D4.fn.kp m4 g12 b12 D12.fn.kp m12 n1 xE y2 TH TW
  have g14 := ok_lwhole (P := l.prog) (w := w) (mg := mg) (base := base) D14.fn y1 y2 y3
  have g15 := ok_due (P := l.prog) (w := w) (mg := mg) (base := base) D15.fn g14 b14 D14.fn.kp m14 y1 y4
  have g16 := ok_bent (P := l.prog) (w := w) (mg := mg) (base := base) D16.fn y9 y10
  have g17 := ok_lis (P := l.prog) (w := w) (mg := mg) (base := base) D17.fn g14 b14 D14.fn.kp m14 y1 y4
  exact ok_law FL g8 b8 D8.fn.kp m8 g9 b9 D9.fn.kp m9 g10 b10 D10.fn.kp m10 (fun hr => things_ok g9 b9 D9.fn.kp m9 g16 b16 D16.fn.kp m16 g13 b13 D13.fn.kp m13 g15 b15 D15.fn.kp m15 y6 y11 hr) (fun hr => pairs_ok g5 b5 D5.fn.kp m5 g11 b11 D11.fn.kp m11 g17 b17 D17.fn.kp m17 g6 b6 D6.fn.kp m6 g7 b7 D7.fn.kp m7 y6 y1 y3 y4 hr)
theorem walk {l : PySem.W.OpenLaw} {q : Program} {loose : List Str} {XP : (Str → Option Value) → Heap → Prop} {YP : World → Heap → Prop} {d : DefRec} {K : Params → PySem.W.Frag} (hn : l.most = some 63) (hdf : d.params.defaults = [])
    (hY : ∀ (w : World) (h : Heap), YP w h → (K w.params).In h)
    (F : ∀ (w : World) (mg : Str → Option Value) (fa : Addr) (h : Heap), (K w.params).In h → h.Ns mainGlobals mg → mg d.name = some (.ref fa) →
      ∃ fd : FuncData, (∀ (s : Shared) (u : Value), BindsTo s fd ⟨[u], []⟩ [("_law_script", u)]) ∧ ∀ base : Heap, (K w.params).In base → base.Ns mainGlobals mg → FnOk l.prog w (K w.params) mg base CX0 5 fa fd ["_law_script"] (spLaw (K w.params))) :
    PySem.W.WalkO q loose XP YP l.row.toRowW d [] (fun f vs => PySem.call f vs) :=
  L2.walk_of (n := 63) (k := 5) (x := "_law_script") (CX := fun _ => CX0) (sp := fun w => spLaw (K w.params)) hn (by decide) hdf ⟨rfl, by decide, by decide, rfl⟩ hY F (fun _ _ a ns hl _ hS => ⟨a, ns, rfl, hS, hl, fun _ => rfl⟩) fun _ _ _ _ _ z => z
end K1
open PySem PySem.W PyProof.Rows
set_option maxRecDepth 100000 in
set_option maxHeartbeats 0 in
theorem PySem.Challenge.cw_needledeck_k01_words_looked_at_holds : PySem.Challenge.rw_needledeck_k01_words_looked_at.Holds := by
  w_on; o_law; k_head; (case hw => w_witness2)
  k_fill
  refine K1.walk (l := PySem.Challenge.rw_needledeck_k01_words_looked_at) rfl rfl (fun w h Y => PySem.W.kIn_of Y) ?F
  case F =>
    intro w mg fa h KX G hmg
    refine' K1.all_mk KX G hmg (K1.def_mk ?a1 ?l1 ?c1 ?k1) (K1.def_mk ?a2 ?l2 ?c2 ?k2) (K1.def_mk ?a3 ?l3 ?c3 ?k3) (K1.def_mk ?a4 ?l4 ?c4 ?k4) (K1.def_mk ?a5 ?l5 ?c5 ?k5) (K1.def_mk ?a6 ?l6 ?c6 ?k6) (K1.def_mk ?a7 ?l7 ?c7 ?k7) (K1.def_mk ?a8 ?l8 ?c8 ?k8) (K1.def_mk ?a9 ?l9 ?c9 ?k9) (K1.def_mk ?a10 ?l10 ?c10 ?k10) (K1.def_mk ?a11 ?l11 ?c11 ?k11) (K1.def_mk ?a12 ?l12 ?c12 ?k12) (K1.def_mk ?a13 ?l13 ?c13 ?k13) (K1.def_mk ?a14 ?l14 ?c14 ?k14) (K1.def_mk ?a15 ?l15 ?c15 ?k15) (K1.def_mk ?a16 ?l16 ?c16 ?k16) (K1.def_mk ?a17 ?l17 ?c17 ?k17) ?aL ?lL ?cL ?kL ?z1 ?z2 ?z3 ?z4 ?z5 ?z6 ?z7 ?z8 ?z9 ?z10 ?z11 ?z12 ?q1 ?q2 ?q3 ?q4 ?q5 ?q6 ?q7 ?q8 ?q9 ?q10 ?qM ?xE ?xH ?xW ⟨⟨K1.cls_ok ?he1, ?he2, ?he3, ?he4, ?he5, ?he6⟩, Nd.kit_ty (by decide +kernel) ?hv, K1.oths ⟨K1.cls_ok ?ho1c, ?ho1t, ?ho1s, ?ho1n⟩ ⟨K1.cls_ok ?ho2c, ?ho2t, ?ho2s, ?ho2n⟩ ⟨K1.cls_ok ?ho3c, ?ho3t, ?ho3s, ?ho3n⟩ ⟨K1.cls_ok ?ho4c, ?ho4t, ?ho4s, ?ho4n⟩ ⟨K1.cls_ok ?ho5c, ?ho5t, ?ho5s, ?ho5n⟩ ⟨K1.cls_ok ?ho6c, ?ho6t, ?ho6s, ?ho6n⟩ ⟨K1.cls_ok ?ho7c, ?ho7t, ?ho7s, ?ho7n⟩, Nd.kit_self, K1.Oth.kit ⟨K1.cls_ok ?hxc, ?hxt, ?hxs, ?hxn⟩, ?hb⟩ ⟨⟨K1.cls_ok ?we1, ?we2, ?we3, ?we4, ?we5, ?we6⟩, Nd.kit_ty (by decide +kernel) ?wv, K1.oths ⟨K1.cls_ok ?wo1c, ?wo1t, ?wo1s, ?wo1n⟩ ⟨K1.cls_ok ?wo2c, ?wo2t, ?wo2s, ?wo2n⟩ ⟨K1.cls_ok ?wo3c, ?wo3t, ?wo3s, ?wo3n⟩ ⟨K1.cls_ok ?wo4c, ?wo4t, ?wo4s, ?wo4n⟩ ⟨K1.cls_ok ?wo5c, ?wo5t, ?wo5s, ?wo5n⟩ ⟨K1.cls_ok ?wo6c, ?wo6t, ?wo6s, ?wo6n⟩ ⟨K1.cls_ok ?wo7c, ?wo7t, ?wo7s, ?wo7n⟩, K1.Oth.kit ⟨K1.cls_ok ?wxc, ?wxt, ?wxs, ?wxn⟩, Nd.kit_self, ?wb⟩
    (case a1 => k_is); (case l1 => k_is); (case c1 => k_is); (case k1 => k_is)
    (case a2 => k_is); (case l2 => k_is); (case c2 => k_is); (case k2 => k_is)
    (case a3 => k_is); (case l3 => k_is); (case c3 => k_is); (case k3 => k_is)
    (case a4 => k_is); (case l4 => k_is); (case c4 => k_is); (case k4 => k_is)
    (case a5 => k_is); (case l5 => k_is); (case c5 => k_is); (case k5 => k_is)
    (case a6 => k_is); (case l6 => k_is); (case c6 => k_is); (case k6 => k_is)
    (case a7 => k_is); (case l7 => k_is); (case c7 => k_is); (case k7 => k_is)
    (case a8 => k_is); (case l8 => k_is); (case c8 => k_is); (case k8 => k_is)
    (case a9 => k_is); (case l9 => k_is); (case c9 => k_is); (case k9 => k_is)
    (case a10 => k_is); (case l10 => k_is); (case c10 => k_is); (case k10 => k_is)
    (case a11 => k_is); (case l11 => k_is); (case c11 => k_is); (case k11 => k_is)
    (case a12 => k_is); (case l12 => k_is); (case c12 => k_is); (case k12 => k_is)
    (case a13 => k_is); (case l13 => k_is); (case c13 => k_is); (case k13 => k_is)
    (case a14 => k_is); (case l14 => k_is); (case c14 => k_is); (case k14 => k_is)
    (case a15 => k_is); (case l15 => k_is); (case c15 => k_is); (case k15 => k_is)
    (case a16 => k_is); (case l16 => k_is); (case c16 => k_is); (case k16 => k_is)
    (case a17 => k_is); (case l17 => k_is); (case c17 => k_is); (case k17 => k_is)
    (case aL => k_is); (case lL => k_is); (case cL => k_is); (case kL => k_is)
    (case z1 => k_is); (case z2 => k_is); (case z3 => k_is); (case z4 => k_is); (case z5 => k_is); (case z6 => k_is); (case z7 => k_is); (case z8 => k_is); (case z9 => k_is); (case z10 => k_is); (case z11 => k_is); (case z12 => k_is)
    (case q1 => k_is); (case q2 => k_is); (case q3 => k_is); (case q4 => k_is); (case q5 => k_is); (case q6 => k_is); (case q7 => k_is); (case q8 => k_is); (case q9 => k_is); (case q10 => k_is); (case qM => k_is)
    (case xE => k_exc); (case xH => k_exc); (case xW => k_exc)
    (case he1 => k_is); (case he2 => k_is); (case he3 => k_is); (case he4 => k_is); (case he5 => k_is); (case he6 => k_is); (case hv => k_is); (case hb => k_is)
    (case ho1c => k_is); (case ho1t => k_is); (case ho1s => k_is); (case ho1n => decide)
    (case ho2c => k_is); (case ho2t => k_is); (case ho2s => k_is); (case ho2n => decide)
    (case ho3c => k_is); (case ho3t => k_is); (case ho3s => k_is); (case ho3n => decide)
    (case ho4c => k_is); (case ho4t => k_is); (case ho4s => k_is); (case ho4n => decide)
    (case ho5c => k_is); (case ho5t => k_is); (case ho5s => k_is); (case ho5n => decide)
    (case ho6c => k_is); (case ho6t => k_is); (case ho6s => k_is); (case ho6n => decide)
    (case ho7c => k_is); (case ho7t => k_is); (case ho7s => k_is); (case ho7n => decide)
    (case hxc => k_is); (case hxt => k_is); (case hxs => k_is); (case hxn => decide)
    (case we1 => k_is); (case we2 => k_is); (case we3 => k_is); (case we4 => k_is); (case we5 => k_is); (case we6 => k_is); (case wv => k_is); (case wb => k_is)
    (case wo1c => k_is); (case wo1t => k_is); (case wo1s => k_is); (case wo1n => decide)
    (case wo2c => k_is); (case wo2t => k_is); (case wo2s => k_is); (case wo2n => decide)
    (case wo3c => k_is); (case wo3t => k_is); (case wo3s => k_is); (case wo3n => decide)
    (case wo4c => k_is); (case wo4t => k_is); (case wo4s => k_is); (case wo4n => decide)
    (case wo5c => k_is); (case wo5t => k_is); (case wo5s => k_is); (case wo5n => decide)
    (case wo6c => k_is); (case wo6t => k_is); (case wo6s => k_is); (case wo6n => decide)
    (case wo7c => k_is); (case wo7t => k_is); (case wo7s => k_is); (case wo7n => decide)
    (case wxc => k_is); (case wxt => k_is); (case wxs => k_is); (case wxn => decide)
