import PyProof.Rows.All
import Wide.All
import OpenK.AllK
import Wide.FinOn
import Lean
import PyProof.EqAt
import PyProof.EqKinds
import PyProof.TupleCall
import PyProof.FactsAll.set
import PyProof.FactsAll.subtypes
import KE.KTupSum
import KE.KMinBuiltin
import PyProof.Draws
import PyProof.DictWalks
import PyProof.DictCompW
import PySem.Challenge.RW_needledeck_k51_counts_of_all_needlings
set_option Elab.async false
set_option linter.all false
set_option maxRecDepth 100000
set_option maxHeartbeats 4000000
namespace L2
open PySem PySem.Spec PyProof.Rows
abbrev Key:=Sum Int Str
def keyIs:Key→Value→Bool
  | .inl k,v=>Value.isInt k v
  | .inr x,v=>Value.isStrOf x v
def keyH (w:World):Key→Int
  | .inl k=>hashInt k
  | .inr x=>hashStr w x
theorem keyIs_shape:∀ {k:Key} {v:Value},keyIs k v=true→(∃ i t,k=Sum.inl i∧v=Value.int i t)∨(∃ x t,k=Sum.inr x∧v=Value.str x t)
  | .inl i,v,h=>by
    obtain ⟨t,e⟩:=Value.isInt_shape (k:=i) (v:=v) h
    exact .inl ⟨i,t,rfl,e⟩
  | .inr x,v,h=>by
    obtain ⟨t,e⟩:=Value.isStrOf_shape (x:=x) (v:=v) h
    exact .inr ⟨x,t,rfl,e⟩
theorem keyIs_int (i:Int) (t:Tok):keyIs (.inl i) (.int i t)=true:=by simp [keyIs,Value.isInt]
theorem keyIs_str (x:Str) (t:Tok):keyIs (.inr x) (.str x t)=true:=by simp [keyIs,Value.isStrOf]
theorem key_ll (a b:Int):decide ((Sum.inl a:Key)=Sum.inl b)=(a == b):=by
  by_cases e:a=b
  · subst e; simp
  · have h:¬ (Sum.inl a:Key)=Sum.inl b:=fun q=>e (Sum.inl.inj q)
    rw [decide_eq_false h]
    exact (beq_eq_false_iff_ne.mpr e).symm
theorem key_rr (a b:Str):decide ((Sum.inr a:Key)=Sum.inr b)=decide (a=b):=by
  by_cases e:a=b
  · subst e; simp
  · have h:¬ (Sum.inr a:Key)=Sum.inr b:=fun q=>e (Sum.inr.inj q)
    rw [decide_eq_false h,decide_eq_false e]
theorem key_lr (a:Int) (b:Str):decide ((Sum.inl a:Key)=Sum.inr b)=false:=decide_eq_false (fun q=>nomatch q)
theorem key_rl (a:Str) (b:Int):decide ((Sum.inr a:Key)=Sum.inl b)=false:=decide_eq_false (fun q=>nomatch q)
def mixKind (prog:Program) (w:World):PySem.KeyKind prog w Key where
  is:=keyIs
  hash:=keyH w
  inj:=fun v a b ha hb=>by
    rcases keyIs_shape ha with ⟨i,t,rfl,rfl⟩ | ⟨x,t,rfl,rfl⟩
    · rcases keyIs_shape hb with ⟨j,u,rfl,e⟩ | ⟨y,u,rfl,e⟩
      · injection e with e1 _; rw [e1]
      · exact nomatch e
    · rcases keyIs_shape hb with ⟨j,u,rfl,e⟩ | ⟨y,u,rfl,e⟩
      · exact nomatch e
      · injection e with e1 _; rw [e1]
  byValue:=fun k v h=>by
    rcases keyIs_shape h with ⟨i,t,rfl,rfl⟩ | ⟨x,t,rfl,rfl⟩ <;> rfl
  pyHash:=fun hv h=>by
    rcases keyIs_shape hv with ⟨i,t,rfl,rfl⟩ | ⟨x,t,rfl,rfl⟩
    · exact wpAny_pyHash_int h
    · exact wpAny_pyHash_str h
  eqBool:=fun hu hv h=>by
    rcases keyIs_shape hu with ⟨i,t,rfl,rfl⟩ | ⟨x,t,rfl,rfl⟩
    · rcases keyIs_shape hv with ⟨j,u,rfl,rfl⟩ | ⟨y,u,rfl,rfl⟩
      · rw [key_ll] at h; exact wpAny_eqBool_int h
      · rw [key_lr] at h; exact SeqAt.EqAt.int_str i t y u _ _ _ _ h
    · rcases keyIs_shape hv with ⟨j,u,rfl,rfl⟩ | ⟨y,u,rfl,rfl⟩
      · rw [key_rl] at h; exact SeqAt.EqAt.str_int x t j u _ _ _ _ h
      · rw [key_rr] at h; exact wpAny_eqBool_str h
  «strs»:=fun k x t v h=>by
    rcases keyIs_shape h with ⟨i,u,rfl,e⟩ | ⟨y,u,rfl,e⟩
    · exact nomatch e
    · injection e with e1 _
      subst e1
      cases v <;> rfl
theorem mixKind_int (prog:Program) (w:World) (i:Int) (t:Tok):(mixKind prog w).is (.inl i) (.int i t)=true:=keyIs_int i t
theorem mixKind_str (prog:Program) (w:World) (x:Str) (t:Tok):(mixKind prog w).is (.inr x) (.str x t)=true:=keyIs_str x t
end L2
namespace L2
open PySem PySem.Spec PyProof.Rows
inductive V where
  | non | bl (b:Bool) | int (i:Int) | str (x:Str) | byt (b:Array UInt8) | flt (b:UInt64) | ref (a:Addr) | ty (n:String)
  deriving DecidableEq
def RelV:V→Value→Prop
  | .non,u=>u=Value.none
  | .bl b,u=>u=Value.bool b
  | .int i,u=>∃ t,u=Value.int i t
  | .str x,u=>∃ t,u=Value.str x t
  | .byt b,u=>∃ t,u=Value.bytes b t
  | .flt b,u=>∃ t,u=Value.float b t
  | .ref a,u=>u=Value.ref a
  | .ty n,u=>u=Value.type n
abbrev Vals:List V→List Value→Prop:=Paired RelV
theorem Vals.length {xs:List V} {us:List Value} (r:Vals xs us):xs.length=us.length:=Paired.length r
theorem Vals.get:∀ {xs:List V} {us:List Value} {i:Nat} {x:V},Vals xs us→xs[i]? = some x→∃ u,us[i]? = some u∧RelV x u
  | _,_,_,_,.nil,e=>by simp at e
  | _,_,0,_,.cons r _,e=>by simp at e; subst e; exact ⟨_,rfl,r⟩
  | _,_,i+1,x,.cons _ t,e=>by
    obtain ⟨u,h1,h2⟩:=Vals.get (i:=i) (x:=x) t (by simpa using e)
    exact ⟨u,by simpa using h1,h2⟩
theorem Vals.set {x:V} {u:Value} (r:RelV x u):∀ {xs:List V} {us:List Value} (i:Nat),Vals xs us→Vals (xs.set i x) (us.set i u)
  | _,_,_,.nil=>.nil
  | _,_,0,.cons _ t=>.cons r t
  | _,_,i+1,.cons q t=>.cons q (Vals.set r i t)
theorem Vals.append:∀ {xs ys:List V} {us ws:List Value},Vals xs us→Vals ys ws→Vals (xs++ys) (us++ws)
  | _,_,_,_,.nil,s=>s
  | _,_,_,_,.cons r t,s=>.cons r (Vals.append t s)
theorem Vals.take:∀ {xs:List V} {us:List Value} (n:Nat),Vals xs us→Vals (xs.take n) (us.take n)
  | _,_,0,_=>.nil
  | _,_,_+1,.nil=>.nil
  | _,_,n+1,.cons r t=>.cons r (Vals.take n t)
theorem Vals.drop:∀ {xs:List V} {us:List Value} (n:Nat),Vals xs us→Vals (xs.drop n) (us.drop n)
  | _,_,0,r=>r
  | _,_,_+1,.nil=>.nil
  | _,_,n+1,.cons _ t=>Vals.drop n t
def RelO:Option V→Option Value→Prop
  | some v,some u=>RelV v u
  | none,none=>True
  | _,_=>False
def KV {κ:Type}:List (κ×V)→List (κ×Value)→Prop:=Paired fun (p:κ×V) (q:κ×Value)=>p.1=q.1∧RelV p.2 q.2
def kV:Key→V
  | .inl i=>.int i
  | .inr x=>.str x
inductive HO where
  /-- a list -/
  | lst (xs:List V)
  /-- a tuple (never changes) -/
  | tup (xs:List V)
  /-- a dict whose keys are ints and texts; one whose keys are tuples of ints and texts (the empty one is both) -/
  | dK (kvs:List (Key×V)) | dT (kvs:List (List Key×V))
  /-- a set of ints: its members,its size -/
  | set (S:Int→Bool) (n:Nat)
  /-- an instance of the class at C,its dict at dx,its attributes -/
  | ins (C dx:Addr) (fs:List (Str×V))
  /-- the dict of the instance at x -/
  | own (x:Addr)
  /-- the dict of an exception -/
  | xd (fs:List (Str×V))
  /-- a bound method,f of x -/
  | met (f x:Addr)
  /-- a range object lo,lo+1,.. below hi -/
  | rng (lo hi:Int)
  /-- a thing that is known to the object (the script; a dict while a loop walks it): read,never written while it is so -/
  | frz (o:Obj) (u:HO)
  /-- a code object's table -/
  | tbl (ps:Array Value)
  /-- any other thing,by what is true of its one object (a def of one's own: SetO a S n:=HO.ext fun h=>..) -/
  | ext (φ:Heap→Prop)
abbrev Hp:=Addr→Option HO
def upd (H:Hp) (a:Addr) (o:HO):Hp:=fun b=>if b=a then some o else H b
theorem upd_same {H:Hp} {a:Addr} {o:HO}:upd H a o a=some o:=by unfold upd; rw [if_pos rfl]
theorem upd_ne {H:Hp} {a b:Addr} {o:HO} (h:b≠a):upd H a o b=H b:=by unfold upd; rw [if_neg h]
theorem ne_of {H:Hp} {a b:Addr} {o u:HO} (h:H a=some o) (h':H b=some u) (d:o≠u):a≠b:=by
  intro e; subst e; rw [h] at h'; exact d (Option.some.inj h')
theorem ne_of_none {H:Hp} {a b:Addr} {o:HO} (h:H a=some o) (h':H b=none):a≠b:=by
  intro e; subst e; rw [h] at h'; cases h'
section
variable (P:Program) (w:World)
def ObjOk (H:Hp) (h:Heap) (a:Addr):HO→Prop
  | .lst xs=>xs.length≤sizeLine∧∃ (its:List Value) (n:Nat),Vals xs its∧h.get? a=some { cls:=.type "list",data:=.seq its.toArray n }
  | .tup xs=>xs.length≤sizeLine∧∃ its:List Value,Vals xs its∧IsTup h a its.toArray
  | .dK kvs=>kvs.length≤sizeLine∧(a == sysModules)=false∧∃ vs,KV kvs vs∧h.DictOf (mixKind P w) a vs
  | .dT kvs=>kvs.length≤sizeLine∧(a == sysModules)=false∧∃ xs:List (List Key×Addr×Value),
      Paired (fun (p:List Key×V) (q:List Key×Addr×Value)=>p.1=q.1∧H q.2.1=some (.tup (p.1.map kV))∧RelV p.2 q.2.2) kvs xs ∧
      ∃ o es ep,h.get? a=some o∧o.ExactDict∧o.data=.dict es ep∧es.toList=xs.map (entryOfKey (tupleKind (mixKind P w)))∧(xs.map (·.1)).Nodup∧ep=es.size
  | .set S n=>h.SetOf (intKind P w) a S n
  | .ins C dx fs=>H dx=some (.own a)∧fs.length≤1000∧dx≠a∧h.get? a=some (PySem.W.instObj C dx) ∧
      ∃ mA,h.Ns1 dx mA∧(∀ f,RelO (fs.lookup f) (mA f))∧PySem.Within mA (fs.map (·.1))
  | .own _=>∃ o,h.get? a=some o
  | .xd fs=>∃ mA,h.Ns1 a mA∧∀ f,RelO (fs.lookup f) (mA f)
  | .rng lo hi=>∃ t u v,h.get? a=some { cls:=.type "range",data:=.fields #[.int lo t,.int hi u,.int 1 v] }
  | .frz o u=>h.get? a=some o∧ObjOk H h a u
  | .tbl ps=>h.get? a=some { cls:=.none,data:=.fields ps }
  | .met f x=>h.get? a=some (PySem.W.methodObj (.ref f) (.ref x))
  | .ext φ=>φ h∧(∃ o,h.get? a=some o)∧∀ h1 h2:Heap,φ h1→(∀ o,h1.get? a=some o→h2.get? a=some o)→φ h2
def HOk (H:Hp) (h:Heap):Prop:=∀ a o,H a=some o→ObjOk P w H h a o
end
section
variable {P:Program} {w:World} {H H':Hp} {h h':Heap} {a:Addr} {o:HO}
theorem ObjOk.lt (x:ObjOk P w H h a o):a<h.objs.size:=by
  cases o with
  | lst xs=>obtain ⟨_,_,_,_,e⟩:=x; exact Heap.lt_size e
  | tup xs=>obtain ⟨_,_,_,p⟩:=x; exact p.lt
  | dK kvs=>obtain ⟨_,_,_,_,o,_,_,e,_⟩:=x; exact Heap.lt_size e
  | dT kvs=>obtain ⟨_,_,_,_,o,_,_,e,_⟩:=x; exact Heap.lt_size e
  | set S n=>obtain ⟨o,_,_,_,e,_⟩:=x; exact Heap.lt_size e
  | ins C dx fs=>obtain ⟨_,_,_,e,_⟩:=x; exact Heap.lt_size e
  | own y=>obtain ⟨_,e⟩:=x; exact Heap.lt_size e
  | xd fs=>obtain ⟨_,⟨_,_,_,e,_⟩,_⟩:=x; exact Heap.lt_size e
  | rng lo hi=>obtain ⟨_,_,_,e⟩:=x; exact Heap.lt_size e
  | frz ob u=>obtain ⟨e,_⟩:=x; exact Heap.lt_size e
  | tbl ps=>exact Heap.lt_size (show h.get? a=some _ from x)
  | met f y=>exact Heap.lt_size (show h.get? a=some _ from x)
  | ext φ=>obtain ⟨_,⟨_,e⟩,_⟩:=x; exact Heap.lt_size e
theorem Paired.mapP {α β:Type} {F G:α→β→Prop}:∀ {l₁:List α} {l₂:List β},Paired F l₁ l₂→(∀ a b,F a b→G a b)→Paired G l₁ l₂
  | _,_,.nil,_=>.nil
  | _,_,.cons r t,f=>.cons (f _ _ r) (Paired.mapP t f)
theorem ObjOk.stay (x:ObjOk P w H h a o) (k:∀ b u,(b=a∨H b=some (.own a))→h.get? b=some u→h'.get? b=some u) (ho:∀ b,H b=some (.own a)→H' b=some (.own a)) (ht:∀ b xs,H b=some (.tup xs)→H' b=some (.tup xs)):ObjOk P w H' h' a o:=by
  induction o with
  | lst xs=>obtain ⟨z,its,n,r,e⟩:=x; exact ⟨z,its,n,r,k _ _ (.inl rfl) e⟩
  | tup xs=>obtain ⟨z,its,r,ob,e,c⟩:=x; exact ⟨z,its,r,ob,k _ _ (.inl rfl) e,c⟩
  | dK kvs=>obtain ⟨z,y,vs,r,ob,es,ep,e,c⟩:=x; exact ⟨z,y,vs,r,ob,es,ep,k _ _ (.inl rfl) e,c⟩
  | dT kvs =>
    obtain ⟨z,y,xs,r,ob,es,ep,e,c⟩:=x
    exact ⟨z,y,xs,Paired.mapP r fun p q z=>⟨z.1,ht _ _ z.2.1,z.2.2⟩,ob,es,ep,k _ _ (.inl rfl) e,c⟩
  | set S n=>obtain ⟨ob,es,ep,t,e,c⟩:=x; exact ⟨ob,es,ep,t,k _ _ (.inl rfl) e,c⟩
  | ins C dx fs =>
    obtain ⟨d,z,ne,e,mA,⟨od,es,ep,e2,c⟩,r⟩:=x
    exact ⟨ho _ d,z,ne,k _ _ (.inl rfl) e,mA,⟨od,es,ep,k _ _ (.inr d) e2,c⟩,r⟩
  | own y=>obtain ⟨ob,e⟩:=x; exact ⟨ob,k _ _ (.inl rfl) e⟩
  | xd fs=>obtain ⟨mA,⟨od,es,ep,e,c⟩,r⟩:=x; exact ⟨mA,⟨od,es,ep,k _ _ (.inl rfl) e,c⟩,r⟩
  | rng lo hi=>obtain ⟨t,u,v,e⟩:=x; exact ⟨t,u,v,k _ _ (.inl rfl) e⟩
  | frz ob u ih=>obtain ⟨e,q⟩:=x; exact ⟨k _ _ (.inl rfl) e,ih q⟩
  | tbl ps =>
    have e:h.get? a=some { cls:=.none,data:=.fields ps }:=x
    show h'.get? a=some { cls:=.none,data:=.fields ps }
    exact k a _ (.inl rfl) e
  | met f y =>
    have e:h.get? a=some (PySem.W.methodObj (.ref f) (.ref y)):=x
    show h'.get? a=some (PySem.W.methodObj (.ref f) (.ref y))
    exact k a _ (.inl rfl) e
  | ext φ=>obtain ⟨p,⟨o,e⟩,st⟩:=x; exact ⟨st _ _ p fun o q=>k _ _ (.inl rfl) q,⟨o,k _ _ (.inl rfl) e⟩,st⟩
theorem HOk.lt (x:HOk P w H h) (e:H a=some o):a<h.objs.size:=(x a o e).lt
theorem HOk.fresh (x:HOk P w H h) (e:h.objs.size≤a):H a=none:=by
  cases q:H a with
  | none=>rfl
  | some u=>exact absurd (Nat.lt_of_lt_of_le (x.lt q) e) (Nat.lt_irrefl _)
theorem HOk.kept (x:HOk P w H h) (k:∀ b u,h.get? b=some u→h'.get? b=some u):HOk P w H h':=fun a o e =>
  (x a o e).stay (fun b u _ q=>k b u q) (fun _ q=>q) fun _ _ q=>q
theorem HOk.laid (x:HOk P w H h) (k:∀ b u,h.get? b=some u→h'.get? b=some u) (hp:h.objs.size≤a) (new:ObjOk P w (upd H a o) h' a o):HOk P w (upd H a o) h':=fun b u e=>by
  have hn:=x.fresh hp
  by_cases hb:b=a
  · subst hb; rw [upd_same] at e; cases e; exact new
  · rw [upd_ne hb] at e
    exact (x b u e).stay (fun c v _ q=>k c v q) (fun c q=>by rw [upd_ne (ne_of_none q hn)]; exact q) fun c xs q=>by rw [upd_ne (ne_of_none q hn)]; exact q
end
def Rd (H:Hp) (a:Addr) (u:HO):Prop:=H a=some u∨∃ o,H a=some (.frz o u)
theorem Rd.ok {P:Program} {w:World} {H:Hp} {h:Heap} {a:Addr} {u:HO} (r:Rd H a u) (x:HOk P w H h):ObjOk P w H h a u:=by
  rcases r with r | ⟨o,r⟩
  · exact x a u r
  · obtain ⟨_,q⟩:=x a _ r
    exact q
def Mut:Option HO→Prop
  | some (.lst _)=>True
  | some (.dK _)=>True
  | some (.dT _)=>True
  | some (.set _ _)=>True
  | some (.ins _ _ _)=>True
  | some (.ext _)=>True
  | _=>False
section
variable {P:Program} {w:World} {H:Hp} {h h':Heap} {x e:Addr} {o':HO}
theorem HOk.write (ok:HOk P w H h) (mu:Mut (H x)) (he:e=x∨H e=some (.own x)) (k:∀ b u,b≠e→h.get? b=some u→h'.get? b=some u) (heo:∃ u,h'.get? e=some u) (new:ObjOk P w (upd H x o') h' x o'):HOk P w (upd H x o') h':=fun b u q=>by
  have nown:∀ c y,H c=some (.own y)→c≠x:=fun c y r z=>by subst z; rw [r] at mu; exact mu
  have ntup:∀ c xs,H c=some (.tup xs)→c≠x:=fun c xs r z=>by subst z; rw [r] at mu; exact mu
  by_cases hb:b=x
  · subst hb; rw [upd_same] at q; cases q; exact new
  · rw [upd_ne hb] at q
    by_cases hbe:b=e
    · have q':H b=some (.own x):=by
        rcases he with z | z
        · exact absurd (hbe.trans z) hb
        · rw [hbe]; exact z
      rw [q] at q'; cases q'
      obtain ⟨v,hv⟩:=heo
      exact ⟨v,by rw [hbe]; exact hv⟩
    · refine (ok b u q).stay (fun c v hc r=>k c v ?_ r) (fun c r=>by rw [upd_ne (nown c b r)]; exact r) fun c xs r=>by rw [upd_ne (ntup c xs r)]; exact r
      rcases hc with rfl | hc
      · exact hbe
      · rintro rfl
        rcases he with z | z
        · exact nown c b hc z
        · rw [hc] at z; cases z; exact hb rfl
end
structure Un (fs ex:List Addr) (H H':Hp) (h h':Heap):Prop where
  keep:∀ b o,h.get? b=some o→H b=none→b∉fs→b∉ex→h'.get? b=some o
  slot:∀ b o,h.get? b=some o→H b=none→b∈fs→b∉ex→∃ sl,h'.get? b=some { o with slots:=sl }
  free:∀ b o,h.get? b=some o→H b=none→b∉ex→H' b=none
  there:∀ b o,h.get? b=some o→b∉ex→∃ o',h'.get? b=some o'
  tups:∀ b xs,H b=some (.tup xs)→H' b=some (.tup xs)
  frzs:∀ b o u,H b=some (.frz o u)→H' b=some (.frz o u)
  tbls:∀ b ps,H b=some (.tbl ps)→∃ more,H' b=some (.tbl (ps++more))
section
variable {fs fs' ex ex':List Addr} {H H1 H2:Hp} {h h1 h2 h':Heap} {a x e:Addr} {o:HO}
theorem Un.any (u:Un fs ex H H1 h h1) {b:Addr} {ob:Obj} (q:h.get? b=some ob) (n:H b=none) (hx:b∉ex):∃ sl,h1.get? b=some { ob with slots:=sl }:=by
  by_cases hb:b∈fs
  · exact u.slot b ob q n hb hx
  · exact ⟨ob.slots,u.keep b ob q n hb hx⟩
theorem Un.kept (k:∀ b u,h.get? b=some u→h'.get? b=some u):Un fs ex H H h h' :=
  ⟨fun b ob q _ _ _=>k b ob q,fun b ob q _ _ _=>⟨ob.slots,k b ob q⟩,fun _ _ _ n _=>n,fun b ob q _=>⟨ob,k b ob q⟩,fun _ _ q=>q,fun _ _ _ q=>q,fun _ ps q=>⟨#[],by rw [q]; simp⟩⟩
theorem Un.refl:Un fs ex H H h h:=Un.kept fun _ _ q=>q
theorem Un.laid (k:∀ b u,h.get? b=some u→h'.get? b=some u) (hp:h.objs.size≤a) (hn:H a=none):Un fs ex H (upd H a o) h h' where
  keep:=fun b u q _ _ _=>k b u q
  slot:=fun b u q _ _ _=>⟨u.slots,k b u q⟩
  free:=fun b u q n _=>by rw [upd_ne (Nat.ne_of_lt (Nat.lt_of_lt_of_le (Heap.lt_size q) hp))]; exact n
  there:=fun b u q _=>⟨u,k b u q⟩
  tups:=fun b xs q=>by rw [upd_ne (ne_of_none q hn)]; exact q
  frzs:=fun b u xs q=>by rw [upd_ne (ne_of_none q hn)]; exact q
  tbls:=fun b ps q=>⟨#[],by rw [upd_ne (ne_of_none q hn),q]; simp⟩
theorem Un.write (mu:Mut (H x)) (he:e=x∨H e=some (.own x)) (k:∀ b u,b≠e→h.get? b=some u→h'.get? b=some u) (heo:∃ u,h'.get? e=some u):Un fs ex H (upd H x o) h h':=by
  have hx:∀ b,H b=none→b≠x:=fun b n z=>by subst z; rw [n] at mu; exact mu
  have hb:∀ b,H b=none→b≠e:=fun b n z=>by
    subst z
    rcases he with r | r
    · exact hx b n r
    · rw [n] at r; cases r
  have hm:∀ b u,H b=some u→¬ Mut (some u)→b≠x:=fun b u q nm z=>by subst z; rw [q] at mu; exact nm mu
  refine ⟨fun b u q n _ _=>k b u (hb b n) q,fun b u q n _ _=>⟨u.slots,k b u (hb b n) q⟩,fun b u q n _=>by rw [upd_ne (hx b n)]; exact n,fun b u q _=>?_,
    fun b xs q=>by rw [upd_ne (hm b _ q fun z=>z)]; exact q,fun b u xs q=>by rw [upd_ne (hm b _ q fun z=>z)]; exact q,fun b ps q=>⟨#[],by rw [upd_ne (hm b _ q fun z=>z),q]; simp⟩⟩
  by_cases hbe:b=e
  · subst hbe; exact heo
  · exact ⟨u,k b u hbe q⟩
end
def trk (h:Heap) (H:Hp):List Addr:=(List.range h.objs.size).filter fun a=>(H a).isSome
def hidT (h:Heap) (H:Hp):Heap:=PySem.W.hideAll h (trk h H)
theorem hidT_size (h:Heap) (H:Hp):(hidT h H).objs.size=h.objs.size:=PySem.W.hideAll_size _ _
theorem hidT_get {h:Heap} {H:Hp} {b:Addr} {o:Obj} (e:h.get? b=some o) (n:H b=none):(hidT h H).get? b=some o :=
  PySem.W.hideAll_get _ e fun hm=>by
    have q:(H b).isSome=true:=(List.mem_filter.mp hm).2
    rw [n] at q; simp at q
theorem of_hidT {h:Heap} {H:Hp} {b:Addr} {o:Obj} (e:(hidT h H).get? b=some o):h.get? b=some o∧H b=none:=by
  have e':h.get? b=some o:=PySem.W.of_hideAll (trk h H) e
  refine ⟨e',?_⟩
  cases q:H b with
  | none=>rfl
  | some x =>
    have hm:b∈trk h H:=List.mem_filter.mpr ⟨List.mem_range.mpr (Heap.lt_size e'),by simp [q]⟩
    have z:(hidT h H).get? b=none:=PySem.W.hideAll_none (trk h H) hm
    rw [z] at e; cases e
def allNews (g h:Heap) (L:Addr):List (Addr×Obj):=(List.range h.objs.size).filterMap fun a=>if a=L∨(g.get? a).isSome=true then none else (h.get? a).map fun o=>(a,o)
def rest (g h:Heap) (L d:Addr):List (Addr×Obj):=(allNews g h L).filter fun p=>decide (p.1≠d)
end L2
namespace L2
open PySem PySem.Spec PyProof.Rows
structure Mod (K:PySem.W.Frag) (mg:Str→Option Value) (base:Heap):Prop where
  kin:K.In base
  glob:base.Ns mainGlobals mg
  blt:∃ mb,base.Ns builtinsNs mb∧∀ x:Str,x ≠ "__name__" → mb x=bootBuiltins x
  nolimit:base.NoLimit
structure Cx where
  prog:Program
  w:World
  K:PySem.W.Frag
  mg:Str→Option Value
  base:Heap
  A:Around
  N:List Str
  s₀:Shared
  H₀:Hp
  env:Env
  outer:List Env
  stack:List Env
  ex:List Addr
  fn:Str→Bool
  calm:Bool
  pn:List (Addr×Obj)
  xe:Value→Shared→Prop
def frs (l:List Env):List Addr:=l.filterMap (·.frame)
abbrev Cx.fs (X:Cx):List Addr:=frs X.outer
def Vis (sc:Scope) (x:Str):Prop:=sc.names.lookup x=some .local∨sc.names.lookup x=some .cell∨sc.names.lookup x=some .free
def Loc (sc:Scope) (x:Str):Prop:=sc.names.lookup x=some .local∨sc.names.lookup x=some .cell
def Look (env:Env) (h:Heap) (m:Str→Option Value) (x:Str) (u:Value):Prop :=
  (env.kindOf x=some .local∧m x=some u)∨((env.kindOf x=some .cell∨env.kindOf x=some .free)∧∃ c,env.cells.lookup x=some c∧h.IsCell c (some u))
structure Cx.Ok (X:Cx):Prop where
  mod:Mod X.K X.mg X.base
  kind:X.env.scope.kind=.function
  glob:X.env.globals=mainGlobals
  blt:X.env.builtins=builtinsNs
  above:X.s₀.heap.objs.size≤X.env.locals
  inj:∀ x y c,X.env.cells.lookup x=some c→X.env.cells.lookup y=some c→x=y
  has:∀ x,(X.env.kindOf x=some .cell∨X.env.kindOf x=some .free)→∃ c,X.env.cells.lookup x=some c
  cab:∀ x c,X.fn x=true→X.env.cells.lookup x=some c→X.s₀.heap.objs.size≤c
  hd:X.calm=true→X.A.handled=none
  frames:X.A.frames=some X.stack
  stk:X.stack=X.outer∨(X.stack=X.env::X.outer∧X.env.frame=some X.env.locals)
  exf:∀ b∈X.ex,b≠X.env.locals∧∀ x c,X.env.cells.lookup x=some c→c≠b
  bs:∀ b o,X.base.get? b=some o→X.s₀.heap.get? b=some o∧X.H₀ b=none
  bsz:X.base.objs.size≤X.s₀.heap.objs.size
  noex:∀ b o,X.base.get? b=some o→b∉X.ex
  exfs:∀ b∈X.ex,b∉X.fs
  funs:X.s₀.heap.FunFrames X.base X.outer
  frf:∀ b∈X.fs,X.H₀ b=none
structure Inv (X:Cx) (pins:List (Addr×Obj)) (σ:List (Option V)) (H:Hp) (s:Shared):Prop where
  ok:X.Ok
  os:s.os=X.s₀.os
  bare:AllBare s.gens
  base:Un X.fs X.ex X.H₀ H X.s₀.heap s.heap
  loc:∃ m,s.heap.Ns X.env.locals m∧∀ (i:Nat) (x:Str) (v:V),X.N[i]? = some x→σ[i]? = some (some v)→Vis X.env.scope x→∃ u,RelV v u∧Look X.env s.heap m x u
  cell:∀ x c,X.env.cells.lookup x=some c→∃ v,s.heap.IsCell c v
  free:H X.env.locals=none
  freeC:∀ x c,X.env.cells.lookup x=some c→H c=none
  pin:∀ p∈X.pn++pins,s.heap.get? p.1=some p.2∧H p.1=none∧p.1≠X.env.locals∧p.1∉X.fs∧∀ v,p.2.data≠.cell v
  hok:HOk X.prog X.w H s.heap
  len:σ.length=X.N.length
section
variable {X:Cx} {pins:List (Addr×Obj)} {σ:List (Option V)} {H H':Hp} {s:Shared} {h':Heap}
theorem Cx.Ok.nofr (ok:X.Ok) {b:Addr} {o:Obj} (e:X.base.get? b=some o):b∉X.fs:=fun hb=>by
  have:=(ok.funs.mem hb).1
  rw [e] at this; cases this
theorem Inv.bs (I:Inv X pins σ H s):∀ b o,X.base.get? b=some o→s.heap.get? b=some o∧H b=none:=fun b o e =>
  ⟨I.base.keep b o (I.ok.bs b o e).1 (I.ok.bs b o e).2 (I.ok.nofr e) (I.ok.noex b o e),I.base.free b o (I.ok.bs b o e).1 (I.ok.bs b o e).2 (I.ok.noex b o e)⟩
theorem Inv.bk (I:Inv X pins σ H s):∀ b o,X.base.get? b=some o→s.heap.get? b=some o:=fun b o e=>(I.bs b o e).1
theorem Inv.mod (I:Inv X pins σ H s):Mod X.K X.mg X.base:=I.ok.mod
theorem Inv.kIn (I:Inv X pins σ H s):X.K.In s.heap:=I.ok.mod.kin.keeps I.bk
theorem Inv.lt (I:Inv X pins σ H s):X.env.locals<s.heap.objs.size:=let ⟨_,hn,_⟩:=I.loc; hn.lt
theorem Inv.sz (I:Inv X pins σ H s):X.s₀.heap.objs.size≤s.heap.objs.size:=Nat.le_trans I.ok.above (Nat.le_of_lt I.lt)
theorem Inv.nofs (I:Inv X pins σ H s) {a:Addr} (h:s.heap.objs.size≤a):a∉X.fs:=fun hb=>by
  obtain ⟨_,o,ho,_⟩:=I.ok.funs.mem hb
  exact absurd (Nat.lt_of_lt_of_le (Heap.lt_size ho) (Nat.le_trans I.sz h)) (Nat.lt_irrefl _)
theorem Inv.cne (I:Inv X pins σ H s):∀ x c,X.env.cells.lookup x=some c→c≠X.env.locals:=fun x c e z=>by
  obtain ⟨v,o,ho,hd⟩:=I.cell x c e
  obtain ⟨m,⟨o',es,ep,ho',hd',_⟩,_⟩:=I.loc
  rw [z,ho'] at ho; cases ho; rw [hd'] at hd; cases hd
theorem Inv.funs (I:Inv X pins σ H s):s.heap.FunFrames X.base X.outer:=by
  have all:∀ (l:List Env),(∀ b∈frs l,b∈X.fs)→X.s₀.heap.FunFrames X.base l→s.heap.FunFrames X.base l:=by
    intro l
    induction l with
    | nil=>intro _ _; trivial
    | cons env r ih =>
      intro hs hl
      obtain ⟨hk,⟨L,o,hf,hn,ho,hd⟩,hr⟩:=hl
      have hL:L∈X.fs:=hs L (by unfold frs; rw [List.filterMap_cons,hf]; exact List.mem_cons_self)
      obtain ⟨sl,e⟩:=I.base.slot L o ho (I.ok.frf L hL) hL fun z=>I.ok.exfs L z hL
      exact ⟨hk,⟨L,_,hf,hn,e,hd⟩,ih (fun b hb=>hs b (by unfold frs; rw [List.filterMap_cons,hf]; exact List.mem_cons_of_mem _ hb)) hr⟩
  exact all X.outer (fun _ hb=>hb) I.ok.funs
theorem Inv.stack (I:Inv X pins σ H s):s.heap.FunFrames X.base X.stack:=by
  rcases I.ok.stk with e | ⟨e,hf⟩
  · rw [e]; exact I.funs
  · rw [e]
    obtain ⟨m,hn,_⟩:=I.loc
    refine .cons (by rw [I.ok.kind]; decide) hf hn ?_ I.funs
    exact Heap.get?_none_of_le (Nat.le_trans I.ok.bsz I.ok.above)
theorem Inv.stkSub (I:Inv X pins σ H s):∀ b∈frs X.stack,b∈X.env.locals::X.fs:=fun b hb=>by
  rcases I.ok.stk with e | ⟨e,hf⟩
  · rw [e] at hb; exact List.mem_cons_of_mem _ hb
  · rw [e] at hb
    unfold frs at hb
    rw [List.filterMap_cons,hf] at hb
    exact hb
theorem Inv.stkFree (I:Inv X pins σ H s):∀ b∈frs X.stack,H b=none:=fun b hb=>by
  rcases List.mem_cons.mp (I.stkSub b hb) with e | hb
  · rw [e]; exact I.free
  · obtain ⟨_,o,ho,_⟩:=I.ok.funs.mem hb
    exact I.base.free b o ho (I.ok.frf b hb) fun z=>I.ok.exfs b z hb
theorem Inv.step {g':Array GenState} {t':Nat} {d':Drawn} {ch:List Addr} (I:Inv X pins σ H s) (hch:∀ b∈ch,(b∈X.ex∨X.s₀.heap.objs.size≤b)∧b≠X.env.locals∧(∀ x c,X.env.cells.lookup x=some c→c≠b)∧∀ p∈X.pn++pins,p.1≠b) (keep:∀ b o,b≠X.env.locals→b∉X.fs→b∉ch→s.heap.get? b=some o→H b=none→h'.get? b=some o) (slot:∀ b o,b≠X.env.locals→b∈X.fs→b∉ch→s.heap.get? b=some o→H b=none→∃ sl,h'.get? b=some { o with slots:=sl }) (free:∀ b o,b∉ch→s.heap.get? b=some o→H b=none→H' b=none) (there:∀ b o,b∉ch→s.heap.get? b=some o→∃ o',h'.get? b=some o') (tups:∀ b xs,H b=some (.tup xs)→H' b=some (.tup xs)) (frzs:∀ b o u,H b=some (.frz o u)→H' b=some (.frz o u)) (tbls:∀ b ps,H b=some (.tbl ps)→∃ more,H' b=some (.tbl (ps++more))) (ns:∀ m,s.heap.Ns X.env.locals m→h'.Ns X.env.locals m) (hok:HOk X.prog X.w H' h') (hg:AllBare g'):Inv X pins σ H' { s with heap:=h',gens:=g',drawn:=d',toks:=t' }:=by
  have neL:∀ b o,X.s₀.heap.get? b=some o→b≠X.env.locals:=fun b o e=>Nat.ne_of_lt (Nat.lt_of_lt_of_le (Heap.lt_size e) I.ok.above)
  have neC:∀ b o,X.s₀.heap.get? b=some o→b∉X.ex→b∉ch:=fun b o e hx hb=>by
    rcases (hch b hb).1 with z | z
    · exact hx z
    · exact absurd (Nat.lt_of_lt_of_le (Heap.lt_size e) z) (Nat.lt_irrefl _)
  have cellK:∀ x c,X.env.cells.lookup x=some c→∀ v,s.heap.IsCell c v→h'.IsCell c v:=fun x c e v ⟨o,ho,hd⟩=>by
    have nch:c∉ch:=fun z=>(hch c z).2.2.1 x c e rfl
    by_cases hc:c∈X.fs
    · obtain ⟨sl,q⟩:=slot c o (I.cne x c e) hc nch ho (I.freeC x c e)
      exact ⟨_,q,hd⟩
    · exact ⟨o,keep c o (I.cne x c e) hc nch ho (I.freeC x c e),hd⟩
  refine ⟨I.ok,I.os,hg,⟨fun b o e n hb hx=>?_,fun b o e n hb hx=>?_,fun b o e n hx=>?_,fun b o e hx=>?_,fun b xs e=>tups b xs (I.base.tups b xs e),fun b o xs e=>frzs b o xs (I.base.frzs b o xs e),fun b ps e=>?_⟩,?_,fun x c e=>?_,?_,fun x c e=>?_,fun p hp=>?_,hok,I.len⟩
  · exact keep b o (neL b o e) hb (neC b o e hx) (I.base.keep b o e n hb hx) (I.base.free b o e n hx)
  · obtain ⟨sl,e1⟩:=I.base.slot b o e n hb hx
    obtain ⟨sl',e2⟩:=slot b _ (neL b o e) hb (neC b o e hx) e1 (I.base.free b o e n hx)
    exact ⟨sl',e2⟩
  · obtain ⟨o',e1⟩:=I.base.there b o e hx
    exact free b o' (neC b o e hx) e1 (I.base.free b o e n hx)
  · obtain ⟨o',e1⟩:=I.base.there b o e hx
    exact there b o' (neC b o e hx) e1
  · obtain ⟨m1,e1⟩:=I.base.tbls b ps e
    obtain ⟨m2,e2⟩:=tbls b _ e1
    exact ⟨m1++m2,by rw [e2,Array.append_assoc]⟩
  · obtain ⟨m,hn,hl⟩:=I.loc
    refine ⟨m,ns m hn,fun i x v e1 e2 e3=>?_⟩
    obtain ⟨u,r,l⟩:=hl i x v e1 e2 e3
    refine ⟨u,r,?_⟩
    rcases l with l | ⟨k,c,e,z⟩
    · exact .inl l
    · exact .inr ⟨k,c,e,cellK x c e _ z⟩
  · obtain ⟨v,z⟩:=I.cell x c e
    exact ⟨v,cellK x c e v z⟩
  · obtain ⟨m,⟨o,_,_,ho,_⟩,_⟩:=I.loc
    exact free _ o (fun z=>(hch _ z).2.1 rfl) ho I.free
  · obtain ⟨v,o,ho,hd⟩:=I.cell x c e
    exact free c o (fun z=>(hch c z).2.2.1 x c e rfl) ho (I.freeC x c e)
  · obtain ⟨e,n,ne,nf,d⟩:=I.pin p hp
    have nch:p.1∉ch:=fun z=>(hch p.1 z).2.2.2 p hp rfl
    exact ⟨keep p.1 p.2 ne nf nch e n,free p.1 p.2 nch e n,ne,nf,d⟩
theorem Inv.un {t':Nat} (I:Inv X pins σ H s) (u:Un X.fs [] H H' s.heap h') (hok:HOk X.prog X.w H' h'):Inv X pins σ H' { s with heap:=h',toks:=t' }:=by
  obtain ⟨m,⟨o,es,ep,ho,r⟩,_⟩:=id I.loc
  obtain ⟨sl,hL⟩:=u.any ho I.free (by simp)
  exact I.step (g':=s.gens) (d':=s.drawn) (ch:=[]) (fun _ z=>nomatch z) (fun b o _ hb _ e n=>u.keep b o e n hb (by simp)) (fun b o _ hb _ e n=>u.slot b o e n hb (by simp)) (fun b o _ e n=>u.free b o e n (by simp)) (fun b o _ e=>u.there b o e (by simp)) u.tups u.frzs u.tbls (fun m' hm=>by
    obtain ⟨o',es',ep',ho',r'⟩:=hm
    rw [ho] at ho'; cases ho'
    exact ⟨_,es',ep',hL,r'⟩) hok I.bare
theorem Inv.call {g':Array GenState} {t':Nat} {d':Drawn} {ch:List Addr} (I:Inv X pins σ H s) (u:Un (frs X.stack) ch H H' s.heap h') (hok:HOk X.prog X.w H' h') (hg:AllBare g') (hch:∀ b∈ch,(b∈X.ex∨X.s₀.heap.objs.size≤b)∧b≠X.env.locals∧(∀ x c,X.env.cells.lookup x=some c→c≠b)∧∀ p∈X.pn++pins,p.1≠b):Inv X pins σ H' { s with heap:=h',gens:=g',drawn:=d',toks:=t' }:=by
  obtain ⟨m,⟨o,es,ep,ho,r⟩,_⟩:=id I.loc
  obtain ⟨sl,hL⟩:=u.any ho I.free fun z=>(hch _ z).2.1 rfl
  exact I.step (ch:=ch) hch (fun b o hL hb hc e n=>u.keep b o e n (fun z=>(List.mem_cons.mp (I.stkSub b z)).elim hL hb) hc) (fun b o _ _ hc e n=>u.any e n hc) (fun b o hc e n=>u.free b o e n hc) (fun b o hc e=>u.there b o e hc) u.tups u.frzs u.tbls (fun m' hm=>by
    obtain ⟨o',es',ep',ho',r'⟩:=hm
    rw [ho] at ho'; cases ho'
    exact ⟨_,es',ep',hL,r'⟩) hok hg
theorem Inv.turned {t':Nat} {it:Addr} (I:Inv X pins σ H s) (k:∀ b o,b≠it→s.heap.get? b=some o→h'.get? b=some o) (hn:H it=none) (hL:it≠X.env.locals) (h1:it∈X.ex∨X.s₀.heap.objs.size≤it) (h2:∀ x c,X.env.cells.lookup x=some c→c≠it) (h3:∀ p∈X.pn++pins,p.1≠it):Inv X pins σ H { s with heap:=h',toks:=t' }:=by
  have nit:∀ b u,H b=some u→b≠it:=fun b u e z=>by rw [z,hn] at e; cases e
  refine I.step (g':=s.gens) (d':=s.drawn) (ch:=[it]) (fun b hb=>?_) (fun b o _ _ hc e _=>k b o (fun z=>hc (by simp [z])) e) (fun b o _ _ hc e _=>⟨o.slots,k b o (fun z=>hc (by simp [z])) e⟩) (fun _ _ _ _ n=>n)
    (fun b o hc e=>⟨o,k b o (fun z=>hc (by simp [z])) e⟩) (fun _ _ e=>e) (fun _ _ _ e=>e) (fun b ps e=>⟨#[],by rw [e]; simp⟩) (fun m hm=>?_) (fun b u e=>?_) I.bare
  · have e:b=it:=by simpa using hb
    subst e
    exact ⟨h1,hL,h2,h3⟩
  · obtain ⟨o,es,ep,ho,r⟩:=hm
    exact ⟨o,es,ep,k _ o (Ne.symm hL) ho,r⟩
  · refine (I.hok b u e).stay (fun c v hc q=>k c v ?_ q) (fun _ q=>q) fun _ _ q=>q
    rcases hc with z | z
    · rw [z]; exact nit b u e
    · exact nit c _ z
theorem Inv.tok (I:Inv X pins σ H s) (t:Nat):Inv X pins σ H { s with toks:=t }:=I.un (h':=s.heap) (t':=t) Un.refl I.hok
theorem Inv.kept {t':Nat} (I:Inv X pins σ H s) (k:∀ b u,s.heap.get? b=some u→h'.get? b=some u):Inv X pins σ H { s with heap:=h',toks:=t' }:=I.un (Un.kept k) (I.hok.kept k)
theorem Inv.laid {a:Addr} {o:HO} {t':Nat} (I:Inv X pins σ H s) (k:∀ b u,s.heap.get? b=some u→h'.get? b=some u) (hp:s.heap.objs.size≤a) (new:ObjOk X.prog X.w (upd H a o) h' a o):Inv X pins σ (upd H a o) { s with heap:=h',toks:=t' }:=I.un (Un.laid k hp (I.hok.fresh hp)) (I.hok.laid k hp new)
theorem Inv.write {x e:Addr} {o:HO} {t':Nat} (I:Inv X pins σ H s) (mu:Mut (H x)) (he:e=x∨H e=some (.own x)) (k:∀ b u,b≠e→s.heap.get? b=some u→h'.get? b=some u) (heo:∃ u,h'.get? e=some u) (new:ObjOk X.prog X.w (upd H x o) h' x o):Inv X pins σ (upd H x o) { s with heap:=h',toks:=t' }:=I.un (Un.write mu he k heo) (I.hok.write mu he k heo new)
theorem Inv.pins_of {pins':List (Addr×Obj)} (I:Inv X pins σ H s) (h:∀ p∈pins',s.heap.get? p.1=some p.2∧H p.1=none∧p.1≠X.env.locals∧p.1∉X.fs∧∀ v,p.2.data≠.cell v):Inv X pins' σ H s :=
  ⟨I.ok,I.os,I.bare,I.base,I.loc,I.cell,I.free,I.freeC,fun p hp=>(List.mem_append.mp hp).elim (fun z=>I.pin p (List.mem_append_left _ z)) (h p),I.hok,I.len⟩
theorem nodup_ix {N:List Str} (hN:N.Nodup) {i j:Nat} {x:Str} (a:N[i]? = some x) (b:N[j]? = some x):i=j:=by
  obtain ⟨h1,e1⟩:=List.getElem?_eq_some_iff.mp a
  obtain ⟨h2,e2⟩:=List.getElem?_eq_some_iff.mp b
  exact (List.getElem_inj hN).mp (e1.trans e2.symm)
theorem store_ok2 {M:Model} {A:Around} {E:Value→Shared→Prop} {i:Nat} {x:Str} {v:V} {u:Value} {Q:Unit→Shared→Prop} (I:Inv X pins σ H s) (hN:X.N.Nodup) (hi:X.N[i]? = some x) (hx:Loc X.env.scope x) (r:RelV v u) (h:∀ s',Inv X pins (σ.set i (some v)) H s'→(∃ a,Heap.SameBut a s.heap s'.heap∧(a=X.env.locals∨X.env.cells.lookup x=some a))→Q () s') (hf:X.fn x=true∨X.env.scope.names.lookup x=some .local:=by first | exact .inl rfl | exact .inr rfl | assumption):wpAny M A (storeName X.env x u) Q E s:=by
  obtain ⟨m,hn,hl⟩:=id I.loc
  have hcls:(X.env.scope.kind == .class || (X.env.scope.kind == .module && X.env.locals != X.env.globals))=false:=by rw [I.ok.kind]; rfl
  have hiσ:i<σ.length:=by rw [I.len]; exact (List.getElem?_eq_some_iff.mp hi).1
  have cne:=I.cne
  have tracked:∀ {a:Addr} {h':Heap},(∃ o,s.heap.get? a=some o∧H a=none)→Heap.SameBut a s.heap h'→HOk X.prog X.w H h':=fun {a h'} ha hs b ob e=>by
    obtain ⟨_,_,hfree⟩:=ha
    refine (I.hok b ob e).stay (fun c w' hc q=>(hs.2 c ?_).trans q) (fun _ q=>q) fun _ _ q=>q
    rintro rfl
    rcases hc with rfl | hc
    · rw [hfree] at e; cases e
    · rw [hfree] at hc; cases hc
  rcases hx with hk | hk
  · refine wpAny_storeName_local hk hn (fun h' hn' hs=>?_) hcls
    obtain ⟨oL,_,_,hoL,_⟩:=id hn
    refine h _ ⟨I.ok,I.os,I.bare,⟨fun b o e n hb hx=>?_,fun b o e n hb hx=>?_,I.base.free,fun b o e hx=>?_,I.base.tups,I.base.frzs,I.base.tbls⟩,⟨_,hn',fun j y v' e1 e2 e3=>?_⟩,fun y c e=>?_,I.free,I.freeC,fun p hp=>?_,tracked ⟨oL,hoL,I.free⟩ hs,by simpa using I.len⟩ ⟨_,hs,.inl rfl⟩
    · exact (hs.2 b (Nat.ne_of_lt (Nat.lt_of_lt_of_le (Heap.lt_size e) I.ok.above))).trans (I.base.keep b o e n hb hx)
    · obtain ⟨sl,e1⟩:=I.base.slot b o e n hb hx
      exact ⟨sl,(hs.2 b (Nat.ne_of_lt (Nat.lt_of_lt_of_le (Heap.lt_size e) I.ok.above))).trans e1⟩
    · obtain ⟨o',e1⟩:=I.base.there b o e hx
      exact ⟨o',(hs.2 b (Nat.ne_of_lt (Nat.lt_of_lt_of_le (Heap.lt_size e) I.ok.above))).trans e1⟩
    · by_cases hj:j=i
      · subst hj
        rw [hi] at e1; cases e1
        rw [List.getElem?_set_self hiσ] at e2
        cases e2
        exact ⟨u,r,.inl ⟨hk,by simp⟩⟩
      · rw [List.getElem?_set_ne (Ne.symm hj)] at e2
        obtain ⟨u',r',q⟩:=hl j y v' e1 e2 e3
        refine ⟨u',r',?_⟩
        rcases q with ⟨k,e⟩ | ⟨k,c,e,z⟩
        · refine .inl ⟨k,?_⟩
          have : y≠x:=fun e=>hj (nodup_ix hN e1 (e▸hi))
          simp [this,e]
        · exact .inr ⟨k,c,e,z.sameBut hs (cne y c e)⟩
    · obtain ⟨w',z⟩:=I.cell y c e
      exact ⟨w',z.sameBut hs (cne y c e)⟩
    · obtain ⟨e,n,ne,nf,d⟩:=I.pin p hp
      exact ⟨(hs.2 p.1 ne).trans e,n,ne,nf,d⟩
  · have hfn:X.fn x=true:=by
      rcases hf with z | z
      · exact z
      · rw [z] at hk; cases hk
    obtain ⟨c,hc⟩:=I.ok.has x (.inl hk)
    obtain ⟨w',z⟩:=I.cell x c hc
    refine wpAny_storeName_cell I.ok.kind hk hc z (fun h' hc' hs=>?_)
    obtain ⟨oc,hoc,hocd⟩:=id z
    refine h { s with heap:=h' } ⟨I.ok,I.os,I.bare,⟨fun b o e n hb hx=>?_,fun b o e n hb hx=>?_,I.base.free,fun b o e hx=>?_,I.base.tups,I.base.frzs,I.base.tbls⟩,⟨m,hn.sameBut hs (Ne.symm (cne x c hc)),fun j y v' e1 e2 e3=>?_⟩,fun y c' e=>?_,I.free,I.freeC,fun p hp=>?_,tracked ⟨oc,hoc,I.freeC x c hc⟩ hs,by simpa using I.len⟩ ⟨c,hs,.inr hc⟩
    · exact (hs.2 b (Nat.ne_of_lt (Nat.lt_of_lt_of_le (Heap.lt_size e) (I.ok.cab x c hfn hc)))).trans (I.base.keep b o e n hb hx)
    · obtain ⟨sl,e1⟩:=I.base.slot b o e n hb hx
      exact ⟨sl,(hs.2 b (Nat.ne_of_lt (Nat.lt_of_lt_of_le (Heap.lt_size e) (I.ok.cab x c hfn hc)))).trans e1⟩
    · obtain ⟨o',e1⟩:=I.base.there b o e hx
      exact ⟨o',(hs.2 b (Nat.ne_of_lt (Nat.lt_of_lt_of_le (Heap.lt_size e) (I.ok.cab x c hfn hc)))).trans e1⟩
    · by_cases hj:j=i
      · subst hj
        rw [hi] at e1; cases e1
        rw [List.getElem?_set_self hiσ] at e2
        cases e2
        exact ⟨u,r,.inr ⟨.inl hk,c,hc,hc'⟩⟩
      · rw [List.getElem?_set_ne (Ne.symm hj)] at e2
        obtain ⟨u',r',q⟩:=hl j y v' e1 e2 e3
        refine ⟨u',r',?_⟩
        rcases q with q | ⟨k,c',e,z'⟩
        · exact .inl q
        · refine .inr ⟨k,c',e,z'.sameBut hs ?_⟩
          rintro rfl
          exact hj (nodup_ix hN e1 (I.ok.inj _ _ _ e hc▸hi))
    · by_cases hcc:c'=c
      · subst hcc; exact ⟨_,hc'⟩
      · obtain ⟨w2,z2⟩:=I.cell y c' e
        exact ⟨w2,z2.sameBut hs hcc⟩
    · obtain ⟨e,n,ne,nf,d⟩:=I.pin p hp
      refine ⟨(hs.2 p.1 ?_).trans e,n,ne,nf,d⟩
      intro q
      rw [q,hoc] at e
      have q':oc=p.2:=Option.some.inj e
      exact d w' (by rw [← q']; exact hocd)
theorem store_ok {M:Model} {A:Around} {E:Value→Shared→Prop} {i:Nat} {x:Str} {v:V} {u:Value} {Q:Unit→Shared→Prop} (I:Inv X pins σ H s) (hN:X.N.Nodup) (hi:X.N[i]? = some x) (hx:Loc X.env.scope x) (r:RelV v u) (h:∀ s',Inv X pins (σ.set i (some v)) H s'→Q () s') (hf:X.fn x=true∨X.env.scope.names.lookup x=some .local:=by first | exact .inl rfl | exact .inr rfl | assumption):wpAny M A (storeName X.env x u) Q E s :=
  store_ok2 I hN hi hx r (fun s' I' _=>h s' I') hf
theorem Inv.call' {s':Shared} {ch:List Addr} (I:Inv X pins σ H s) (ho:s'.os=s.os) (u:Un (frs X.stack) ch H H' s.heap s'.heap) (hok:HOk X.prog X.w H' s'.heap) (hg:AllBare s'.gens) (hch:∀ b∈ch,(b∈X.ex∨X.s₀.heap.objs.size≤b)∧b≠X.env.locals∧(∀ x c,X.env.cells.lookup x=some c→c≠b)∧∀ p∈X.pn++pins,p.1≠b):Inv X pins σ H' s':=by
  obtain ⟨h',g',d',t',o'⟩:=s'
  have e:o'=s.os:=ho
  subst e
  exact I.call (g':=g') (t':=t') (d':=d') u hok hg hch
end
abbrev XK:=Value→Option Addr→Hp→Prop
abbrev St:=List (Option V)
abbrev VK:=V→Hp→Prop
abbrev TE:=St→Hp→VK→Prop
abbrev TT:=St→Hp→(Bool→Hp→Prop)→Prop
abbrev TA:=St→Hp→(List V→Hp→Prop)→Prop
structure Ends where
  nx:St→Hp→Prop
  rt:VK
  bk:St→Hp→Prop:=fun _ _=>False
  ct:St→Hp→Prop:=fun _ _=>False
abbrev TS:=Ends→St→Hp→Prop
def EP (X:Cx) (pins:List (Addr×Obj)) (σ:St) (Q:VK) (u:Value) (s':Shared):Prop:=∃ v H',Inv X pins σ H' s'∧RelV v u∧Q v H'
def TP (X:Cx) (pins:List (Addr×Obj)) (σ:St) (Q:Bool→Hp→Prop) (b:Bool) (s':Shared):Prop:=∃ H',Inv X pins σ H' s'∧Q b H'
def AP (X:Cx) (pins:List (Addr×Obj)) (σ:St) (Q:List V→Hp→Prop) (us:List Value) (s':Shared):Prop:=∃ vs H',Inv X pins σ H' s'∧Vals vs us∧Q vs H'
def SP (X:Cx) (pins:List (Addr×Obj)) (D:Ends) (f:Flow) (s':Shared):Prop :=
  match f with
  | .next=>∃ σ' H',Inv X pins σ' H' s'∧D.nx σ' H'
  | .brk=>∃ σ' H',Inv X pins σ' H' s'∧D.bk σ' H'
  | .cont=>∃ σ' H',Inv X pins σ' H' s'∧D.ct σ' H'
  | .ret u=>∃ v σ' H',Inv X pins σ' H' s'∧RelV v u∧D.rt v H'
def PE (X:Cx) (e:Expr) (t:TE):Prop :=
  ∀ (pins:List (Addr×Obj)) (s:Shared) (σ:St) (H:Hp) (Q:VK),Inv X pins σ H s→t σ H Q→wpAny (model X.prog X.w) X.A (eval e X.env) (EP X pins σ Q) X.xe s
def PT (X:Cx) (e:Expr) (t:TT):Prop :=
  ∀ (pins:List (Addr×Obj)) (s:Shared) (σ:St) (H:Hp) (Q:Bool→Hp→Prop),Inv X pins σ H s→t σ H Q→wpAny (model X.prog X.w) X.A (isTrue e X.env (eval e X.env)) (TP X pins σ Q) X.xe s
def PW (X:Cx) (e:Expr) (t:TT):Prop :=
  ∀ (whole:Sem Value) (pins:List (Addr×Obj)) (s:Shared) (σ:St) (H:Hp) (Q:Bool→Hp→Prop),Inv X pins σ H s→t σ H Q→wpAny (model X.prog X.w) X.A (isTrue e X.env whole) (TP X pins σ Q) X.xe s
theorem PW.pt {X:Cx} {e:Expr} {t:TT} (h:PW X e t):PT X e t:=h _
def PA (X:Cx) (es:List Expr) (t:TA):Prop :=
  ∀ (pos:Pos) (pins:List (Addr×Obj)) (s:Shared) (σ:St) (H:Hp) (Q:List V→Hp→Prop),Inv X pins σ H s→t σ H Q→wpAny (model X.prog X.w) X.A (spliced (backTo pos (starEach es X.env))) (AP X pins σ Q) X.xe s
def PS (X:Cx) (st:Stmt) (t:TS):Prop :=
  ∀ (pins:List (Addr×Obj)) (s:Shared) (σ:St) (H:Hp) (D:Ends),Inv X pins σ H s→t D σ H→wpAny (model X.prog X.w) X.A (exec st X.env) (SP X pins D) X.xe s
def PSs (X:Cx) (st:List Stmt) (t:TS):Prop :=
  ∀ (pins:List (Addr×Obj)) (s:Shared) (σ:St) (H:Hp) (D:Ends),Inv X pins σ H s→t D σ H→wpAny (model X.prog X.w) X.A (execs st X.env) (SP X pins D) X.xe s
theorem thn {α:Type} {t:Sem α} {Q Q':α→Shared→Prop} {M:Model} {A:Around} {E:Value→Shared→Prop} {s:Shared} (h:wpAny M A t Q E s) (hQ:∀ a s,Q a s→Q' a s):wpAny M A t Q' E s:=wpAny_mono h hQ fun _ _ x=>x
end L2
namespace L2
open PySem PySem.Spec PyProof.Rows
section
variable {X:Cx}
theorem bin {a b:Expr} {ta tb:TE} (ha:PE X a ta) (hb:PE X b tb) {pins:List (Addr×Obj)} {s:Shared} {σ:St} {H:Hp} {R:V→V→Hp→Prop} (I:Inv X pins σ H s) (h:ta σ H fun x H1=>tb σ H1 fun y H2=>R x y H2) {α:Type} {Q:α→Shared→Prop} {f:Value→Value→Sem α} (hf:∀ v u s2 x y H2,Inv X pins σ H2 s2→RelV x v→RelV y u→R x y H2→wpAny (model X.prog X.w) X.A (f v u) Q X.xe s2):wpAny (model X.prog X.w) X.A (eval a X.env) (fun v s₁=>wpAny (model X.prog X.w) X.A (eval b X.env) (fun u s₂=>wpAny (model X.prog X.w) X.A (f v u) Q X.xe s₂) X.xe s₁) X.xe s:=by
  refine thn (ha pins s σ H _ I h) fun v s1 ⟨x,H1,I1,r1,q1⟩=>?_
  refine thn (hb pins s1 σ H1 _ I1 q1) fun u s2 ⟨y,H2,I2,r2,q2⟩=>?_
  exact hf v u s2 x y H2 I2 r1 r2 q2
def tVar (i:Nat):TE:=fun σ H Q=>∃ v,σ[i]? = some (some v)∧Q v H
def tC (v:V):TE:=fun _ H Q=>Q v H
theorem pe_var {i:Nat} {x:Str} {pos:Pos} (hN:X.N[i]? = some x) (hv:Vis X.env.scope x) (hd:(x == ("__debug__" : Str))=false:=by decide) (hcd:(x == ("__classdict__" : Str))=false:=by decide):PE X (.Name x pos) (tVar i):=by
  intro pins s σ H Q I h
  obtain ⟨v,e,h⟩:=h
  obtain ⟨m,hn,hl⟩:=I.loc
  obtain ⟨u,r,l⟩:=hl i x v hN e hv
  have fin:EP X pins σ Q u s:=⟨v,H,I,r,h⟩
  rcases l with ⟨hk,hm⟩ | ⟨hk,c,hc,hcell⟩
  · exact wpAny_Name (wpAny_loadName_local I.ok.kind hk hn hm fin) hd
  · rcases hk with hk | hk
    · exact wpAny_Name (wpAny_loadName_cell I.ok.kind hk hc hcell fin) hd
    · exact wpAny_Name (wpAny_loadName_free I.ok.kind hk hc hcell fin hcd) hd
theorem pe_int {i j pos}:PE X (.Constant (.int i) j pos) (tC (.int i)):=fun _ _ _ H _ I h=>wpAny_Constant_int ⟨.int i,H,I.tok _,⟨_,rfl⟩,h⟩
theorem pe_bl {b j pos}:PE X (.Constant (.bool b) j pos) (tC (.bl b)):=fun _ _ _ H _ I h=>Constant_bool ⟨.bl b,H,I,rfl,h⟩
theorem pe_non {j pos}:PE X (.Constant .none j pos) (tC .non):=fun _ _ _ H _ I h=>Constant_none ⟨.non,H,I,rfl,h⟩
def Gl (X:Cx) (x:Str):Prop:=X.env.kindOf x=some .globalImplicit
theorem ld_glob {E:Value→Shared→Prop} {pins:List (Addr×Obj)} {s:Shared} {σ:St} {H:Hp} {x:Str} {u:Value} {pos:Pos} {Q:Value→Shared→Prop} (I:Inv X pins σ H s) (hg:Gl X x) (hm:X.mg x=some u) (h:Q u s) (hd:(x == ("__debug__" : Str))=false:=by decide):wpAny (model X.prog X.w) X.A (eval (.Name x pos) X.env) Q E s :=
  Calls.Name_function_global I.ok.kind hg (Calls.loadGlobal_global (by rw [I.ok.glob]; exact I.mod.glob.keeps I.bk) hm h) hd
theorem ld_blt {E:Value→Shared→Prop} {pins:List (Addr×Obj)} {s:Shared} {σ:St} {H:Hp} {x:Str} {u:Value} {pos:Pos} {Q:Value→Shared→Prop} (I:Inv X pins σ H s) (hg:Gl X x) (hm:X.mg x=none) (hv:bootBuiltins x=some u) (h:Q u s) (hn:x ≠ "__name__" := by decide) (hd:(x == ("__debug__" : Str))=false:=by decide):wpAny (model X.prog X.w) X.A (eval (.Name x pos) X.env) Q E s:=by
  obtain ⟨mb,h1,h2⟩:=I.mod.blt
  exact Calls.Name_function_global I.ok.kind hg (Calls.loadGlobal_builtin (by rw [I.ok.glob]; exact I.mod.glob.keeps I.bk) hm (by rw [I.ok.blt]; exact h1.keeps I.bk) ((h2 x hn).trans hv) h) hd
theorem pe_bltn {x:Str} {v:V} {u:Value} {pos:Pos} (hg:Gl X x) (hm:X.mg x=none) (hv:bootBuiltins x=some u) (r:RelV v u) (hn:x ≠ "__name__" := by decide) (hd:(x == ("__debug__" : Str))=false:=by decide):PE X (.Name x pos) (tC v) :=
  fun _ _ _ H _ I h=>ld_blt I hg hm hv ⟨v,H,I,r,h⟩ hn hd
variable {a b:Expr} {ta tb:TE} {pos:Pos}
def PC (X:Cx) (op:CmpOp) (a b:Expr) (t:TE):Prop :=
  ∀ (pins:List (Addr×Obj)) (s:Shared) (σ:St) (H:Hp) (Q:VK),Inv X pins σ H s→t σ H Q →
    wpAny (model X.prog X.w) X.A (eval a X.env) (fun v s₁=>wpAny (model X.prog X.w) X.A (eval b X.env) (fun u s₂=>wpAny (model X.prog X.w) X.A (compareOp op v u) (EP X pins σ Q) X.xe s₂) X.xe s₁) X.xe s
theorem nobehind (b:Expr) {op:CmpOp} (h:op≠.In) (h2:op≠.NotIn):behindInMarks op b=false:=by
  have e1:(op == CmpOp.In)=false:=by cases op <;> first | rfl | exact absurd rfl h
  have e2:(op == CmpOp.NotIn)=false:=by cases op <;> first | rfl | exact absurd rfl h2
  cases b <;> simp [behindInMarks,e1,e2]
def tB (t:TE):TT:=fun σ H Q=>t σ H fun x H1=>∃ c,x=.bl c∧Q c H1
theorem pt_cmp {op:CmpOp} {t:TE} (h:PC X op a b t) (h1:behindInMarks op b=false:=by first | exact nobehind _ (by decide) (by decide) | rfl):PT X (.Compare a [op] [b] pos) (tB t):=by
  intro pins s σ H Q I hw
  refine wpAny_isTrue_Compare1 (thn (h pins s σ H _ I hw) fun v s1 h1=>thn h1 fun u s2 h2=>thn h2 fun c s3 ⟨x,H1,I1,r1,q1⟩=>?_) h1
  obtain ⟨d,rfl,q⟩:=q1
  cases r1
  exact wpAny_truthy_bool ⟨H1,I1,q⟩
theorem pt_val {e:Expr} {t:TE} (h:PE X e t) (he:∀ whole,isTrue e X.env whole=(do let v ← whole; standAt e.pos; holding [v] (truthy v)):=by intro _; rfl):PT X e (tB t):=by
  intro pins s σ H Q I hw
  refine isTrue_plain (thn (h pins s σ H _ I hw) fun v s1 ⟨x,H1,I1,r1,q1⟩=>?_) (he _)
  obtain ⟨d,rfl,q⟩:=q1
  cases r1
  exact wpAny_truthy_bool ⟨H1,I1,q⟩
variable {tA tB':TT} {rest:List Expr}
def tAnd (t u:TT):TT:=fun σ H Q=>t σ H fun c H1=>if c=true then u σ H1 Q else Q false H1
def tOr (t u:TT):TT:=fun σ H Q=>t σ H fun c H1=>if c=true then Q true H1 else u σ H1 Q
def tNot (t:TT):TT:=fun σ H Q=>t σ H fun c H1=>Q (!c) H1
theorem pw_and1 (ha:PT X a tA):PW X (.BoolOp .And [a] pos) tA:=by
  intro wh pins s σ H Q I h
  refine isTrue_and (thn (ha pins s σ H Q I h) fun c s1 e=>?_)
  cases c with
  | true=>exact isTrue_and_nil e
  | false=>exact e
theorem pw_or1 (ha:PT X a tA):PW X (.BoolOp .Or [a] pos) tA:=by
  intro wh pins s σ H Q I h
  refine isTrue_or (thn (ha pins s σ H Q I h) fun c s1 e=>?_)
  cases c with
  | false=>exact isTrue_or_nil e
  | true=>exact e
theorem pw_and (ha:PT X a tA) (hb:PW X (.BoolOp .And (b::rest) pos) tB'):PW X (.BoolOp .And (a::b::rest) pos) (tAnd tA tB'):=by
  intro wh pins s σ H Q I h
  refine isTrue_and (thn (ha pins s σ H _ I h) fun c s1 ⟨H1,I1,q1⟩=>?_)
  cases c with
  | true=>exact hb wh pins s1 σ H1 Q I1 q1
  | false=>exact ⟨H1,I1,q1⟩
theorem pw_or (ha:PT X a tA) (hb:PW X (.BoolOp .Or (b::rest) pos) tB'):PW X (.BoolOp .Or (a::b::rest) pos) (tOr tA tB'):=by
  intro wh pins s σ H Q I h
  refine isTrue_or (thn (ha pins s σ H _ I h) fun c s1 ⟨H1,I1,q1⟩=>?_)
  cases c with
  | true=>exact ⟨H1,I1,q1⟩
  | false=>exact hb wh pins s1 σ H1 Q I1 q1
theorem pt_not (ha:PT X a tA):PT X (.UnaryOp .Not a pos) (tNot tA):=by
  intro pins s σ H Q I h
  exact isTrue_not (ha pins s σ H (fun c H1=>Q (!c) H1) I h)
def tIf (t:TT) (ta tb:TE):TE:=fun σ H Q=>t σ H fun c H1=>if c=true then ta σ H1 Q else tb σ H1 Q
theorem pe_ifExp {c:Expr} (hc:PT X c tA) (ha:PE X a ta) (hb:PE X b tb):PE X (.IfExp c a b pos) (tIf tA ta tb):=by
  intro pins s σ H Q I h
  refine wpAny_IfExp (thn (hc pins s σ H _ I h) fun d s1 ⟨H1,I1,q1⟩=>?_)
  cases d with
  | true=>exact ha pins s1 σ H1 Q I1 q1
  | false=>exact hb pins s1 σ H1 Q I1 q1
end
end L2
namespace L2
open PySem PySem.Spec PyProof.Rows
def SqL (K:PySem.W.Frag) (H:Hp) (a:Addr) (xs:List V):Prop :=
  Rd H a (.lst xs) ∨
    ∃ (o:Obj) (its:Array Value) (n:Nat),K.lookup a=some o∧o.cls=.type "list" ∧ o.dict=none∧o.data=.seq its n∧its.size≤sizeLine∧Vals xs its.toList
def SqT (K:PySem.W.Frag) (H:Hp) (a:Addr) (xs:List V):Prop :=
  Rd H a (.tup xs) ∨
    ∃ (o:Obj) (its:Array Value) (n:Nat),K.lookup a=some o∧o.cls=.type "tuple" ∧ o.data=.seq its n∧its.size≤sizeLine∧Vals xs its.toList
def absV:Value→Option V
  | .none=>some .non
  | .bool b=>some (.bl b)
  | .int i _=>some (.int i)
  | .str x _=>some (.str x)
  | .bytes b _=>some (.byt b)
  | .float b _=>some (.flt b)
  | .ref a=>some (.ref a)
  | .type n=>some (.ty n)
  | _=>none
theorem RelV.abs {x:V} {u:Value} (r:RelV x u):absV u=some x:=by
  cases x with
  | non=>cases r; rfl
  | bl _=>cases r; rfl
  | int _=>obtain ⟨t,rfl⟩:=r; rfl
  | str _=>obtain ⟨t,rfl⟩:=r; rfl
  | byt _=>obtain ⟨t,rfl⟩:=r; rfl
  | flt _=>obtain ⟨t,rfl⟩:=r; rfl
  | ref _=>cases r; rfl
  | ty _=>cases r; rfl
theorem RelV.inj {x y:V} {u:Value} (r:RelV x u) (q:RelV y u):x=y:=Option.some.inj (r.abs.symm.trans q.abs)
theorem Vals.inj:∀ {xs ys:List V} {us:List Value},Vals xs us→Vals ys us→xs=ys
  | _,_,_,.nil,.nil=>rfl
  | _,_,_,.cons r t,.cons r' t'=>by rw [r.inj r',Vals.inj t t']
section
variable {X:Cx} {pins:List (Addr×Obj)} {σ:St} {H:Hp} {s:Shared} {a:Addr} {xs ys:List V}
theorem SqL.of {K:PySem.W.Frag} (h:H a=some (.lst xs)):SqL K H a xs:=.inl (.inl h)
theorem SqT.of {K:PySem.W.Frag} (h:H a=some (.tup xs)):SqT K H a xs:=.inl (.inl h)
theorem Inv.list (I:Inv X pins σ H s) (h:SqL X.K H a xs):∃ its:List Value,Vals xs its∧PlainL s.heap a its.toArray∧xs.length≤sizeLine:=by
  rcases h with h | ⟨o,its,n,hk,hc,hd,hs,hz,r⟩
  · obtain ⟨z,its,n,r,e⟩:=h.ok I.hok
    exact ⟨its,r,⟨_,n,e,rfl,rfl,rfl⟩,z⟩
  · refine ⟨its.toList,r,⟨o,n,I.kIn a o hk,hc,hd,by simpa using hs⟩,?_⟩
    have e:=r.length
    simp only [Array.length_toList] at e
    omega
theorem Inv.tuple (I:Inv X pins σ H s) (h:SqT X.K H a xs):∃ its:List Value,Vals xs its∧IsTup s.heap a its.toArray∧xs.length≤sizeLine:=by
  rcases h with h | ⟨o,its,n,hk,hc,hs,hz,r⟩
  · obtain ⟨z,its,r,p⟩:=h.ok I.hok
    exact ⟨its,r,p,z⟩
  · refine ⟨its.toList,r,⟨o,I.kIn a o hk,hc,n,by simpa using hs⟩,?_⟩
    have e:=r.length
    simp only [Array.length_toList] at e
    omega
theorem Inv.list_inj (I:Inv X pins σ H s) (h:SqL X.K H a xs) (h':SqL X.K H a ys):xs=ys:=by
  obtain ⟨its,r,⟨o,n,e,_,_,d⟩,_⟩:=I.list h
  obtain ⟨its',r',⟨o',n',e',_,_,d'⟩,_⟩:=I.list h'
  rw [e] at e'; cases e'
  rw [d] at d'
  injection d' with d1 _
  have : its=its':=by simpa using congrArg Array.toList d1
  subst this
  exact r.inj r'
theorem Inv.tuple_inj (I:Inv X pins σ H s) (h:SqT X.K H a xs) (h':SqT X.K H a ys):xs=ys:=by
  obtain ⟨its,r,⟨o,e,_,n,d⟩,_⟩:=I.tuple h
  obtain ⟨its',r',⟨o',e',_,n',d'⟩,_⟩:=I.tuple h'
  rw [e] at e'; cases e'
  rw [d] at d'
  injection d' with d1 _
  have : its=its':=by simpa using congrArg Array.toList d1
  subst this
  exact r.inj r'
end
abbrev Cx.wish (X:Cx) (E:Value→Shared→Prop):Cx:={ X with xe:=E }
abbrev Cx.nox (X:Cx):Cx:=X.wish fun _ _=>False
theorem Cx.Ok.wish {X:Cx} (ok:X.Ok) (E:Value→Shared→Prop):(X.wish E).Ok :=
  ⟨ok.mod,ok.kind,ok.glob,ok.blt,ok.above,ok.inj,ok.has,ok.cab,ok.hd,ok.frames,ok.stk,ok.exf,ok.bs,ok.bsz,ok.noex,ok.exfs,ok.funs,ok.frf⟩
theorem Cx.Ok.unwish {X:Cx} {E:Value→Shared→Prop} (ok:(X.wish E).Ok):X.Ok :=
  ⟨ok.mod,ok.kind,ok.glob,ok.blt,ok.above,ok.inj,ok.has,ok.cab,ok.hd,ok.frames,ok.stk,ok.exf,ok.bs,ok.bsz,ok.noex,ok.exfs,ok.funs,ok.frf⟩
section
variable {X:Cx} {pins:List (Addr×Obj)} {σ:St} {H:Hp} {s:Shared} {E:Value→Shared→Prop}
theorem Inv.wish (I:Inv X pins σ H s) (E:Value→Shared→Prop):Inv (X.wish E) pins σ H s:=⟨I.ok.wish E,I.os,I.bare,I.base,I.loc,I.cell,I.free,I.freeC,I.pin,I.hok,I.len⟩
theorem Inv.unwish (I:Inv (X.wish E) pins σ H s):Inv X pins σ H s:=⟨I.ok.unwish,I.os,I.bare,I.base,I.loc,I.cell,I.free,I.freeC,I.pin,I.hok,I.len⟩
theorem SP.unwish {D:Ends} {f:Flow} {s':Shared} (h:SP (X.wish E) pins D f s'):SP X pins D f s':=by
  cases f with
  | next=>obtain ⟨σ',H',I,q⟩:=h; exact ⟨σ',H',I.unwish,q⟩
  | brk=>obtain ⟨σ',H',I,q⟩:=h; exact ⟨σ',H',I.unwish,q⟩
  | cont=>obtain ⟨σ',H',I,q⟩:=h; exact ⟨σ',H',I.unwish,q⟩
  | ret u=>obtain ⟨v,σ',H',I,r,q⟩:=h; exact ⟨v,σ',H',I.unwish,r,q⟩
theorem PSs.nox {st:List Stmt} {t:TS} (h:PSs X.nox st t):PSs X st t:=fun pins s σ H D I hw =>
  wpAny_mono (h pins s σ H D (I.wish _) hw) (fun _ _ q=>q.unwish) fun _ _ z=>False.elim z
end
section
variable {X:Cx} {st:Stmt} {rest:List Stmt} {t u:TS} {e:Expr} {te:TE} {pos:Pos}
def tNext:TS:=fun D σ H=>D.nx σ H
def tSeq (t u:TS):TS:=fun D σ H=>t { D with nx:=u D } σ H
theorem pss_nil:PSs X [] tNext:=fun _ _ σ H _ I h=>wpAny_execs_nil ⟨σ,H,I,h⟩
theorem pss_cons (h1:PS X st t) (h2:PSs X rest u):PSs X (st::rest) (tSeq t u):=by
  intro pins s σ H D I h
  refine wpAny_execs_cons (thn (h1 pins s σ H { D with nx:=u D } I h) fun f s1 q=>?_)
  cases f with
  | next =>
    obtain ⟨σ',H',I',q⟩:=q
    exact h2 pins s1 σ' H' D I' q
  | ret v=>exact q
  | brk=>exact q
  | cont=>exact q
theorem pss_one (h1:PS X st t):PSs X [st] t:=by
  intro pins s σ H D I h
  refine wpAny_execs_cons (thn (h1 pins s σ H D I h) fun f s1 q=>?_)
  cases f with
  | next=>exact wpAny_execs_nil q
  | ret v=>exact q
  | brk=>exact q
  | cont=>exact q
theorem Inv.quiet {pins:List (Addr×Obj)} {σ:St} {H:Hp} {s:Shared} (I:Inv X pins σ H s):interactive X.env=false:=by simp [interactive,I.ok.kind]
def tDrop (te:TE):TS:=fun D σ H=>te σ H fun _ H1=>D.nx σ H1
theorem ps_expr (he:PE X e te) (hs:swapsWith e none pos.line X.env=pure false:=by rfl):PS X (.Expr e pos) (tDrop te):=by
  intro pins s σ H D I h
  exact wpAny_Expr_any (thn (he pins s σ H _ I h) fun v s1 ⟨x,H1,I1,r1,q1⟩=>⟨σ,H1,I1,q1⟩) I.quiet hs
def tRet (te:TE):TS:=fun D σ H=>te σ H D.rt
theorem ps_ret (he:PE X e te):PS X (.Return (some e) pos) (tRet te):=by
  intro pins s σ H D I h
  exact wpAny_Return_some (thn (he pins s σ H _ I h) fun v s1 ⟨x,H1,I1,r1,q1⟩=>⟨x,σ,H1,I1,r1,q1⟩)
def tIfS (c:TT) (t u:TS):TS:=fun D σ H=>c σ H fun b H1=>if b=true then t D σ H1 else u D σ H1
theorem ps_if {c:Expr} {a b:List Stmt} {tc:TT} (hc:PT X c tc) (ha:PSs X a t) (hb:PSs X b u):PS X (.If c a b pos) (tIfS tc t u):=by
  intro pins s σ H D I h
  refine wpAny_If (thn (hc pins s σ H _ I h) fun d s1 ⟨H1,I1,q1⟩=>?_)
  cases d with
  | true=>exact ha pins s1 σ H1 D I1 q1
  | false=>exact hb pins s1 σ H1 D I1 q1
end
abbrev TG:=V→St→Hp→(St→Hp→Prop)→Prop
abbrev TGs:=List V→St→Hp→(St→Hp→Prop)→Prop
def PG (X:Cx) (target:Expr) (t:TG):Prop :=
  ∀ (pins:List (Addr×Obj)) (s:Shared) (σ:St) (H:Hp) (v:V) (u:Value) (Q:St→Hp→Prop),Inv X pins σ H s→RelV v u→t v σ H Q →
    wpAny (model X.prog X.w) X.A (assign target X.env u) (fun _ s'=>∃ σ' H',Inv X pins σ' H' s'∧Q σ' H') X.xe s
def PGs (X:Cx) (ts:List Expr) (t:TGs):Prop :=
  ∀ (pins:List (Addr×Obj)) (s:Shared) (σ:St) (H:Hp) (vs:List V) (us:List Value) (Q:St→Hp→Prop),Inv X pins σ H s→Vals vs us→t vs σ H Q →
    wpAny (model X.prog X.w) X.A (assignInOrder ((assignEach ts X.env).map (·.2)) us) (fun _ s'=>∃ σ' H',Inv X pins σ' H' s'∧Q σ' H') X.xe s
abbrev TSet:=V→V→V→Hp→(Hp→Prop)→Prop
def PSet (X:Cx) (t:TSet):Prop :=
  ∀ (pins:List (Addr×Obj)) (s:Shared) (σ:St) (H:Hp) (o i v:V) (ov iv u:Value) (Q:Hp→Prop),Inv X pins σ H s→RelV o ov→RelV i iv→RelV v u→t o i v H Q →
    wpAny (model X.prog X.w) X.A (setItem ov iv u) (fun _ s'=>∃ H',Inv X pins σ H' s'∧Q H') X.xe s
abbrev TIp:=V→V→Hp→VK→Prop
def PIp (X:Cx) (op:Operator) (t:TIp):Prop :=
  ∀ (pins:List (Addr×Obj)) (s:Shared) (σ:St) (H:Hp) (x y:V) (v u:Value) (Q:VK),Inv X pins σ H s→RelV x v→RelV y u→t x y H Q →
    wpAny (model X.prog X.w) X.A (inplaceOp op v u) (EP X pins σ Q) X.xe s
section
variable {X:Cx} {pos:Pos}
def gName (i:Nat):TG:=fun v σ H Q=>Q (σ.set i (some v)) H
theorem pg_name {i:Nat} {x:Str} (hN:X.N.Nodup) (hi:X.N[i]? = some x) (hx:Loc X.env.scope x) (hf:X.fn x=true∨X.env.scope.names.lookup x=some .local:=by first | exact .inl rfl | exact .inr rfl | assumption):PG X (.Name x pos) (gName i):=by
  intro pins s σ H v u Q I r h
  exact wpAny_assign_Name (store_ok I hN hi hx r (fun s' I'=>⟨_,H,I',h⟩) hf)
def gNil:TGs:=fun vs σ H Q=>vs=[]∧Q σ H
def gCons (t:TG) (u:TGs):TGs:=fun vs σ H Q=>∃ v r,vs=v::r∧t v σ H fun σ' H'=>u r σ' H' Q
theorem pgs_nil:PGs X [] gNil:=by
  intro pins s σ H vs us Q I r h
  obtain ⟨e,h⟩:=h
  subst e
  cases r
  exact assignInOrder_nil ⟨σ,H,I,h⟩
theorem pgs_cons {e:Expr} {es:List Expr} {t:TG} {u:TGs} (h1:PG X e t) (h2:PGs X es u) (hs:(assignEach (e::es) X.env).map (·.2)=assign e X.env::(assignEach es X.env).map (·.2):=by rfl):PGs X (e::es) (gCons t u):=by
  intro pins s σ H vs us Q I r h
  obtain ⟨v,vr,e1,h⟩:=h
  subst e1
  cases r with
  | cons r rr =>
    rw [hs]
    refine assignInOrder_cons (thn (h1 pins s σ H _ _ _ I r h) fun _ s1 ⟨σ1,H1,I1,q1⟩=>?_)
    exact h2 pins s1 σ1 H1 _ _ Q I1 rr q1
def gTup (K:PySem.W.Frag) (n:Nat) (t:TGs):TG:=fun v σ H Q=>∃ a xs,v=.ref a∧SqT K H a xs∧xs.length=n∧t xs σ H Q
theorem pg_tup {es:List Expr} {k:Nat} {t:TGs} {n:Nat} (hc:X.calm=true) (h:PGs X es t) (hn:(assignEach es X.env).length=n:=by rfl) (hst:(assignEach es X.env).findIdx? (·.1)=none:=by rfl):PG X (.Tuple es k pos) (gTup X.K n t):=by
  intro pins s σ H v u Q I r hw
  obtain ⟨a,xs,e1,hq,hl,hw⟩:=hw
  subst e1
  cases r
  obtain ⟨its,rv,ht,hz⟩:=I.tuple hq
  refine assign_Tuple_tuple (I.ok.hd hc) ht (by simp [hn,← hl,rv.length]) hst fun h' hx=>?_
  have I1:Inv X pins σ H { s with heap:=h' }:=I.kept (t':=s.toks) fun b o e=>hx b o (Nat.ne_of_lt (Heap.lt_size e)) e
  exact h pins _ σ H xs _ Q I1 (by simpa using rv) hw
def gSub (to ti:TE) (t:TSet):TG:=fun v σ H Q=>to σ H fun o H1=>ti σ H1 fun i H2=>t o i v H2 fun H3=>Q σ H3
theorem pg_sub {o i:Expr} {to ti:TE} {t:TSet} (ho:PE X o to) (hi:PE X i ti) (hs:PSet X t)
    (ha:∀ v,assign (.Subscript o i pos) X.env v=(do
      let ov ← holding [v] (eval o X.env)
      let iv ← holding [v,ov] (eval i X.env)
      standAt pos
      holding [v,ov,iv] (setItem ov iv v)
      release [v,ov,iv] []):=by intro _; rfl):PG X (.Subscript o i pos) (gSub to ti t):=by
  intro pins s σ H v u Q I r h
  rw [ha]
  refine wpAny_bind (wpAny_holding (thn (ho pins s σ H _ I h) fun ov s1 ⟨x,H1,I1,r1,q1⟩=>?_))
  refine wpAny_bind (wpAny_holding (thn (hi pins s1 σ H1 _ I1 q1) fun iv s2 ⟨y,H2,I2,r2,q2⟩=>?_))
  refine wpAny_bind (wpAny_standAt (wpAny_bind (wpAny_holding (thn (hs pins s2 σ H2 x y v ov iv u _ I2 r1 r2 r q2) fun _ s3 ⟨H3,I3,q3⟩=>?_))))
  exact wpAny_release ⟨σ,H3,I3,q3⟩
def tAsg (te:TE) (g:TG):TS:=fun D σ H=>te σ H fun x H1=>g x σ H1 D.nx
theorem ps_asg {tg e:Expr} {te:TE} {g:TG} (he:PE X e te) (hg:PG X tg g) (hs:swapsWithSole [tg] e pos.line X.env=pure false:=by rfl) (hw:swappedStores [tg] e X.env=pure none:=by rfl) (h1:(assignEach [tg] X.env).map (·.2)=[assign tg X.env]:=by rfl):PS X (.Assign [tg] e pos) (tAsg te g):=by
  intro pins s σ H D I h
  refine wpAny_Assign_stores (thn (he pins s σ H _ I h) fun v s1 ⟨x,H1,I1,r1,q1⟩=>?_) hs hw
  rw [h1]
  exact thn (hg pins s1 σ H1 x v _ I1 r1 q1) fun _ s2 q=>q
theorem ps_set {i:Nat} {x:Str} {e:Expr} {te:TE} {pos':Pos} (hN:X.N.Nodup) (hi:X.N[i]? = some x) (hx:Loc X.env.scope x) (he:PE X e te) (hs:swapsWith e (some (.Name x pos')) pos.line X.env=pure false:=by rfl) (hf:X.fn x=true∨X.env.scope.names.lookup x=some .local:=by first | exact .inl rfl | exact .inr rfl | assumption):PS X (.Assign [.Name x pos'] e pos) (tAsg te (gName i)):=by
  intro pins s σ H D I h
  refine wpAny_Assign_Name (thn (he pins s σ H _ I h) fun v s1 ⟨y,H1,I1,r1,q1⟩=>?_) hs
  exact store_ok I1 hN hi hx r1 (fun s2 I2=>⟨_,H1,I2,q1⟩) hf
def tAugS (to ti te:TE) (tget:V→V→Hp→VK→Prop) (tip:TIp) (tset:TSet):TS:=fun D σ H=>to σ H fun o H1=>ti σ H1 fun i H2=>tget o i H2 fun x H3=>te σ H3 fun y H4=>tip x y H4 fun z H5=>tset o i z H5 fun H6=>D.nx σ H6
def PGet (X:Cx) (t:V→V→Hp→VK→Prop):Prop :=
  ∀ (pins:List (Addr×Obj)) (s:Shared) (σ:St) (H:Hp) (o i:V) (ov iv:Value) (Q:VK),Inv X pins σ H s→RelV o ov→RelV i iv→t o i H Q →
    wpAny (model X.prog X.w) X.A (getItem ov iv) (EP X pins σ Q) X.xe s
theorem ps_augS {o i e:Expr} {to ti te:TE} {tget:V→V→Hp→VK→Prop} {tip:TIp} {tset:TSet} {op:Operator} {tpos:Pos} (ho:PE X o to) (hi:PE X i ti) (hg:PGet X tget) (he:PE X e te) (hp:PIp X op tip) (hs:PSet X tset) (ha:∀ ov iv new,augStore i ov iv new=(do holding [new,ov,iv] (setItem ov iv new); release [new,ov,iv] []; pure .next):=by intros; rfl):PS X (.AugAssign (.Subscript o i tpos) op e pos) (tAugS to ti te tget tip tset):=by
  intro pins s σ H D I h
  refine wpAny_AugAssign_SubscriptAny (thn (ho pins s σ H _ I h) fun ov s1 ⟨x1,H1,I1,r1,q1⟩=>?_) ha
  refine thn (hi pins s1 σ H1 _ I1 q1) fun iv s2 ⟨x2,H2,I2,r2,q2⟩=>?_
  refine thn (hg pins s2 σ H2 x1 x2 ov iv _ I2 r1 r2 q2) fun old s3 ⟨x3,H3,I3,r3,q3⟩=>?_
  refine thn (he pins s3 σ H3 _ I3 q3) fun v s4 ⟨x4,H4,I4,r4,q4⟩=>?_
  refine thn (hp pins s4 σ H4 x3 x4 old v _ I4 r3 r4 q4) fun new s5 ⟨x5,H5,I5,r5,q5⟩=>?_
  exact thn (hs pins s5 σ H5 x1 x2 x5 ov iv new _ I5 r1 r2 r5 q5) fun _ s6 ⟨H6,I6,q6⟩=>⟨σ,H6,I6,q6⟩
def ipI (f:Int→Int→Int):TIp:=fun x y H Q=>∃ i j,x=.int i∧y=.int j∧Q (.int (f i j)) H
theorem ip_add:PIp X .Add (ipI fun i j=>i+j):=by
  intro pins s σ H x y v u Q I r1 r2 h
  obtain ⟨i,j,e1,e2,q⟩:=h
  subst e1; subst e2
  obtain ⟨t,rfl⟩:=r1
  obtain ⟨t',rfl⟩:=r2
  exact iadd_int ⟨.int _,H,I.tok _,⟨_,rfl⟩,q⟩
end
structure It where
  go:Nat→Hp→Prop
  yld:Nat→Hp→V→Hp→Prop
  stop:Nat→Hp→Prop
def FpOk (X:Cx) (pins:List (Addr×Obj)) (H:Hp) (b:Addr):Prop :=
  H b=none∧b≠X.env.locals∧b∉X.fs∧(b∈X.ex∨X.s₀.heap.objs.size≤b)∧(∀ x c,X.env.cells.lookup x=some c→c≠b)∧∀ p∈X.pn++pins,p.1≠b
theorem Inv.fpOk {X:Cx} {pins:List (Addr×Obj)} {σ:St} {H H':Hp} {s:Shared} {b:Addr} (I:Inv X pins σ H s) (hb:s.heap.objs.size≤b) (hn:H' b=none):FpOk X pins H' b:=by
  refine ⟨hn,Nat.ne_of_gt (Nat.lt_of_lt_of_le I.lt hb),I.nofs hb,.inr (Nat.le_trans I.sz hb),fun x c e z=>?_,fun p hp z=>?_⟩
  · obtain ⟨v,q⟩:=I.cell x c e
    exact absurd (Nat.lt_of_lt_of_le q.lt (by rw [z]; exact hb)) (Nat.lt_irrefl _)
  · exact absurd (Nat.lt_of_lt_of_le (Heap.lt_size (I.pin p hp).1) (by rw [z]; exact hb)) (Nat.lt_irrefl _)
structure Turn (P:Program) (w:World) (K:PySem.W.Frag) (tg:Expr) (J:It) (fp:List Addr) (it:Addr) (tn:Nat→Heap→Prop):Prop where
  mem:it∈fp
  obj:∀ i h,tn i h→∀ b∈fp,∃ o,h.get? b=some o∧∀ v,o.data≠.cell v
  keep:∀ i h h',tn i h→(∀ b∈fp,∀ o,h.get? b=some o→h'.get? b=some o)→tn i h'
  item:∀ (X:Cx),X.prog=P→X.w=w→X.K=K→X.calm=true→∀ (i:Nat) (pins:List (Addr×Obj)) (s:Shared) (σ:St) (H:Hp) (E:Value→Shared→Prop),Inv X pins σ H s→(∀ b∈fp,FpOk X pins H b)→tn i s.heap→J.go i H →
    wpAny (model P w) X.A (pyNext (.ref it)) (fun r s1=>∃ u,r=some u ∧
      wpAny (model P w) X.A (letOwnedTupleGo tg (.ref it) u) (fun _ s2=>∃ x H',Inv X pins σ H' s2∧RelV x u∧J.yld i H x H'∧tn (i+1) s2.heap∧∀ b∈fp,H' b=none) E s1) E s
  done:∀ (X:Cx),X.prog=P→X.w=w→X.K=K→X.calm=true→∀ (i:Nat) (pins:List (Addr×Obj)) (s:Shared) (σ:St) (H:Hp) (E:Value→Shared→Prop),Inv X pins σ H s→(∀ b∈fp,FpOk X pins H b)→tn i s.heap→J.stop i H →
    wpAny (model P w) X.A (pyNext (.ref it)) (fun r s1=>r=none∧Inv X pins σ H s1) E s
  self:∀ (A:Around) (i:Nat) (s:Shared) (Q:Value→Shared→Prop) (E:Value→Shared→Prop),tn i s.heap→Q (.ref it) s→wpAny (model P w) A (pyIter (.ref it)) Q E s
abbrev TI:=St→Hp→(It→Hp→Prop)→Prop
def PIE (X:Cx) (pins:List (Addr×Obj)) (σ:St) (tg:Expr) (R:It→Hp→Prop) (itv:Value) (s2:Shared):Prop :=
  ∃ (it:Addr) (fp:List Addr) (tn:Nat→Heap→Prop) (J:It) (H':Hp),itv=.ref it∧Inv X pins σ H' s2∧Turn X.prog X.w X.K tg J fp it tn∧tn 0 s2.heap∧(∀ b∈fp,FpOk X pins H' b)∧R J H'
def PI (X:Cx) (tg iter:Expr) (wi:TI):Prop :=
  ∀ (pins:List (Addr×Obj)) (s:Shared) (σ:St) (H:Hp) (R:It→Hp→Prop),Inv X pins σ H s→wi σ H R →
    wpAny (model X.prog X.w) X.A (eval iter X.env) (fun v s1=>wpAny (model X.prog X.w) X.A (pyIter v) (PIE X pins σ tg R) X.xe s1) X.xe s
theorem go_of {M:Model} {A:Around} {E:Value→Shared→Prop} {s:Shared} {tg:Expr} {it:Addr} {u:Value} {o:Obj} {n:String} {vs:Array Value} {Q:Unit→Shared→Prop} (ho:s.heap.get? it=some o) (hc:o.cls=.type n) (hd:o.data=.fields vs) (hn:["enumerate", "zip", "dict_itemiterator", "dict_reverseitemiterator", "odict_iterator", "itertools.zip_longest", "itertools.pairwise"].contains n=false) (hQ:Q () s):wpAny M A (letOwnedTupleGo tg (.ref it) u) Q E s:=by
  unfold letOwnedTupleGo
  cases tg <;> first
    | exact wpAny_pure hQ
    | (cases u <;> first
        | exact wpAny_pure hQ
        | (refine wpAny_bind (wpAny_load ho ?_)
           rw [hc,hd]
           show wpAny M A (if (["enumerate", "zip", "dict_itemiterator", "dict_reverseitemiterator", "odict_iterator", "itertools.zip_longest", "itertools.pairwise"].contains n && vs[0]? == some (rawInt _))=true then _ else _) Q E s
           rw [if_neg (by intro h; rw [hn,Bool.false_and] at h; cases h)]
           exact wpAny_pure hQ))
def Itl (K:PySem.W.Frag) (a:Addr):It :=
  ⟨fun i H=>∃ xs x,SqL K H a xs∧xs[i]? = some x,fun i H x H'=>H'=H∧∀ xs,SqL K H a xs→xs[i]? = some x,fun i H=>∃ xs,SqL K H a xs∧xs.length≤i⟩
def Itt (K:PySem.W.Frag) (a:Addr):It :=
  ⟨fun i H=>∃ xs x,SqT K H a xs∧xs[i]? = some x,fun i H x H'=>H'=H∧∀ xs,SqT K H a xs→xs[i]? = some x,fun i H=>∃ xs,SqT K H a xs∧xs.length≤i⟩
def Itr (lo:Int) (n:Nat):It:=⟨fun i _=>i<n,fun i H x H'=>H'=H∧x=.int (lo+i),fun i _=>n≤i⟩
theorem turn_list {P:Program} {w:World} {K:PySem.W.Frag} {tg:Expr} (a it:Addr):Turn P w K tg (Itl K a) [it] it (fun i h=>h.IsListIter it a i) where
  mem:=by simp
  obj:=fun i h st b hb=>by
    have e:b=it:=by simpa using hb
    subst e
    obtain ⟨o,e,c,d⟩:=st
    exact ⟨o,e,fun v z=>by rw [d] at z; cases z⟩
  keep:=fun i h h' st k=>st.at fun o e=>k it (by simp) o e
  item:=by
    intro X hP hw hK hc i pins s σ H E I hf st hg
    subst hP hw hK
    obtain ⟨xs,x,hq,hx⟩:=hg
    obtain ⟨its,rv,p,hz⟩:=I.list hq
    obtain ⟨u,hu,ru⟩:=rv.get hx
    obtain ⟨f0,f1,f2,f3,f4,f5⟩:=hf it (by simp)
    refine wpAny_pyNext_list_item st p.isList (x:=u) (by simpa using hu) fun h' st' sb=>?_
    have I1:Inv X pins σ H { s with heap:=h' }:=I.turned (t':=s.toks) (fun b o hb e=>(sb.2 b hb).trans e) f0 f1 f3 f4 f5
    obtain ⟨o,e,c,d⟩:=id st'
    exact ⟨u,rfl,go_of (s:={ s with heap:=h' }) e c d (by decide) ⟨x,H,I1,ru,⟨rfl,fun ys hy=>by rw [I.list_inj hy hq]; exact hx⟩,st',fun b hb=>(hf b hb).1⟩⟩
  done:=by
    intro X hP hw hK hc i pins s σ H E I hf st hg
    subst hP hw hK
    obtain ⟨xs,hq,hx⟩:=hg
    obtain ⟨its,rv,p,hz⟩:=I.list hq
    obtain ⟨f0,f1,f2,f3,f4,f5⟩:=hf it (by simp)
    have hl:=rv.length
    exact wpAny_pyNext_list_end (I.ok.hd hc) st p.isList (by simp; omega) fun h' eb=>⟨rfl,I.turned (t':=s.toks) (fun b o hb e=>eb b o hb e) f0 f1 f3 f4 f5⟩
  self:=fun _ _ _ _ _ st h=>wpAny_pyIter_listiter st h
theorem turn_tuple {P:Program} {w:World} {K:PySem.W.Frag} {tg:Expr} (a it:Addr):Turn P w K tg (Itt K a) [it] it (fun i h=>h.IsTupleIter it a i) where
  mem:=by simp
  obj:=fun i h st b hb=>by
    have e:b=it:=by simpa using hb
    subst e
    obtain ⟨o,e,c,d⟩:=st
    exact ⟨o,e,fun v z=>by rw [d] at z; cases z⟩
  keep:=fun i h h' st k=>st.at fun o e=>k it (by simp) o e
  item:=by
    intro X hP hw hK hc i pins s σ H E I hf st hg
    subst hP hw hK
    obtain ⟨xs,x,hq,hx⟩:=hg
    obtain ⟨its,rv,p,hz⟩:=I.tuple hq
    obtain ⟨u,hu,ru⟩:=rv.get hx
    obtain ⟨f0,f1,f2,f3,f4,f5⟩:=hf it (by simp)
    refine wpAny_pyNext_tuple_item st (show s.heap.IsTuple a its.toArray from p) (x:=u) (by simpa using hu) fun h' st' sb=>?_
    have I1:Inv X pins σ H { s with heap:=h' }:=I.turned (t':=s.toks) (fun b o hb e=>(sb.2 b hb).trans e) f0 f1 f3 f4 f5
    obtain ⟨o,e,c,d⟩:=id st'
    exact ⟨u,rfl,go_of (s:={ s with heap:=h' }) e c d (by decide) ⟨x,H,I1,ru,⟨rfl,fun ys hy=>by rw [I.tuple_inj hy hq]; exact hx⟩,st',fun b hb=>(hf b hb).1⟩⟩
  done:=by
    intro X hP hw hK hc i pins s σ H E I hf st hg
    subst hP hw hK
    obtain ⟨xs,hq,hx⟩:=hg
    obtain ⟨its,rv,p,hz⟩:=I.tuple hq
    obtain ⟨f0,f1,f2,f3,f4,f5⟩:=hf it (by simp)
    have hl:=rv.length
    exact wpAny_pyNext_tuple_end (I.ok.hd hc) st (show s.heap.IsTuple a its.toArray from p) (by simp; omega) fun h' eb=>⟨rfl,I.turned (t':=s.toks) (fun b o hb e=>eb b o hb e) f0 f1 f3 f4 f5⟩
  self:=fun _ _ _ _ _ st h=>wpAny_pyIter_tupleiter st h
theorem turn_range {P:Program} {w:World} {K:PySem.W.Frag} {tg:Expr} (it:Addr) (lo:Int) (n:Nat):Turn P w K tg (Itr lo n) [it] it (fun i h=>IsRangeIter h it (lo+(i:Nat) * 1) ((n:Int) - (i:Nat)) 1) where
  mem:=by simp
  obj:=fun i h st b hb=>by
    have e:b=it:=by simpa using hb
    subst e
    exact ⟨_,st,fun v z=>by
      have z':Data.fields _=Data.cell v:=z
      cases z'⟩
  keep:=fun i h h' st k=>k it (by simp) _ st
  item:=by
    intro X hP hw hK hc i pins s σ H E I hf st hg
    subst hP hw hK
    obtain ⟨f0,f1,f2,f3,f4,f5⟩:=hf it (by simp)
    have W:=Walks.range (prog:=X.prog) (w:=X.w) (I.ok.hd hc) it lo 1 n
    refine W.item i s _ _ hg st fun v h' tk hv st' kk=>?_
    obtain ⟨t,rfl⟩:=hv
    have I1:Inv X pins σ H { s with heap:=h',toks:=tk }:=I.turned (fun b o hb e=>kk b o (by simpa using hb) e) f0 f1 f3 f4 f5
    refine ⟨_,rfl,go_of (s:={ s with heap:=h',toks:=tk }) (n := "range_iterator") st' rfl rfl (by decide) ⟨.int (lo+i),H,I1,⟨t,?_⟩,⟨rfl,rfl⟩,st',fun b hb=>(hf b hb).1⟩⟩
    rw [Int.mul_one]
  done:=by
    intro X hP hw hK hc i pins s σ H E I hf st hg
    subst hP hw hK
    obtain ⟨f0,f1,f2,f3,f4,f5⟩:=hf it (by simp)
    exact wpAny_pyNext_range_end (I.ok.hd hc) st (by have : n≤i:=hg; omega) fun h' eb=>⟨rfl,I.turned (t':=s.toks) (fun b o hb e=>eb b o hb e) f0 f1 f3 f4 f5⟩
  self:=fun _ _ _ _ _ st h=>wpAny_pyIter_rangeiter st h
end L2
namespace L2
open PySem PySem.Spec PyProof.Rows
section
variable {X:Cx} {tg:Expr}
def iList (K:PySem.W.Frag) (tl:TE):TI:=fun σ H R=>tl σ H fun x H1=>∃ a,x=.ref a∧(∃ xs,SqL K H1 a xs)∧R (Itl K a) H1
def iTup (K:PySem.W.Frag) (tl:TE):TI:=fun σ H R=>tl σ H fun x H1=>∃ a,x=.ref a∧(∃ xs,SqT K H1 a xs)∧R (Itt K a) H1
theorem pi_list {l:Expr} {tl:TE} (hl:PE X l tl):PI X tg l (iList X.K tl):=by
  intro pins s σ H R I h
  refine thn (hl pins s σ H _ I h) fun v s1 ⟨x,H1,I1,r1,q1⟩=>?_
  obtain ⟨a,e,⟨xs,hq⟩,q⟩:=q1
  subst e
  cases r1
  obtain ⟨its,rv,p,hz⟩:=I1.list hq
  refine wpAny_pyIter_list p.isList ?_
  refine ⟨s1.heap.objs.size,[s1.heap.objs.size],_,_,H1,rfl,I1.kept (t':=s1.toks) fun b o e=>Heap.get?_push_of_some _ e,turn_list a _,⟨_,Heap.get?_push_size _ rfl,rfl,rfl⟩,fun b hb=>?_,q⟩
  have e:b=s1.heap.objs.size:=by simpa using hb
  subst e
  exact I1.fpOk (Nat.le_refl _) (I1.hok.fresh (Nat.le_refl _))
theorem pi_tup {l:Expr} {tl:TE} (hl:PE X l tl):PI X tg l (iTup X.K tl):=by
  intro pins s σ H R I h
  refine thn (hl pins s σ H _ I h) fun v s1 ⟨x,H1,I1,r1,q1⟩=>?_
  obtain ⟨a,e,⟨xs,hq⟩,q⟩:=q1
  subst e
  cases r1
  obtain ⟨its,rv,p,hz⟩:=I1.tuple hq
  refine wpAny_pyIter_tuple (show s1.heap.IsTuple a its.toArray from p) ?_
  refine ⟨s1.heap.objs.size,[s1.heap.objs.size],_,_,H1,rfl,I1.kept (t':=s1.toks) fun b o e=>Heap.get?_push_of_some _ e,turn_tuple a _,⟨_,Heap.get?_push_size _ rfl,rfl,rfl⟩,fun b hb=>?_,q⟩
  have e:b=s1.heap.objs.size:=by simpa using hb
  subst e
  exact I1.fpOk (Nat.le_refl _) (I1.hok.fresh (Nat.le_refl _))
theorem range_it {pins:List (Addr×Obj)} {σ:St} {H:Hp} {s:Shared} {R:It→Hp→Prop} {E:Value→Shared→Prop} {lo hi:Int} {t u v:Tok} {tk:Nat} (I:Inv X pins σ H s) (h1:-(2 ^ 62)≤lo) (h2:lo<2 ^ 62) (h3:-(2 ^ 62)≤hi) (h4:hi<2 ^ 62) (q:R (Itr lo (hi - lo).toNat) H):wpAny (model X.prog X.w) X.A (pyIter (.ref s.heap.objs.size)) (PIE X pins σ tg R) E { s with heap:=s.heap.push { cls:=.type "range",data:=.fields #[.int lo t,.int hi u,.int 1 v] },toks:=tk }:=by
  refine wpAny_pyIter_range (IsRange.new ..) (small_one h1 h2 h3 h4) ?_
  have I1:Inv X pins σ H { s with heap:=s.heap.push { cls:=.type "range",data:=.fields #[.int lo t,.int hi u,.int 1 v] },toks:=tk }:=I.kept fun b o e=>Heap.get?_push_of_some _ e
  refine ⟨(s.heap.push { cls:=.type "range",data:=.fields #[.int lo t,.int hi u,.int 1 v] }).objs.size,[(s.heap.push { cls:=.type "range",data:=.fields #[.int lo t,.int hi u,.int 1 v] }).objs.size],_,_,H,rfl,
    I1.kept (t':=tk) fun b o e=>Heap.get?_push_of_some _ e,turn_range _ lo (hi - lo).toNat,?_,fun b hb=>?_,q⟩
  · have e1:lo+((0:Nat):Int) * 1=lo:=by simp
    have e2:(((hi - lo).toNat:Nat):Int) - ((0:Nat):Int)=Builtin.Range.rangeSize lo hi 1:=by rw [rangeSize_one]; split <;> omega
    show IsRangeIter _ _ (lo+((0:Nat):Int) * 1) ((((hi - lo).toNat:Nat):Int) - ((0:Nat):Int)) 1
    rw [e1,e2]
    exact Heap.get?_push_size _ rfl
  · have e:b=(s.heap.push { cls:=.type "range",data:=.fields #[.int lo t,.int hi u,.int 1 v] }).objs.size:=by simpa using hb
    subst e
    exact I1.fpOk (Nat.le_refl _) (I1.hok.fresh (Nat.le_refl _))
def iRng1 (ta:TA):TI:=fun σ H R=>ta σ H fun vs H1=>∃ j:Int,vs=[.int j] ∧ -(2 ^ 62)≤j∧j<2 ^ 62∧R (Itr 0 j.toNat) H1
theorem pi_range1 {a:Expr} {ta:TA} {p pos:Pos} (hg:Gl X "range") (hm:X.mg "range" = none) (ha:PA X [a] ta) (hs:starEach [a] X.env=[(false,eval a X.env)]:=by rfl):PI X tg (.Call (.Name "range" p) [a] [] pos) (iRng1 ta):=by
  intro pins s σ H R I h
  refine Call_ (ld_blt I hg hm boot_range (PyProof.Rows.callWith_type1 (thn (ha pos pins s σ H _ I h) fun us s1 ⟨vs,H1,I1,r1,q1⟩=>?_) hs rfl))
  obtain ⟨j,e,q1,q2,q⟩:=q1
  subst e
  cases r1 with
  | cons r rr =>
    cases rr
    obtain ⟨t,rfl⟩:=r
    exact call_range_1 (range_it I1 (by omega) (by omega) q1 q2 (by simpa using q))
def tFor (wi:TI) (g:TG) (tb:TS):TS:=fun D σ H=>wi σ H fun J H1=>∃ W:Nat→Nat→St→Hp→Prop,(∃ m,W 0 m σ H1)∧∀ i m σ H,W i m σ H →
  (J.stop i H∧D.nx σ H)∨(J.go i H∧∃ N:St→Hp→Prop,(∀ σ' H',N σ' H'→∃ m',m'<m∧W (i+1) m' σ' H')∧∀ x H',J.yld i H x H'→g x σ H' fun σ2 H2=>tb { D with nx:=N,ct:=N,bk:=D.nx } σ2 H2)
def pinsAt (fp:List Addr) (h:Heap):List (Addr×Obj):=fp.filterMap fun b=>(h.get? b).map fun o=>(b,o)
theorem mem_pinsAt {fp:List Addr} {h:Heap} {b:Addr} {o:Obj} (hb:b∈fp) (e:h.get? b=some o):(b,o)∈pinsAt fp h:=List.mem_filterMap.mpr ⟨b,hb,by rw [e]; rfl⟩
theorem of_pinsAt {fp:List Addr} {h:Heap} {p:Addr×Obj} (hp:p∈pinsAt fp h):p.1∈fp∧h.get? p.1=some p.2:=by
  obtain ⟨b,hb,e⟩:=List.mem_filterMap.mp hp
  cases q:h.get? b with
  | none=>rw [q] at e; cases e
  | some o =>
    rw [q] at e
    have e':(b,o)=p:=Option.some.inj e
    subst e'
    exact ⟨hb,q⟩
theorem Inv.pinned {pins:List (Addr×Obj)} {σ:St} {H:Hp} {s:Shared} {fp:List Addr} (I:Inv X pins σ H s) (hf:∀ b∈fp,FpOk X pins H b) (ho:∀ b∈fp,∃ o,s.heap.get? b=some o∧∀ v,o.data≠.cell v):Inv X (pins++pinsAt fp s.heap) σ H s :=
  I.pins_of fun p hp=>(List.mem_append.mp hp).elim (fun z=>I.pin p (List.mem_append_right _ z)) fun z=>by
    obtain ⟨hb,e⟩:=of_pinsAt z
    obtain ⟨f0,f1,f2,_⟩:=hf p.1 hb
    obtain ⟨o,e',d⟩:=ho p.1 hb
    rw [e] at e'; cases e'
    exact ⟨e,f0,f1,f2,d⟩
theorem Inv.unpinned {pins pl:List (Addr×Obj)} {σ:St} {H:Hp} {s:Shared} (I:Inv X (pins++pl) σ H s):Inv X pins σ H s:=I.pins_of fun p hp=>I.pin p (List.mem_append_right _ (List.mem_append_left _ hp))
theorem ps_for {iter:Expr} {body:List Stmt} {wi:TI} {g:TG} {tb:TS} {pos:Pos} (hp:PassesOwn (model X.prog X.w) X.A X.env X.xe) (hc:X.calm=true) (hi:PI X tg iter wi) (hg:PG X tg g) (hb:PSs X body tb) (hs:∀ x,foldedSetIterable iter X.env x=pure x:=by intro _; rfl):PS X (.For tg iter body [] pos) (tFor wi g tb):=by
  intro pins s σ H D I h
  refine wpAny_For (thn (hi pins s σ H _ I h) fun v s1 h1=>thn h1 fun itv s2 h2=>?_) hs
  obtain ⟨it,fp,tn,J,H2,e,I2,T,st2,f2,W,⟨m0,w0⟩,turn⟩:=h2
  subst e
  -- what stays true of the iterator's objects through the loop
  have stat:∀ {H':Hp},(∀ b∈fp,H' b=none)→∀ b∈fp,FpOk X pins H' b:=fun hn b hb=>⟨hn b hb,(f2 b hb).2⟩
  refine codeAny_forLoop_any (fun n s'=>∃ i σ' H',Inv X pins σ' H' s'∧tn i s'.heap∧(∀ b∈fp,H' b=none)∧W i n σ' H') ?_ m0 ⟨0,σ,H2,I2,st2,fun b hb=>(f2 b hb).1,w0⟩
  rintro n s3 ⟨i,σ3,H3,I3,st3,fr3,w3⟩
  rcases turn i n σ3 H3 w3 with ⟨stop,qn⟩ | ⟨go,N,hN,step⟩
  · refine wpAny_passesOwn hp (thn (T.done X rfl rfl rfl hc i pins s3 σ3 H3 X.xe I3 (stat fr3) st3 stop) fun r s4 ⟨hr,I4⟩=>?_)
    subst hr
    exact wpAny_execs_nil ⟨σ3,H3,I4,qn⟩
  · refine wpAny_passesOwn hp (thn (T.item X rfl rfl rfl hc i pins s3 σ3 H3 X.xe I3 (stat fr3) st3 go) fun r s4 ⟨u,hr,h4⟩=>?_)
    subst hr
    refine wpAny_passesOwn hp (thn h4 fun _ s5 ⟨x,H5,I5,r5,y5,st5,fr5⟩=>?_)
    have I5':=I5.pinned (stat fr5) (T.obj _ _ st5)
    refine wpAny_passesOwn hp (thn (hg _ s5 σ3 H5 x u _ I5' r5 (step x H5 y5)) fun _ s6 ⟨σ6,H6,I6,q6⟩=>?_)
    refine wpAny_passesOwn hp (thn (hb _ s6 σ6 H6 _ I6 q6) fun f s7 q7=>?_)
    have again:∀ {σ7:St} {H7:Hp},Inv X (pins++pinsAt fp s5.heap) σ7 H7 s7→N σ7 H7→∃ m,m<n∧∃ i σ' H',Inv X pins σ' H' s7∧tn i s7.heap∧(∀ b∈fp,H' b=none)∧W i m σ' H':=fun {σ7 H7} I7 n7=>by
      obtain ⟨m',hm,w7⟩:=hN σ7 H7 n7
      refine ⟨m',hm,i+1,σ7,H7,I7.unpinned,T.keep _ _ _ st5 fun b hb o e=>(I7.pin (b,o) (List.mem_append_right _ (List.mem_append_right _ (mem_pinsAt hb e)))).1,fun b hb=>?_,w7⟩
      obtain ⟨o,e,d⟩:=T.obj _ _ st5 b hb
      exact (I7.pin (b,o) (List.mem_append_right _ (List.mem_append_right _ (mem_pinsAt hb e)))).2.1
    cases f with
    | next=>obtain ⟨σ7,H7,I7,n7⟩:=q7; exact again I7 n7
    | cont=>obtain ⟨σ7,H7,I7,n7⟩:=q7; exact again I7 n7
    | brk=>obtain ⟨σ7,H7,I7,q7⟩:=q7; exact ⟨σ7,H7,I7.unpinned,q7⟩
    | ret v=>obtain ⟨x7,σ7,H7,I7,r7,q7⟩:=q7; exact ⟨x7,σ7,H7,I7.unpinned,r7,q7⟩
end
end L2
namespace L2
open PySem PySem.Spec PyProof.Rows
abbrev R2:=V→V→Hp→VK→Prop
def OpR (X:Cx) (f:Value→Value→Sem Value) (r:R2):Prop :=
  ∀ (pins:List (Addr×Obj)) (s:Shared) (σ:St) (H:Hp) (x y:V) (v u:Value) (Q:VK),Inv X pins σ H s→RelV x v→RelV y u→r x y H Q →
    wpAny (model X.prog X.w) X.A (f v u) (EP X pins σ Q) X.xe s
def CallR (X:Cx) (f:Value) (r:List V→Hp→VK→Prop):Prop :=
  ∀ (pins:List (Addr×Obj)) (s:Shared) (σ:St) (H:Hp) (xs:List V) (us:List Value) (Q:VK),Inv X pins σ H s→Vals xs us→r xs H Q →
    wpAny (model X.prog X.w) X.A (call f us) (EP X pins σ Q) X.xe s
def TruR (X:Cx) (r:V→Hp→(Bool→Hp→Prop)→Prop):Prop :=
  ∀ (pins:List (Addr×Obj)) (s:Shared) (σ:St) (H:Hp) (x:V) (v:Value) (Q:Bool→Hp→Prop),Inv X pins σ H s→RelV x v→r x H Q →
    wpAny (model X.prog X.w) X.A (truthy v) (TP X pins σ Q) X.xe s
def tOp (r:R2) (ta tb:TE):TE:=fun σ H Q=>ta σ H fun x H1=>tb σ H1 fun y H2=>r x y H2 Q
def rI (C:Int→Int→Prop) (g:Int→Int→V):R2:=fun x y H Q=>∃ i j,x=.int i∧y=.int j∧C i j∧Q (g i j) H
def rI0 (g:Int→Int→V):R2:=fun x y H Q=>∃ i j,x=.int i∧y=.int j∧Q (g i j) H
section
variable {X:Cx} {a b c:Expr} {ta tb tc:TE} {pos:Pos}
theorem binT (ha:PE X a ta) (hb:PE X b tb) {pins:List (Addr×Obj)} {s:Shared} {σ:St} {H:Hp} {R:V→V→Hp→Prop} (I:Inv X pins σ H s) (h:ta σ H fun x H1=>tb σ H1 fun y H2=>R x y H2) {Q:Value→Shared→Prop} {f:Value→Value→Sem Value} (hf:∀ v u s2 x y H2,Inv X pins σ H2 s2→RelV x v→RelV y u→R x y H2→wpAny (model X.prog X.w) X.A (f v u) Q X.xe s2):wpAny (model X.prog X.w) X.A (eval a X.env) (fun v s₁=>wpAny (model X.prog X.w) X.A (eval b X.env) (fun u s₂=>wpAny (model X.prog X.w) X.A (f v u) Q X.xe s₂) X.xe s₁) X.xe s:=by
  refine thn (ha pins s σ H _ I h) fun v s1 ⟨x,H1,I1,r1,q1⟩=>?_
  refine thn (hb pins s1 σ H1 _ I1 q1) fun u s2 ⟨y,H2,I2,r2,q2⟩=>?_
  exact hf v u s2 x y H2 I2 r1 r2 q2
theorem pe_op {op:Operator} {r:R2} (ho:OpR X (binaryOp op) r) (ha:PE X a ta) (hb:PE X b tb):PE X (.BinOp a op b pos) (tOp r ta tb):=by
  intro pins s σ H Q I h
  exact wpAny_BinOp (binT ha hb I h fun v u s2 x y H2 I2 rx ry q=>ho pins s2 σ H2 x y v u Q I2 rx ry q)
theorem opI {f:Value→Value→Sem Value} {C:Int→Int→Prop} {g:Int→Int→Int} (rule:∀ (i j:Int) (t u:Tok) (s:Shared) (Q:Value→Shared→Prop) (E:Value→Shared→Prop),C i j→Q (.int (g i j) s.toks) { s with toks:=s.toks+1 }→wpAny (model X.prog X.w) X.A (f (.int i t) (.int j u)) Q E s):OpR X f (rI C fun i j=>.int (g i j)):=by
  intro pins s σ H x y v u Q I rx ry h
  obtain ⟨i,j,rfl,rfl,hc,q⟩:=h
  obtain ⟨t,rfl⟩:=rx
  obtain ⟨t',rfl⟩:=ry
  exact rule i j t t' s _ _ hc ⟨.int (g i j),H,I.tok _,⟨_,rfl⟩,q⟩
theorem opI0 {f:Value→Value→Sem Value} {g:Int→Int→Int} (rule:∀ (i j:Int) (t u:Tok) (s:Shared) (Q:Value→Shared→Prop) (E:Value→Shared→Prop),Q (.int (g i j) s.toks) { s with toks:=s.toks+1 }→wpAny (model X.prog X.w) X.A (f (.int i t) (.int j u)) Q E s):OpR X f (rI0 fun i j=>.int (g i j)):=by
  intro pins s σ H x y v u Q I rx ry h
  obtain ⟨i,j,rfl,rfl,q⟩:=h
  obtain ⟨t,rfl⟩:=rx
  obtain ⟨t',rfl⟩:=ry
  exact rule i j t t' s _ _ ⟨.int (g i j),H,I.tok _,⟨_,rfl⟩,q⟩
theorem opB0 {f:Value→Value→Sem Value} {g:Int→Int→Bool} (rule:∀ (i j:Int) (t u:Tok) (s:Shared) (Q:Value→Shared→Prop) (E:Value→Shared→Prop),Q (.bool (g i j)) s→wpAny (model X.prog X.w) X.A (f (.int i t) (.int j u)) Q E s):OpR X f (rI0 fun i j=>.bl (g i j)):=by
  intro pins s σ H x y v u Q I rx ry h
  obtain ⟨i,j,rfl,rfl,q⟩:=h
  obtain ⟨t,rfl⟩:=rx
  obtain ⟨t',rfl⟩:=ry
  exact rule i j t t' s _ _ ⟨.bl (g i j),H,I,rfl,q⟩
def CDiv (i j:Int):Prop:=0<j∧j<1073741824
def CPow (i j:Int):Prop:=0≤j∧j≤1000000∧i.natAbs<2 ^ 64
def CMul (i j:Int):Prop:=(-(2 ^ 64)<i∧i<2 ^ 64)∨(-(2 ^ 64)<j∧j<2 ^ 64)
theorem CMul.ok {i j:Int} (h:CMul i j):IntMulOk i j:=by
  rcases h with ⟨h1,h2⟩ | ⟨h1,h2⟩
  · exact .of_left (intBits_le_64 h1 h2)
  · exact .of_right (intBits_le_64 h1 h2)
theorem op_add:OpR X (binaryOp .Add) (rI0 fun i j=>.int (i+j)):=opI0 fun _ _ _ _ _ _ _ q=>add_int q
theorem op_mul:OpR X (binaryOp .Mult) (rI CMul fun i j=>.int (i * j)):=opI fun _ _ _ _ _ _ _ hc q=>mul_int q hc.ok
theorem op_fdiv:OpR X (binaryOp .FloorDiv) (rI CDiv fun i j=>.int (i / j)):=opI fun i j _ _ _ _ _ hc q=>by
  have h1:(0:Int)<j:=hc.1
  have h2:j<1073741824:=hc.2
  exact floordiv_int (by omega) (by rw [Int.fdiv_eq_ediv_of_nonneg i (by omega)]; exact q) (.inl (PyProof.noPylong_small (by omega)))
theorem op_mod:OpR X (binaryOp .Mod) (rI (fun _ j=>0<j) fun i j=>.int (i % j)):=opI fun i j _ _ _ _ _ hc q=>by
  have h1:(0:Int)<j:=hc
  exact mod_int' (by omega) (by rw [Int.fmod_eq_emod_of_nonneg i (by omega)]; exact q)
theorem op_pow:OpR X (binaryOp .Pow) (rI CPow fun i j=>.int (i ^ j.toNat)):=opI fun _ _ _ _ _ _ _ hc q=>pow_int_small hc.1 hc.2.1 hc.2.2 q
end
section
variable {X:Cx} {a b c:Expr} {ta tb tc:TE} {pos:Pos}
theorem op_le:OpR X (compareOp .LtE) (rI0 fun i j=>.bl (decide (i≤j))):=opB0 fun _ _ _ _ _ _ _ q=>le_int q
theorem op_gt:OpR X (compareOp .Gt) (rI0 fun i j=>.bl (decide (j<i))):=opB0 fun _ _ _ _ _ _ _ q=>gt_int q
theorem op_ge:OpR X (compareOp .GtE) (rI0 fun i j=>.bl (decide (j≤i))):=opB0 fun _ _ _ _ _ _ _ q=>ge_int q
theorem nomark (b:Expr) {op:CmpOp} (h:op≠.In:=by decide) (h2:op≠.NotIn:=by decide):behindInMarks op b=false:=by
  have e1:(op == CmpOp.In)=false:=by cases op <;> first | rfl | exact absurd rfl h
  have e2:(op == CmpOp.NotIn)=false:=by cases op <;> first | rfl | exact absurd rfl h2
  cases b <;> simp [behindInMarks,e1,e2]
theorem pe_cmpR {op:CmpOp} {r:R2} (ho:OpR X (compareOp op) r) (ha:PE X a ta) (hb:PE X b tb) (hm:behindInMarks op b=false):PE X (.Compare a [op] [b] pos) (tOp r ta tb):=by
  intro pins s σ H Q I h
  exact wpAny_Compare1 (binT ha hb I h fun v u s2 x y H2 I2 rx ry q=>ho pins s2 σ H2 x y v u Q I2 rx ry q) hm
def tTest (t:TE):TT:=fun σ H Q=>t σ H fun x H'=>∃ k,x=.bl k∧Q k H'
theorem pt_cmpR {op:CmpOp} {r:R2} (ho:OpR X (compareOp op) r) (ha:PE X a ta) (hb:PE X b tb) (hm:behindInMarks op b=false):PT X (.Compare a [op] [b] pos) (tTest (tOp r ta tb)):=by
  intro pins s σ H Q I h
  refine wpAny_isTrue_Compare1 (thn (ha pins s σ H _ I h) fun v s1 ⟨x,H1,I1,r1,q1⟩=>thn (hb pins s1 σ H1 _ I1 q1) fun u s2 ⟨y,H2,I2,r2,q2⟩ =>
    thn (ho pins s2 σ H2 x y v u _ I2 r1 r2 q2) fun c s3 ⟨z,H3,I3,r3,k,e,q3⟩=>?_) hm
  subst e
  cases r3
  exact wpAny_truthy_bool ⟨H3,I3,q3⟩
def TruV (K:PySem.W.Frag) (x:V) (H:Hp) (k:Bool):Prop :=
  match x with
  | .non=>k=false
  | .bl b=>k=b
  | .int i=>k=(i != 0)
  | .str y=>y.length≤sizeLine∧k=((y.length:Int) != 0)
  | .byt y=>y.size≤sizeLine∧k=((y.size:Int) != 0)
  | .ref p=>(∃ xs,SqL K H p xs∧k = !xs.isEmpty)∨(∃ xs,SqT K H p xs∧k = !xs.isEmpty)∨∃ kvs,H p=some (.dK kvs)∧k = !kvs.isEmpty
  | _=>False
theorem isEmpty_kv {κ:Type} {kvs:List (κ×V)} {vs:List (κ×Value)} (r:KV kvs vs):(!vs.isEmpty) = !kvs.isEmpty:=by
  cases r <;> rfl
theorem isEmpty_of {xs:List V} {its:List Value} (r:Vals xs its):(!its.toArray.isEmpty) = !xs.isEmpty:=by
  cases r <;> simp
theorem line63:(sizeLine:Nat)<2 ^ 63:=by rw [sizeLine_eq]; decide
theorem tru_ok:TruR X (fun x H Q=>∃ k,TruV X.K x H k∧Q k H):=by
  intro pins s σ H x v Q I rx h
  obtain ⟨k,e,q⟩:=h
  have hl:=line63
  have hs:sizeLine=16777216:=sizeLine_eq
  cases x with
  | non =>
    cases rx
    have e':k=false:=e
    subst e'
    exact truthy_none ⟨H,I,q⟩
  | bl b =>
    cases rx
    have e':k=b:=e
    subst e'
    exact wpAny_truthy_bool ⟨H,I,q⟩
  | int i =>
    obtain ⟨t,rfl⟩:=rx
    have e':k=(i != 0):=e
    subst e'
    exact PySem.P.truthy_int ⟨H,I,q⟩
  | str y =>
    obtain ⟨t,rfl⟩:=rx
    obtain ⟨hy,e'⟩ : y.length≤sizeLine∧k=((y.length:Int) != 0):=e
    subst e'
    exact PySem.P.truthy_str (by omega) ⟨H,I.tok _,q⟩
  | byt y =>
    obtain ⟨t,rfl⟩:=rx
    obtain ⟨hy,e'⟩ : y.size≤sizeLine∧k=((y.size:Int) != 0):=e
    subst e'
    exact PySem.W.truthy_bytes (by omega) ⟨H,I.tok _,q⟩
  | ref p =>
    cases rx
    have e':(∃ xs,SqL X.K H p xs∧k = !xs.isEmpty)∨(∃ xs,SqT X.K H p xs∧k = !xs.isEmpty)∨∃ kvs,H p=some (.dK kvs)∧k = !kvs.isEmpty:=e
    rcases e' with ⟨xs,hx,e'⟩ | ⟨xs,hx,e'⟩ | ⟨kvs,hx,e'⟩
    · subst e'
      obtain ⟨its,r,pl,hz⟩:=I.list hx
      have hlen:=r.length
      exact wpAny_truthy_list pl.isList (by simp only [List.size_toArray]; omega) ⟨H,I.tok _,by rw [isEmpty_of r]; exact q⟩
    · subst e'
      obtain ⟨its,r,pl,hz⟩:=I.tuple hx
      have hlen:=r.length
      exact truthy_tuple pl (by simp only [List.size_toArray]; omega) ⟨H,I.tok _,by rw [isEmpty_of r]; exact q⟩
    · subst e'
      obtain ⟨hz,hS,vs,r,m⟩ : kvs.length≤sizeLine∧(p == sysModules)=false∧∃ vs,KV kvs vs∧s.heap.DictOf (mixKind X.prog X.w) p vs:=I.hok p _ hx
      have hlen:kvs.length=vs.length:=Paired.length r
      exact wpAny_truthy_dict hS m (by omega) ⟨H,I.tok _,by rw [isEmpty_kv r]; exact q⟩
  | _=>exact (show False from e).elim
theorem vals1 {x:V} {us:List Value} (r:Vals [x] us):∃ u,us=[u]∧RelV x u:=by
  cases r with
  | cons r1 r2=>cases r2; exact ⟨_,rfl,r1⟩
theorem vals2 {x y:V} {us:List Value} (r:Vals [x,y] us):∃ u w',us=[u,w']∧RelV x u∧RelV y w':=by
  cases r with
  | cons r1 r2 =>
    cases r2 with
    | cons r3 r4=>cases r4; exact ⟨_,_,rfl,r1,r3⟩
theorem call_int1:CallR X (.type "int") (fun xs H Q=>(∃ i,xs=[.int i]∧Q (.int i) H)∨∃ k,xs=[.bl k]∧Q (.int (if k then 1 else 0)) H):=by
  intro pins s σ H xs us Q I r h
  rcases h with ⟨i,rfl,q⟩ | ⟨k,rfl,q⟩
  · obtain ⟨u,rfl,t,rfl⟩:=vals1 r
    exact call_int_int ⟨.int i,H,I,⟨_,rfl⟩,q⟩
  · obtain ⟨u,rfl,r1⟩:=vals1 r
    cases r1
    exact call_int_bool ⟨.int (if k then 1 else 0),H,I.tok _,⟨_,rfl⟩,q⟩
def LenV (K:PySem.W.Frag) (x:V) (H:Hp) (n:Nat):Prop :=
  match x with
  | .str y=>y.length≤sizeLine∧n=y.length
  | .byt y=>y.size≤sizeLine∧n=y.size
  | .ref p=>(∃ xs,SqL K H p xs∧n=xs.length)∨∃ xs,SqT K H p xs∧n=xs.length
  | _=>False
theorem call_len:CallR X (.builtin "len") (fun xs H Q=>∃ x n,xs=[x]∧LenV X.K x H n∧Q (.int n) H):=by
  intro pins s σ H xs us Q I r h
  obtain ⟨x,n,rfl,e,q⟩:=h
  obtain ⟨u,rfl,rx⟩:=vals1 r
  have hl:=line63
  have hs:sizeLine=16777216:=sizeLine_eq
  cases x with
  | str y =>
    obtain ⟨t,rfl⟩:=rx
    obtain ⟨hy,e'⟩ : y.length≤sizeLine∧n=y.length:=e
    subst e'
    exact len_str (by omega) ⟨.int _,H,I.tok _,⟨_,rfl⟩,q⟩
  | byt y =>
    obtain ⟨t,rfl⟩:=rx
    obtain ⟨hy,e'⟩ : y.size≤sizeLine∧n=y.size:=e
    subst e'
    exact PySem.W.len_bytes (by omega) ⟨.int _,H,I.tok _,⟨_,rfl⟩,q⟩
  | ref p =>
    cases rx
    have e':(∃ xs,SqL X.K H p xs∧n=xs.length)∨∃ xs,SqT X.K H p xs∧n=xs.length:=e
    rcases e' with ⟨xs,hx,e'⟩ | ⟨xs,hx,e'⟩
    · subst e'
      obtain ⟨its,r',pl,hz⟩:=I.list hx
      have hlen:=r'.length
      exact Calls.call_len_list pl.isList (by simp only [List.size_toArray]; omega) ⟨.int xs.length,H,I.tok _,⟨_,by simp only [List.size_toArray]; rw [hlen]⟩,q⟩
    · subst e'
      obtain ⟨its,r',pl,hz⟩:=I.tuple hx
      have hlen:=r'.length
      exact len_tuple pl (by simp only [List.size_toArray]; omega) ⟨.int xs.length,H,I.tok _,⟨_,by simp only [List.size_toArray]; rw [hlen]⟩,q⟩
  | _=>exact (show False from e).elim
end
end L2
namespace L2
open PySem PySem.Spec PyProof.Rows
structure ObjM (h:Heap) (x dx C:Addr) (mA:Str→Option Value):Prop where
  obj:h.get? x=some (PySem.W.instObj C dx)
  ns:h.Ns1 dx mA
  ne:dx≠x
theorem lookIn_ns {h:Heap} {dx:Addr} {mA:Str→Option Value} (n:h.Ns1 dx mA):∃ od,h.get? dx=some od∧∀ name,PySem.W.lookIn name od=some (mA name):=by
  obtain ⟨o,es,ep,ho,hd,hk,_,hm⟩:=n
  refine ⟨o,ho,fun name=>?_⟩
  have e:=hm name
  unfold nsFind findBy at e
  rw [← Array.find?_toList] at e
  unfold PySem.W.lookIn
  rw [hd]
  dsimp only
  split
  · rename_i y q
    rw [q] at e
    exact congrArg some e
  · rename_i q
    rw [q] at e
    have a:es.toList.any (·.refKey)=false:=by
      rw [List.any_eq_false]
      intro y hy
      obtain ⟨z,t,hkey⟩:=hk y (Array.mem_toList_iff.mp hy)
      simp [DictEntry.refKey,hkey]
    have a':¬ es.toList.any (·.refKey)=true:=by rw [a]; exact Bool.false_ne_true
    rw [if_neg a']
    exact congrArg some e
theorem ObjM.look {h:Heap} {x dx C:Addr} {mA:Str→Option Value} (I:ObjM h x dx C mA):∃ od,PySem.W.InstAt h x (PySem.W.instObj C dx) C (some od)∧∀ name,PySem.W.lookIn name od=some (mA name) :=
  let ⟨od,ho,hl⟩:=lookIn_ns I.ns
  ⟨od,⟨I.obj,rfl,rfl,ho⟩,hl⟩
theorem RelO.some_of {v:V} {o:Option Value} (r:RelO (some v) o):∃ u,o=some u∧RelV v u:=by
  cases o with
  | none=>exact (show False from r).elim
  | some u=>exact ⟨u,rfl,r⟩
section
variable {P:Program} {w:World} {H H':Hp} {h h':Heap} {a C dx:Addr} {fs fs':List (Str×V)}
theorem ins_get (hok:HOk P w H h) (e:H a=some (.ins C dx fs)):∃ mA,ObjM h a dx C mA∧(∀ f,RelO (fs.lookup f) (mA f))∧PySem.Within mA (fs.map (·.1))∧fs.length≤1000∧H dx=some (.own a):=by
  obtain ⟨d,z,ne,ob,mA,n,r,q⟩:=(show ObjOk P w H h a (.ins C dx fs) from hok a _ e)
  exact ⟨mA,⟨ob,n,ne⟩,r,q,z,d⟩
end
structure Cls (K:PySem.W.Frag) (C:Addr):Prop where
  pg:PySem.W.plainGet K C Str.empty=true
  hd:PySem.W.hasDictIn K C=true
  po:PySem.W.plainOver K C=true
  sa:PySem.W.findIn K (.ref C) "__setattr__" = some (some (.builtin "object.__setattr__"))
theorem Cls.get {K:PySem.W.Frag} {C:Addr} (c:Cls K C) (f:Str):PySem.W.plainGet K C f=true:=c.pg
section
variable {X:Cx} {pins:List (Addr×Obj)} {σ:St} {H:Hp} {s:Shared} {A:Around} {E:Value→Shared→Prop} {Q:Value→Shared→Prop} {c:Value} {b:Bool}
inductive TyOf (K:PySem.W.Frag) (H:Hp):V→Value→Prop where
  | non:TyOf K H .non (.type "NoneType")
  | bl (x:Bool):TyOf K H (.bl x) (.type "bool")
  | int (i:Int):TyOf K H (.int i) (.type "int")
  | str (x:Str):TyOf K H (.str x) (.type "str")
  | flt (x:UInt64):TyOf K H (.flt x) (.type "float")
  | lst {a:Addr} {xs:List V} (e:H a=some (.lst xs)):TyOf K H (.ref a) (.type "list")
  | frz {a:Addr} {o:Obj} {xs:List V} (e:H a=some (.frz o (.lst xs))):TyOf K H (.ref a) (.type "list")
  | tup {a:Addr} {xs:List V} (e:H a=some (.tup xs)):TyOf K H (.ref a) (.type "tuple")
  | dK {a:Addr} {kvs:List (Key×V)} (e:H a=some (.dK kvs)):TyOf K H (.ref a) (.type "dict")
  | dT {a:Addr} {kvs:List (List Key×V)} (e:H a=some (.dT kvs)):TyOf K H (.ref a) (.type "dict")
  | ins {a C dx:Addr} {fs:List (Str×V)} (e:H a=some (.ins C dx fs)) (cl:Cls K C) (ha:PySem.W.findIn K (.ref C) "__class__" = some (some (.builtin "object.__class__")))
      (hn:PySem.W.specialIn K (.builtin "object.__class__") "__get__" = some (some (.builtin "getset_descriptor.__get__"))) (htk:PySem.W.takesIn K (.builtin "object.__class__")=some true)
      (hm:PySem.W.mroIn K C (.type "object")=some true):TyOf K H (.ref a) (.ref C)
theorem isinst_ok {x:V} {u t:Value} (I:Inv X pins σ H s) (rx:RelV x u) (ty:TyOf X.K H x t) (e:PySem.W.kitOne X.K t c=some b) (h:∀ tk,Q (.bool b) { s with toks:=tk }):wpAny (model X.prog X.w) A (call (.builtin "isinstance") [u,c]) Q E s:=by
  cases ty with
  | non=>cases (show u=Value.none from rx); exact PySem.W.kia_one PySem.W.kitx_none I.kIn True.intro e (fun z=>nomatch z) h
  | bl y=>cases (show u=Value.bool y from rx); exact PySem.W.kia_one PySem.W.kitx_bool I.kIn True.intro e (fun z=>nomatch z) h
  | int i=>obtain ⟨t,q⟩:=(show ∃ t,u=Value.int i t from rx); cases q; exact PySem.W.kia_one PySem.W.kitx_int I.kIn True.intro e (fun z=>nomatch z) h
  | str y=>obtain ⟨t,q⟩:=(show ∃ t,u=Value.str y t from rx); cases q; exact PySem.W.kia_one PySem.W.kitx_str I.kIn True.intro e (fun z=>nomatch z) h
  | flt y=>obtain ⟨t,q⟩:=(show ∃ t,u=Value.float y t from rx); cases q; exact PySem.W.kia_one PySem.W.kitx_float I.kIn True.intro e (fun z=>nomatch z) h
  | @lst a xs ea =>
    cases (show u=Value.ref a from rx)
    obtain ⟨_,_,n,_,h1⟩:=(show ObjOk X.prog X.w H s.heap a (.lst xs) from I.hok a _ ea)
    exact PySem.W.kia_one PySem.W.kitx_list I.kIn ⟨_,h1,rfl⟩ e (fun z=>nomatch z) h
  | @frz a ob xs ea =>
    cases (show u=Value.ref a from rx)
    obtain ⟨_,_,_,n,_,h1⟩:=(show ObjOk X.prog X.w H s.heap a (.frz ob (.lst xs)) from I.hok a _ ea)
    exact PySem.W.kia_one PySem.W.kitx_list I.kIn ⟨_,h1,rfl⟩ e (fun z=>nomatch z) h
  | @tup a xs ea =>
    cases (show u=Value.ref a from rx)
    obtain ⟨_,_,_,p⟩:=(show ObjOk X.prog X.w H s.heap a (.tup xs) from I.hok a _ ea)
    obtain ⟨o,h1,h2,_⟩:=p
    exact PySem.W.kia_one PySem.W.kitx_tuple I.kIn ⟨o,h1,h2⟩ e (fun z=>nomatch z) h
  | @dK a kvs ea =>
    cases (show u=Value.ref a from rx)
    obtain ⟨_,_,vs,_,p⟩:=(show ObjOk X.prog X.w H s.heap a (.dK kvs) from I.hok a _ ea)
    obtain ⟨o,es,ep,h1,h2,_⟩:=p
    exact PySem.W.kia_one PySem.W.kitx_dict I.kIn ⟨o,h1,h2.1⟩ e (fun z=>nomatch z) h
  | @dT a kvs ea =>
    cases (show u=Value.ref a from rx)
    obtain ⟨_,_,xs,_,o,es,ep,h1,h2,_⟩:=(show ObjOk X.prog X.w H s.heap a (.dT kvs) from I.hok a _ ea)
    exact PySem.W.kia_one PySem.W.kitx_dict I.kIn ⟨o,h1,h2.1⟩ e (fun z=>nomatch z) h
  | @ins a C dx fs ea cl ha hn htk hm =>
    cases (show u=Value.ref a from rx)
    obtain ⟨mA,O,_⟩:=ins_get I.hok ea
    obtain ⟨od,J,_⟩:=O.look
    exact PySem.W.kia_one (PySem.W.kitx_own (cl.get _) cl.hd ha hn htk hm) I.kIn J e (fun z=>nomatch z) h
end
end L2
namespace L2
open PySem PySem.Spec PyProof.Rows
structure Room (k:Nat) (A:Around):Prop where
  hd:A.handled=none
  dp:A.depth+3 * k+5<recursionLimit
  un:A.units+16 * k+200<cLine
  gd:A.guards=some []
theorem Room.mono {j k:Nat} {A:Around} (r:Room k A) (h:j≤k):Room j A:=⟨r.hd,by have:=r.dp; omega,by have:=r.un; omega,r.gd⟩
theorem Room.deeper {k:Nat} {A:Around} (r:Room (k+1) A) (env:Env):Room k (A.deeper env) :=
  ⟨r.hd,by have:=r.dp; show A.depth+1+3 * k+5<_; omega,by have:=r.un; show A.units+3+16 * k+200<_; omega,r.gd⟩
theorem Room.depth {k:Nat} {A:Around} (r:Room k A):A.depth<recursionLimit:=by have:=r.dp; omega
theorem Room.units {k:Nat} {A:Around} (r:Room k A):A.units+64<cLine:=by have:=r.un; omega
def tNil:TA:=fun _ H Q=>Q [] H
def tCons (ta:TE) (tr:TA):TA:=fun σ H Q=>ta σ H fun x H1=>tr σ H1 fun xs H2=>Q (x::xs) H2
section
variable {X:Cx} {e:Expr} {es:List Expr} {te:TE} {t:TA} {pos:Pos}
theorem pa_nil:PA X [] tNil:=fun _ _ _ _ H Q I h=>Calls.spliced_nil ⟨[],H,I,.nil,h⟩
theorem pa_cons (ha:PE X e te) (hr:PA X es t) (hs:starEach (e::es) X.env=(false,eval e X.env)::starEach es X.env:=by rfl):PA X (e::es) (tCons te t):=by
  intro pos pins s σ H Q I h
  rw [hs]
  show wpAny _ _ (spliced ((false,eval e X.env)::backTo pos (starEach es X.env))) _ _ s
  refine Calls.spliced_cons (thn (ha pins s σ H _ I h) fun u s1 ⟨x,H1,I1,r1,q1⟩=>?_)
  exact thn (hr pos pins s1 σ H1 _ I1 q1) fun us s2 ⟨xs,H2,I2,r2,q2⟩=>⟨x::xs,H2,I2,.cons r1 r2,q2⟩
def tTup (t:TA):TE:=fun σ H Q=>t σ H fun xs H1=>xs.length≤sizeLine∧∀ p,H1 p=none→Q (.ref p) (upd H1 p (.tup xs))
def tLst (t:TA):TE:=fun σ H Q=>t σ H fun xs H1=>xs.length≤sizeLine∧∀ p,H1 p=none→Q (.ref p) (upd H1 p (.lst xs))
theorem pe_tup {x1} (h:PA X es t):PE X (.Tuple es x1 pos) (tTup t):=by
  intro pins s σ H Q I hq
  refine wpAny_Tuple_spliced (thn (h pos pins s σ H _ I hq) fun us s1 ⟨xs,H1,I1,r,z,q⟩=>⟨by rw [← r.length]; exact z,?_⟩)
  have hf:H1 s1.heap.objs.size=none:=I1.hok.fresh (Nat.le_refl _)
  refine ⟨.ref s1.heap.objs.size,upd H1 s1.heap.objs.size (.tup xs),I1.laid (t':=s1.toks) (fun b u e=>Heap.get?_push_of_some _ e) (Nat.le_refl _) ?_,rfl,q _ hf⟩
  exact ⟨z,us,r,⟨_,Heap.get?_push_size _ rfl,rfl,_,rfl⟩⟩
theorem pe_lst (h:PA X es t):PE X (.List es pos) (tLst t):=by
  intro pins s σ H Q I hq
  refine wpAny_List_spliced (thn (h pos pins s σ H _ I hq) fun us s1 ⟨xs,H1,I1,r,z,q⟩=>⟨by rw [← r.length]; exact z,?_⟩)
  have hf:H1 s1.heap.objs.size=none:=I1.hok.fresh (Nat.le_refl _)
  refine ⟨.ref s1.heap.objs.size,upd H1 s1.heap.objs.size (.lst xs),I1.laid (t':=s1.toks) (fun b u e=>Heap.get?_push_of_some _ e) (Nat.le_refl _) ?_,rfl,q _ hf⟩
  exact ⟨z,us,0,r,Heap.get?_push_size _ rfl⟩
end
abbrev Sp:=List V→Hp→VK→XK→Prop
abbrev CXT:=List Env→Hp→Shared→XK→Value→Shared→Prop
structure Env0 (P:Program) (w:World) (K:PySem.W.Frag) (mg:Str→Option Value) (base:Heap) (A:Around) (outer:List Env) (s:Shared) (H:Hp):Prop where
  frames:A.frames=some outer
  mod:Mod K mg base
  bs:∀ b o,base.get? b=some o→s.heap.get? b=some o∧H b=none
  bsz:base.objs.size≤s.heap.objs.size
  funs:s.heap.FunFrames base outer
  frf:∀ b∈frs outer,H b=none
  hok:HOk P w H s.heap
  bare:AllBare s.gens
def CE (outer:List Env) (P:Program) (w:World) (H:Hp) (s:Shared) (Q:VK) (u:Value) (s':Shared):Prop :=
  ∃ v H',s'.os=s.os∧AllBare s'.gens∧Un (frs outer) [] H H' s.heap s'.heap∧HOk P w H' s'.heap∧RelV v u∧Q v H'
def CR (CX:CXT) (outer:List Env) (P:Program) (w:World) (H:Hp) (s:Shared) (Q:VK) (E:XK) (r:Result) (s':Shared):Prop :=
  match r with
  | .ok (.ret u)=>CE outer P w H s Q u s'
  | .ok _=>False
  | .error e=>CX outer H s E e s'
structure FnOk (P:Program) (w:World) (K:PySem.W.Frag) (mg:Str→Option Value) (base:Heap) (CX:CXT) (k:Nat) (f:Addr) (fd:FuncData) (ps:List Str) (sp:Sp):Prop where
  len:∀ vs H Q E,sp vs H Q E→vs.length=ps.length
  run:∀ (A:Around) (outer:List Env) (s:Shared) (H:Hp) (args:Args) (us:List Value) (vs:List V) (Q:VK) (E:XK),Room k A→Env0 P w K mg base A outer s H→BindsTo s fd args (ps.zip us)→Vals vs us→sp vs H Q E →
    codeAny (model P w) A (.call (.ref f) args) (CR CX outer P w H s Q E) s
theorem FnOk.imp {P:Program} {w:World} {K:PySem.W.Frag} {mg:Str→Option Value} {base:Heap} {CX:CXT} {k:Nat} {f:Addr} {fd:FuncData} {ps:List Str} {sp sp':Sp} (F:FnOk P w K mg base CX k f fd ps sp) (h:∀ vs H Q E,sp' vs H Q E→sp vs H Q E):FnOk P w K mg base CX k f fd ps sp' :=
  ⟨fun vs H Q E q=>F.len vs H Q E (h _ _ _ _ q),fun A outer s H args us vs Q E hr he hb hv hs=>F.run A outer s H args us vs Q E hr he hb hv (h _ _ _ _ hs)⟩
section
variable {X:Cx} {pins:List (Addr×Obj)} {σ:St} {H:Hp} {s s':Shared}
theorem Inv.env0 (I:Inv X pins σ H s):Env0 X.prog X.w X.K X.mg X.base X.A X.stack s H :=
  ⟨I.ok.frames,I.ok.mod,I.bs,Nat.le_trans I.ok.bsz I.sz,I.stack,I.stkFree,I.hok,I.bare⟩
theorem Inv.after {Q:VK} {u:Value} (I:Inv X pins σ H s) (h:CE X.stack X.prog X.w H s Q u s'):EP X pins σ Q u s':=by
  obtain ⟨v,H',os,bare,un,hok,r,q⟩:=h
  obtain ⟨hh,g,d,t,os'⟩:=s'
  obtain rfl:os'=s.os:=os
  exact ⟨v,H',I.call (h':=hh) (g':=g) (d':=d) (t':=t) (ch:=[]) un hok bare (fun b z=>absurd z (by simp)),r,q⟩
end
def tCall (sp:Sp) (dvs:List V) (E:XK) (t:TA):TE:=fun σ H Q=>t σ H fun vs H1=>sp (vs++dvs) H1 Q E
def Binds (K:PySem.W.Frag) (fd:FuncData) (ps:List Str) (ds:List Value):Prop :=
  ∀ (s:Shared) (us:List Value),K.In s.heap→(us++ds).length=ps.length→BindsTo s fd ⟨us,[]⟩ (ps.zip (us++ds))
theorem Binds.all {K:PySem.W.Frag} {fd:FuncData} {ps:List Str} (h:∀ us:List Value,us.length=ps.length→bindArgs fd ⟨us,[]⟩=pure (ps.zip us)):Binds K fd ps []:=fun s us _ hl=>by
  rw [List.append_nil] at hl ⊢
  exact .of_eq (h us hl)
def Passes (CX:CXT) (X:Cx) (E:XK):Prop:=∀ (pins:List (Addr×Obj)) (σ:St) (H:Hp) (s:Shared) (e:Value) (s':Shared),Inv X pins σ H s→CX X.stack H s E e s'→X.xe e s'
section
variable {X:Cx} {CX:CXT} {k:Nat} {f C:Addr} {fd:FuncData} {ps:List Str} {sp:Sp} {dvs:List V} {ds:List Value} {E:XK} {x m:Str} {p pos apos:Pos} {e o:Expr} {es:List Expr} {ta:TE} {t:TA}
theorem run_fn {pins:List (Addr×Obj)} {σ:St} {H:Hp} {s:Shared} {Q:VK} {us:List Value} {vs:List V} (F:FnOk X.prog X.w X.K X.mg X.base CX k f fd ps sp) (hr:Room k X.A) (hb:Binds X.K fd ps ds) (hd:Vals dvs ds) (hx:Passes CX X E) (I:Inv X pins σ H s) (r:Vals vs us) (h:sp (vs++dvs) H Q E):wpAny (model X.prog X.w) X.A (call (.ref f) us) (EP X pins σ Q) X.xe s:=by
  have r2:Vals (vs++dvs) (us++ds):=r.append hd
  have hl:(us++ds).length=ps.length:=by rw [← r2.length]; exact F.len _ _ _ _ h
  refine wpAny_call (codeAny_mono (F.run X.A X.stack s H ⟨us,[]⟩ (us++ds) (vs++dvs) Q E hr I.env0 (hb s us I.kIn hl) r2 h) fun r s' hq=>?_)
  cases r with
  | error e=>exact hx pins σ H s e s' I hq
  | ok fl =>
    cases fl with
    | ret u=>exact I.after hq
    | next=>exact False.elim hq
    | brk=>exact False.elim hq
    | cont=>exact False.elim hq
theorem pe_call (F:FnOk X.prog X.w X.K X.mg X.base CX k f fd ps sp) (hr:Room k X.A) (hg:Gl X x) (hm:X.mg x=some (.ref f)) (hk:PySem.W.keepIn X.K (.ref f)=true) (hb:Binds X.K fd ps ds) (hd:Vals dvs ds) (hx:Passes CX X E) (ha:PA X (e::es) t) (hdb:(x == ("__debug__" : Str))=false:=by decide) (he:starEach (e::es) X.env=(false,eval e X.env)::starEach es X.env:=by rfl) (hpl:(backTo pos (starEach es X.env)).any (·.1)=false:=by rfl):PE X (.Call (.Name x p) (e::es) [] pos) (tCall sp dvs E t):=by
  intro pins s σ H Q I h
  refine wpAny_Call_Name_kw (ld_glob I hg hm ?_ hdb)
  refine PySem.W.callWith_K (h₀:=X.base) I.ok.mod.kin hk (thn (ha pos pins s σ H _ I h) fun us s1 ⟨vs,H1,I1,r,q⟩=>⟨I1.kIn,?_⟩) he hpl
  exact run_fn F hr hb hd hx I1 r q
theorem pe_call0 (F:FnOk X.prog X.w X.K X.mg X.base CX k f fd ps sp) (hr:Room k X.A) (hg:Gl X x) (hm:X.mg x=some (.ref f)) (hk:PySem.W.keepIn X.K (.ref f)=true) (hb:Binds X.K fd ps ds) (hd:Vals dvs ds) (hx:Passes CX X E) (hdb:(x == ("__debug__" : Str))=false:=by decide):PE X (.Call (.Name x p) [] [] pos) (tCall sp dvs E tNil):=by
  intro pins s σ H Q I h
  refine wpAny_Call_Name_kw (ld_glob I hg hm ?_ hdb)
  exact PySem.W.callWith_K0 I.kIn hk (run_fn (us:=[]) F hr hb hd hx I .nil h)
end
structure FnScope (N P:List Str) (sc:Scope):Prop where
  kind:sc.kind=.function
  co:sc.isCoroutine=false
  gen:sc.isGenerator=false
  nd:N.Nodup
  pre:N.take P.length=P
  par:∀ x∈P,sc.names.lookup x=some .local∨sc.names.lookup x=some .cell
  nofree:∀ y∈sc.names,y.2≠.free
theorem bindL_out {kindOf:Str→Option NameKind} {x:Str}:∀ {binds:List (Str×Value)} {m:Str→Option Value},(∀ v,(x,v)∉binds)→bindL kindOf binds m x=m x
  | [],_,_=>rfl
  | (n,v)::r,m,h=>by
    unfold bindL
    rw [bindL_out fun w hw=>h w (List.mem_cons_of_mem _ hw)]
    split
    · have : x≠n:=by rintro rfl; exact h v List.mem_cons_self
      simp [this]
    · rfl
theorem bindC_out {kindOf:Str→Option NameKind} {x:Str}:∀ {binds:List (Str×Value)} {m:Str→Option Value},(∀ v,(x,v)∉binds)→bindC kindOf binds m x=m x
  | [],_,_=>rfl
  | (n,v)::r,m,h=>by
    unfold bindC
    rw [bindC_out fun w hw=>h w (List.mem_cons_of_mem _ hw)]
    split
    · rfl
    · have : x≠n:=by rintro rfl; exact h v List.mem_cons_self
      simp [this]
theorem bindL_get {kindOf:Str→Option NameKind} {x:Str} {v:Value}:∀ {P:List Str} {vs:List Value} {i:Nat} {m:Str→Option Value},P.Nodup→P[i]? = some x→vs[i]? = some v→kindOf x=some .local→bindL kindOf (P.zip vs) m x=some v
  | [],_,_,_,_,h,_,_=>by simp at h
  | _::_,[],_,_,_,_,h,_=>by simp at h
  | p::P,w::vs,0,m,nd,h1,h2,hk=>by
    simp at h1 h2; subst h1; subst h2
    show bindL kindOf ((p,w)::P.zip vs) m p=_
    unfold bindL
    rw [bindL_out fun v hv=>(List.nodup_cons.mp nd).1 (List.of_mem_zip hv).1,if_pos hk]
    simp
  | p::P,w::vs,i+1,m,nd,h1,h2,hk=>by
    show bindL kindOf ((p,w)::P.zip vs) m x=_
    unfold bindL
    exact bindL_get (i:=i) (List.nodup_cons.mp nd).2 (by simpa using h1) (by simpa using h2) hk
theorem bindC_get {kindOf:Str→Option NameKind} {x:Str} {v:Value}:∀ {P:List Str} {vs:List Value} {i:Nat} {m:Str→Option Value},P.Nodup→P[i]? = some x→vs[i]? = some v→kindOf x≠some .local→bindC kindOf (P.zip vs) m x=some v
  | [],_,_,_,_,h,_,_=>by simp at h
  | _::_,[],_,_,_,_,h,_=>by simp at h
  | p::P,w::vs,0,m,nd,h1,h2,hk=>by
    simp at h1 h2; subst h1; subst h2
    show bindC kindOf ((p,w)::P.zip vs) m p=_
    unfold bindC
    rw [bindC_out fun v hv=>(List.nodup_cons.mp nd).1 (List.of_mem_zip hv).1,if_neg hk]
    simp
  | p::P,w::vs,i+1,m,nd,h1,h2,hk=>by
    show bindC kindOf ((p,w)::P.zip vs) m x=_
    unfold bindC
    exact bindC_get (i:=i) (List.nodup_cons.mp nd).2 (by simpa using h1) (by simpa using h2) hk
def start (N:List Str) (vs:List V):St:=vs.map some++List.replicate (N.length - vs.length) none
def cxOf (CX:CXT) (P:Program) (w:World) (K:PySem.W.Frag) (mg:Str→Option Value) (base:Heap) (N:List Str) (qual:Str) (scope:Scope) (f:Addr) (cd:Value) (A:Around) (outer:List Env) (s:Shared) (H:Hp) (E:XK):Cx where
  prog:=P
  w:=w
  K:=K
  mg:=mg
  base:=base
  A:=A.deeper (envOfC qual scope s.heap.objs.size f cd)
  N:=N
  s₀:=s
  H₀:=H
  env:=envOfC qual scope s.heap.objs.size f cd
  outer:=outer
  stack:=envOfC qual scope s.heap.objs.size f cd::outer
  ex:=[]
  calm:=true
  fn:=fun _=>true
  pn:=[]
  xe:=fun e s'=>wpAny (model P w) (A.deeper (envOfC qual scope s.heap.objs.size f cd)) (leaving (envOfC qual scope s.heap.objs.size f cd) e) (fun _ s''=>CX outer H s E e s'') (fun e' s''=>CX outer H s E e' s'') s'
theorem cell_has {sc:Scope} {n:Nat} {x:Str} (h:sc.names.lookup x=some .cell):∃ c,(cellsFrom n sc.names []).lookup x=some c:=by
  have q:=PySem.W.cellsFrom_some sc.names n [] (.inl h)
  exact Option.isSome_iff_exists.mp q
theorem inv_start {CX:CXT} {P:Program} {w:World} {K:PySem.W.Frag} {mg:Str→Option Value} {base:Heap} {N ps:List Str} {qual:Str} {scope:Scope} {f:Addr} {cd:Value} {A:Around} {outer:List Env} {s s1:Shared} {H:Hp} {E:XK} {us:List Value} {vs:List V} (S:FnScope N ps scope) (hd:A.handled=none) (e0:Env0 P w K mg base A outer s H) (hl:vs.length=ps.length) (r:Vals vs us) (x:InCallC s s.heap.objs.size (bindL (envOfC qual scope s.heap.objs.size f cd).kindOf (ps.zip us) fun _=>none) (cellsFrom (s.heap.objs.size+1) scope.names []) (bindC (envOfC qual scope s.heap.objs.size f cd).kindOf (ps.zip us) fun _=>none) s1):Inv (cxOf CX P w K mg base N qual scope f cd A outer s H E) [] (start N vs) H s1:=by
  have hpl:ps.length≤N.length:=by have:=congrArg List.length S.pre; rw [List.length_take] at this; omega
  obtain ⟨h1,tk,rfl,hk⟩:=x.done
  have noA:∀ b:Addr,b∉(cxOf CX P w K mg base N qual scope f cd A outer s H E).ex:=fun b z=>absurd (show b∈([]:List Addr) from z) (by simp)
  refine ⟨⟨e0.mod,S.kind,rfl,rfl,Nat.le_refl _,fun y z c h1 h2=>?_,fun y hy=>?_,fun y c _ h=>?_,fun _=>hd,Around.frames_deeper e0.frames,.inr ⟨rfl,rfl⟩,fun b z=>absurd z (noA b),e0.bs,e0.bsz,fun b _ _=>noA b,fun b z=>absurd z (noA b),e0.funs,e0.frf⟩,
    rfl,e0.bare,Un.kept hk,⟨_,x.toInCall.ns,fun i y v h1 h2 h3=>?_⟩,fun y c h=>⟨_,x.cell y c h⟩,e0.hok.fresh (Nat.le_refl _),fun y c h=>?_,fun p hp=>absurd (show p∈([]:List (Addr×Obj)) from hp) (by simp),e0.hok.kept hk,?_⟩
  · exact name_of_addr x.apart (PySem.mem_of_lookup h1) (PySem.mem_of_lookup h2)
  · have hy:scope.names.lookup y=some .cell∨scope.names.lookup y=some .free:=hy
    rcases hy with hy | hy
    · exact cell_has hy
    · exact absurd rfl (S.nofree _ (PySem.mem_of_lookup hy))
  · exact Nat.le_of_lt (x.above y c (PySem.mem_of_lookup h))
  · have hi:i<vs.length:=by
      unfold start at h2
      by_cases hi:i<vs.length
      · exact hi
      · rw [List.getElem?_append_right (by simpa using hi)] at h2
        rw [List.getElem?_replicate] at h2
        split at h2 <;> cases h2
    have ha:vs[i]? = some v:=by
      unfold start at h2
      rw [List.getElem?_append_left (by simpa using hi),List.getElem?_map] at h2
      cases e:vs[i]? with
      | none=>rw [e] at h2; cases h2
      | some a=>rw [e] at h2; cases h2; rfl
    obtain ⟨u,hu,rv⟩:=r.get ha
    have hp:ps[i]? = some y:=by
      rw [← S.pre,List.getElem?_take_of_lt (by omega)]; exact h1
    have ndP:ps.Nodup:=by rw [← S.pre]; exact S.nd.sublist (List.take_sublist _ _)
    refine ⟨u,rv,?_⟩
    rcases S.par y (List.mem_of_getElem? hp) with k | k
    · exact .inl ⟨k,bindL_get ndP hp hu k⟩
    · obtain ⟨c,e⟩:=cell_has (n:=s.heap.objs.size+1) k
      refine .inr ⟨.inl k,c,e,?_⟩
      have q:=x.cell y c e
      rw [bindC_get ndP hp hu (by show scope.names.lookup y≠_; rw [k]; decide)] at q
      exact q
  · exact e0.hok.fresh (Nat.le_of_lt (x.above y c (PySem.mem_of_lookup h)))
  · unfold start
    show _=N.length
    rw [List.length_append,List.length_map,List.length_replicate]
    omega
theorem fn_of {CX:CXT} {P:Program} {w:World} {K:PySem.W.Frag} {mg:Str→Option Value} {base:Heap} {k:Nat} {f:Addr} {name qual:Str} {params:Arguments} {body:List Stmt} {scope:Scope} {dV kV doc pm cdv ct oc:Value} {an od:Option Addr} {osl:Array (Option Value)} {N ps:List Str} {sp:Sp} (lk:K.lookup f=some ⟨oc,od,.func (PySem.W.fnOf name qual params body scope dV kV doc pm an cdv ct),osl⟩) (hcd:PySem.W.codeIn K cdv qual=true) (S:FnScope N ps scope) (len:∀ vs H Q E,sp vs H Q E→vs.length=ps.length) (hbody:∀ (A:Around) (outer:List Env) (s:Shared) (H:Hp) (vs:List V) (Q:VK) (E:XK),Room k (A.deeper (envOfC qual scope s.heap.objs.size f cdv))→sp vs H Q E→∃ t,PSs (cxOf CX P w K mg base N qual scope f cdv A outer s H E) body t∧t { nx:=fun _ H'=>Q .non H',rt:=Q } (start N vs) H):FnOk P w K mg base CX (k+1) f (PySem.W.fnOf name qual params body scope dV kV doc pm an cdv ct) ps sp:=by
  refine ⟨len,fun A outer s H args us vs Q E hr e0 hb r hsp=>?_⟩
  have hl:=len _ _ _ _ hsp
  have KX:K.In s.heap:=e0.mod.kin.keeps fun b o e=>(e0.bs b o e).1
  have lim:s.heap.NoLimit:=e0.mod.nolimit.keeps fun b o e=>(e0.bs b o e).1
  have hkind:∀ y∈ps.zip us,scope.names.lookup y.1=some .local∨(scope.names.lookup y.1=some .cell∧((cellsFrom (s.heap.objs.size+1) scope.names []).lookup y.1).isSome=true):=fun ⟨n,v⟩ hy=>by
    rcases S.par n (List.of_mem_zip hy).1 with q | q
    · exact .inl q
    · exact .inr ⟨q,PySem.W.cellsFrom_some _ _ _ (.inl q)⟩
  refine codeAny_call_function hr.depth (KX _ _ lk) rfl S.co S.gen rfl (PySem.W.codeRec_of KX hcd) (hb _ _ _ _ ?_)
  refine wpAny_newFunctionEnv_cells S.kind hkind fun env he s1 x=>?_
  subst he
  refine ⟨lim.keeps x.toInCall.keep,codeAny_func ?_⟩
  obtain ⟨t,ht,hq⟩:=hbody A outer s H vs Q E (hr.deeper _) hsp
  have I:Inv (cxOf CX P w K mg base N qual scope f cdv A outer s H E) [] (start N vs) H s1:=inv_start S hr.hd e0 hl r x
  refine wpAny_mono (ht [] s1 (start N vs) H _ I hq) (fun fl s' hs=>?_) fun e s' hs=>hs
  have fin:∀ {σ':St} {H':Hp} {v:V} {u:Value},Inv (cxOf CX P w K mg base N qual scope f cdv A outer s H E) [] σ' H' s'→RelV v u→Q v H'→CE outer P w H s Q u s' :=
    fun {σ' H' v u} J rv q=>⟨v,H',J.os,J.bare,J.base,J.hok,rv,q⟩
  cases fl with
  | ret u =>
    obtain ⟨v,σ',H',J,rv,q⟩:=hs
    exact fin J rv q
  | next =>
    obtain ⟨σ',H',J,q⟩:=hs
    exact fin (v:=V.non) (u:=Value.none) J rfl q
  | brk =>
    obtain ⟨_,_,_,q⟩:=hs
    exact False.elim q
  | cont =>
    obtain ⟨_,_,_,q⟩:=hs
    exact False.elim q
end L2
namespace L2
open PySem PySem.Spec PyProof.Rows
section
variable {X:Cx} {x:Str} {p pos:Pos} {e:Expr} {es:List Expr} {t:TA} {id T:String} {r:List V→Hp→VK→Prop}
def tCB (r:List V→Hp→VK→Prop) (t:TA):TE:=fun σ H Q=>t σ H fun vs H1=>r vs H1 Q
theorem pe_callB (hc:CallR X (.builtin id) r) (hg:Gl X x) (hm:X.mg x=none) (hv:bootBuiltins x=some (.builtin id)) (ha:PA X (e::es) t) (hn:x ≠ "__name__" := by decide) (hdb:(x == ("__debug__" : Str))=false:=by decide) (he:starEach (e::es) X.env=(false,eval e X.env)::starEach es X.env:=by rfl) (hpl:(backTo pos (starEach es X.env)).any (·.1)=false:=by rfl):PE X (.Call (.Name x p) (e::es) [] pos) (tCB r t):=by
  intro pins s σ H Q I h
  refine wpAny_Call_Name_kw (ld_blt I hg hm hv ?_ hn hdb)
  exact PyProof.Rows.callWith_builtin1 (thn (ha pos pins s σ H _ I h) fun us s1 ⟨vs,H1,I1,r1,q1⟩=>hc pins s1 σ H1 vs us Q I1 r1 q1) he hpl
theorem pe_callTy (hc:CallR X (.type T) r) (hg:Gl X x) (hm:X.mg x=none) (hv:bootBuiltins x=some (.type T)) (ha:PA X (e::es) t) (hn:x ≠ "__name__" := by decide) (hdb:(x == ("__debug__" : Str))=false:=by decide) (he:starEach (e::es) X.env=(false,eval e X.env)::starEach es X.env:=by rfl) (hpl:(backTo pos (starEach es X.env)).any (·.1)=false:=by rfl):PE X (.Call (.Name x p) (e::es) [] pos) (tCB r t):=by
  intro pins s σ H Q I h
  refine wpAny_Call_Name_kw (ld_blt I hg hm hv ?_ hn hdb)
  exact PyProof.Rows.callWith_type1 (thn (ha pos pins s σ H _ I h) fun us s1 ⟨vs,H1,I1,r1,q1⟩=>hc pins s1 σ H1 vs us Q I1 r1 q1) he hpl
end
end L2
namespace HT
open PySem PyProof.Rows
def lexLt:List Int→List Int→Bool
  | [],[]=>false
  | [],_::_=>true
  | _::_,[]=>false
  | x::xs,y::ys=>if x=y then lexLt xs ys else decide (x<y)
theorem lexLt_cons (x y:Int) (xs ys:List Int):lexLt (x::xs) (y::ys)=if x=y then lexLt xs ys else decide (x<y):=rfl
theorem lexLt_nil_nil:lexLt [] []=false:=rfl
theorem lexLt_nil_cons (y:Int) (ys:List Int):lexLt [] (y::ys)=true:=rfl
theorem lexLt_cons_nil (x:Int) (xs:List Int):lexLt (x::xs) []=false:=rfl
theorem eqAt_int (A:Around) (s:Shared) (a:Int) (t:Tok) (c:Int) (u:Tok):∃ e,SeqAt.EqAt A s (.int a t) (.int c u) e∧(e=true↔a=c) :=
  ⟨(a == c),SeqAt.EqAt.int_int a t c u,by simp⟩
theorem rcLt_int (A:Around) (s:Shared) (a:Int) (t:Tok) (c:Int) (u:Tok) (prog:Program) (w:World) (E:Value→Shared→Prop) (Q:Value→Shared→Prop) (h:Q (.bool (decide (a<c))) s):wpAny (model prog w) A (richCompare .Lt (.int a t) (.int c u)) Q E s :=
  (PyProof.Rows.lt_int h:wpAny (model prog w) A (compareOp .Lt (.int a t) (.int c u)) Q E s)
section
open PySem.SeqAt
open PySem.AutoSeq1 (wpAny_loadPart')
open PySem.MeetsSeq PySem.MeetsSeq2 PySem.MeetsSeq3
theorem tuple_lt_ints (l b:Addr) (items items2:Array Value) (n n2:Nat) (dd dd2:Option Addr) (sl sl2:Array (Option Value)) (ns ms:List Int) (hi:IntsAre items.toList ns) (hj:IntsAre items2.toList ms):Meets (Builtin.«tuple.__lt__» ⟨[.ref l,.ref b],[]⟩) (fun _ R s=>s.heap.get? l=some { cls:=.type "tuple",dict:=dd,data:=.seq items n,slots:=sl }∧s.heap.get? b=some { cls:=.type "tuple",dict:=dd2,data:=.seq items2 n2,slots:=sl2 }∧R (.ok (.ret (.bool (lexLt ns ms)))) s) :=
  .of_wp fun prog w A R s h=>by
    obtain ⟨hp,g,d,tk,os⟩:=s; obtain ⟨hl,hb,h⟩:=h
    have f2:=AutoSeq1.sub_tuple_tuple
    have z1:items.size=ns.length:=by rw [← hi.length]; simp
    have z2:items2.size=ms.length:=by rw [← hj.length]; simp
    wp_walk using wpAny_loadPart' hl,wpAny_loadPart' hb,wpAny_forIn_list _ (fun rest b s'=>b.1=none∧s'=⟨hp,g,d,tk,os⟩∧∃ (vs ws:List Value) (ns' ms':List Int),rest=vs.zip ws ∧
      IntsAre vs ns'∧IntsAre ws ms'∧ns'.length+items2.size=ms'.length+items.size∧R (.ok (.ret (.bool (lexLt ns' ms')))) ⟨hp,g,d,tk,os⟩) _
    case turn =>
      rintro ⟨y,x⟩ rest b s' ⟨hb',rfl,vs,ws,ns',ms',hz,hvi,hwi,hlen,hR⟩
      cases hvi with
      | nil=>rw [List.zip_nil_left] at hz; cases hz
      | cons a t hvi' =>
        cases hwi with
        | nil=>rw [List.zip_nil_right] at hz; cases hz
        | cons c u hwi' =>
          rw [List.zip_cons_cons] at hz
          injection hz with hyx hrest
          injection hyx with hy hx
          subst hy hx
          rw [lexLt_cons] at hR
          simp only [List.length_cons] at hlen
          obtain ⟨e,he,hiff⟩:=eqAt_int A.in1 ⟨hp,g,d,tk,os⟩ a t c u
          refine wpAny_bind (he prog w _ _ ?_)
          cases e with
          | true =>
            rw [if_pos (hiff.mp rfl)] at hR
            wp_walk
            exact ⟨rfl,rfl,_,_,_,_,hrest,hvi',hwi',by omega,hR⟩
          | false =>
            rw [if_neg (fun q=>absurd (hiff.mpr q) Bool.false_ne_true)] at hR
            have hri:=rcLt_int A.in1 ⟨hp,g,d,tk,os⟩ a t c u prog w
            wp_walk using hri
            exact ⟨_,rfl,by simpa using hR⟩
    case fin =>
      rintro ⟨b1,b2⟩ s' ⟨hb',rfl,vs,ws,ns',ms',hz,hvi,hwi,hlen,hR⟩
      simp only at hb'
      subst hb'
      have hv:lexLt ns' ms'=decide (items.size<items2.size):=by
        cases hvi with
        | nil =>
          cases hwi with
          | nil =>
            simp only [List.length_nil] at hlen
            rw [lexLt_nil_nil]
            exact (decide_eq_false (by omega)).symm
          | cons c u hw =>
            simp only [List.length_nil,List.length_cons] at hlen
            rw [lexLt_nil_cons]
            exact (decide_eq_true (by omega)).symm
        | cons a t hv =>
          cases hwi with
          | nil =>
            simp only [List.length_nil,List.length_cons] at hlen
            rw [lexLt_cons_nil]
            exact (decide_eq_false (by omega)).symm
          | cons c u hw =>
            rw [List.zip_cons_cons] at hz
            cases hz
      rw [hv] at hR
      wp_walk
      exact ⟨_,rfl,by simpa [Builtin.Tuple.tupleCompareSizes] using hR⟩
    case h =>
      exact ⟨rfl,rfl,items.toList,items2.toList,ns,ms,rfl,hi,hj,by omega,h⟩
end
section
variable {prog:Program} {w:World} {A:Around} {E:Value→Shared→Prop} {s:Shared}
theorem lt_tupInts {l b:Addr} {items items2:Array Value} {ns ms:List Int} {Q:Value→Shared→Prop} (hl:IsTup s.heap l items) (hb:IsTup s.heap b items2) (hi:IntsAre items.toList ns) (hj:IntsAre items2.toList ms) (hu:A.units<cLine) (h:Q (.bool (lexLt ns ms)) s):wpAny (model prog w) A (compareOp .Lt (.ref l) (.ref b)) Q E s:=by
  obtain ⟨⟨cls,dd,data,sl⟩,ho,hc,n,hd⟩:=id hl
  obtain ⟨⟨cls2,dd2,data2,sl2⟩,ho2,hc2,n2,hd2⟩:=id hb
  simp only at hc hd hc2 hd2
  subst hc hd hc2 hd2
  exact richCompare_meets_room (op:=.Lt) ⟨_,ho,rfl⟩ ⟨_,ho2,rfl⟩ PySem.F.slot_tuple_lt PySem.F.entry_tuple_lt (PySem.F.args_tuple_lt_2 _ _) (tuple_lt_ints l b items items2 n n2 dd dd2 sl sl2 ns ms hi hj)
    ⟨ho,ho2,show Value.bool (lexLt ns ms)≠Value.notImplemented∧Q (.bool (lexLt ns ms)) s from ⟨(fun x=>nomatch x),h⟩⟩ hu
theorem cat_tup {t b:Addr} {vs ws:List Value} {Q:Value→Shared→Prop} (ht:IsTup s.heap t vs.toArray) (hb:IsTup s.heap b ws.toArray) (hv:vs≠[]) (h1:ws=[]→Q (.ref t) s) (h2:ws≠[]→Q (.ref s.heap.objs.size) { s with heap:=s.heap.push { cls:=.type "tuple",data:=.seq (vs++ws).toArray } }) (hsz:vs.length+ws.length≤sizeLine):wpAny (model prog w) A (binaryOp .Add (.ref t) (.ref b)) Q E s:=by
  obtain ⟨⟨cls,dd,data,sl⟩,ho,hc,n,hd⟩:=id ht
  obtain ⟨⟨cls2,dd2,data2,sl2⟩,ho2,hc2,n2,hd2⟩:=id hb
  simp only at hc hd hc2 hd2
  subst hc hd hc2 hd2
  have e:vs.toArray++ws.toArray=(vs++ws).toArray:=by simp
  by_cases hw:ws=[]
  · exact concat_meets ⟨_,ho,rfl⟩ ⟨_,ho2,rfl⟩ noFill_tuple_add seq_tuple_add PySem.F.slot_tuple_add PySem.F.entry_tuple_add (PySem.F.args_tuple_add_2 _ _)
      (tuple_addW1 t b vs.toArray ws.toArray n n2 dd dd2 sl sl2 (by simpa using hv) (by simp [hw])) ⟨ho,ho2,h1 hw⟩
  · refine concat_meets ⟨_,ho,rfl⟩ ⟨_,ho2,rfl⟩ noFill_tuple_add seq_tuple_add PySem.F.slot_tuple_add PySem.F.entry_tuple_add (PySem.F.args_tuple_add_2 _ _)
      (tuple_addW2 t b vs.toArray ws.toArray n n2 dd dd2 sl sl2 (by simpa using hv) (by simpa using hw) (by rw [List.size_toArray,List.size_toArray]; exact hsz)) ⟨ho,ho2,?_⟩
    rw [e]
    exact h2 hw
def sIx (n d:Nat):Option Int→Nat
  | none=>d
  | some v=>if v<0 then (v+(n:Int)).toNat else min v.toNat n
theorem sIx_none (n d:Nat):sIx n d none=d:=rfl
theorem sIx_nat (n d k:Nat):sIx n d (some (k:Int))=min k n:=by
  show (if (k:Int)<0 then ((k:Int)+(n:Int)).toNat else min (k:Int).toNat n)=min k n
  rw [if_neg (by omega),Int.toNat_natCast]
end
end HT
namespace L2
open PySem PySem.Spec PyProof.Rows
abbrev TO:=St→Hp→(Option Int→Hp→Prop)→Prop
def PO (X:Cx) (e:Option Expr) (t:TO):Prop :=
  ∀ (pins:List (Addr×Obj)) (s:Shared) (σ:St) (H:Hp) (Q:Option Int→Hp→Prop),Inv X pins σ H s→t σ H Q →
    wpAny (model X.prog X.w) X.A (evalPart e X.env) (fun u s'=>∃ o H',Inv X pins σ H' s'∧IsPart u o∧Q o H') X.xe s
def tNoPart:TO:=fun _ H Q=>Q none H
def tPart (t:TE):TO:=fun σ H Q=>t σ H fun x H1=>∃ i,x=.int i∧Q (some i) H1
theorem intsAre_of {ns:List Int}:∀ {us:List Value},Vals (ns.map V.int) us→IntsAre us ns:=by
  induction ns with
  | nil=>intro us r; rw [List.map_nil] at r; cases r; exact .nil
  | cons n ns ih =>
    intro us r
    rw [List.map_cons] at r
    cases r with
    | cons r1 r2 =>
      obtain ⟨t,e⟩:=r1
      subst e
      exact .cons n t (ih r2)
section
variable {X:Cx} {e:Expr} {te:TE} {lo hi:Option Expr} {tl th:TO} {pos p2:Pos}
theorem po_none:PO X none tNoPart:=by
  intro pins s σ H Q I h
  rw [evalPart_none]
  exact wpAny_pure ⟨none,H,I,.none,h⟩
theorem po_some (h:PE X e te):PO X (some e) (tPart te):=by
  intro pins s σ H Q I hw
  rw [evalPart_some]
  refine thn (h pins s σ H _ I hw) fun u s1 ⟨x,H1,I1,r1,q1⟩=>?_
  obtain ⟨i,rfl,q⟩:=q1
  obtain ⟨t,rfl⟩:=r1
  exact ⟨some i,H1,I1,.int i t,q⟩
def SlR (X:Cx) (r:V→Option Int→Option Int→Hp→VK→Prop):Prop :=
  ∀ (pins:List (Addr×Obj)) (s:Shared) (σ:St) (H:Hp) (x:V) (v vl vu:Value) (lo hi:Option Int) (sl:Addr) (Q:VK),Inv X pins σ H s→RelV x v→s.heap.IsSliceOf sl vl vu .none→IsPart vl lo→IsPart vu hi→r x lo hi H Q →
    ∃ T id,typeLookup (.type T) "__getitem__" = pure (some (.builtin id))∧s.TypeIs v T∧wpAny (model X.prog X.w) X.A (getItem v (.ref sl)) (EP X pins σ Q) X.xe s
def tSl (r:V→Option Int→Option Int→Hp→VK→Prop) (te:TE) (tl th:TO):TE:=fun σ H Q=>te σ H fun x H1=>tl σ H1 fun l H2=>th σ H2 fun u H3=>r x l u H3 Q
theorem pe_slice {r:V→Option Int→Option Int→Hp→VK→Prop} (hr:SlR X r) (he:PE X e te) (hl:PO X lo tl) (hu:PO X hi th):PE X (.Subscript e (.Slice lo hi none p2) pos) (tSl r te tl th):=by
  intro pins s σ H Q I h
  refine Subscript_ (thn (he pins s σ H _ I h) fun v s1 ⟨x,H1,I1,r1,q1⟩=>?_)
  refine wpAny_Slice (thn (hl pins s1 σ H1 _ I1 q1) fun vl s2 ⟨l,H2,I2,pl,q2⟩=>thn (hu pins s2 σ H2 _ I2 q2) fun vu s3 ⟨u,H3,I3,pu,q3⟩=>?_)
  rw [evalPart_none]
  refine wpAny_pure ?_
  have I4:Inv X pins σ H3 { s3 with heap:=s3.heap.push { cls:=.type "slice",data:=.fields #[vl,vu,.none] } }:=I3.kept (t':=s3.toks) fun b ob q=>Heap.get?_push_of_some _ q
  obtain ⟨T,id,hT,ht,hg⟩:=hr pins { s3 with heap:=s3.heap.push { cls:=.type "slice",data:=.fields #[vl,vu,.none] } } σ H3 x v vl vu l u s3.heap.objs.size Q I4 r1 (Heap.IsSliceOf.new ..) pl pu q3
  show wpAny (model X.prog X.w) X.A (subscriptTail e (.Slice lo hi none p2) v (.ref s3.heap.objs.size)) (EP X pins σ Q) X.xe { s3 with heap:=s3.heap.push { cls:=.type "slice",data:=.fields #[vl,vu,.none] } }
  exact tail_any (ops:=[.ref s3.heap.objs.size,v]) ht hT hg (by with_unfolding_all rfl)
def cutV (xs:List V) (lo hi:Option Int):List V:=(xs.drop (HT.sIx xs.length 0 lo)).take (HT.sIx xs.length xs.length hi - HT.sIx xs.length 0 lo)
theorem cutV_length (xs:List V) (lo hi:Option Int):(cutV xs lo hi).length≤xs.length:=by
  unfold cutV
  rw [List.length_take,List.length_drop]
  omega
def rCatT (K:PySem.W.Frag):R2:=fun x y H Q=>∃ a b xs ys,x=.ref a∧y=.ref b∧SqT K H a xs∧SqT K H b ys∧xs≠[]∧xs.length+ys.length≤sizeLine ∧
  (ys=[]→Q (.ref a) H)∧(ys≠[]→∀ p,H p=none→Q (.ref p) (upd H p (.tup (xs++ys))))
theorem Vals.nil_iff {xs:List V} {us:List Value} (r:Vals xs us):us=[]↔xs=[]:=by
  cases r with
  | nil=>simp
  | cons _ _=>simp
theorem op_catT:OpR X (binaryOp .Add) (rCatT X.K):=by
  intro pins s σ H x y v u Q I rx ry h
  obtain ⟨a,b,xs,ys,rfl,rfl,ha,hb,hx,hz,q1,q2⟩:=h
  cases rx
  cases ry
  obtain ⟨its,r1,p1,_⟩:=I.tuple ha
  obtain ⟨its2,r2,p2,_⟩:=I.tuple hb
  refine HT.cat_tup p1 p2 (fun z=>hx (r1.nil_iff.mp z)) (fun z=>⟨.ref a,H,I,rfl,q1 (r2.nil_iff.mp z)⟩) (fun z=>?_) (by rw [← r1.length,← r2.length]; exact hz)
  refine ⟨.ref s.heap.objs.size,_,I.laid (t':=s.toks) (o:=.tup (xs++ys)) (fun b ob q=>Heap.get?_push_of_some _ q) (Nat.le_refl _) ?_,rfl,q2 (fun w=>z (r2.nil_iff.mpr w)) _ (I.hok.fresh (Nat.le_refl _))⟩
  exact ⟨by rw [List.length_append]; exact hz,_,r1.append r2,IsTup.new _ _⟩
end
end L2
namespace L2
open PySem PySem.Spec PyProof.Rows
def ixN (n:Nat) (i:Int):Option Nat:=if 0≤i then (if i<n then some i.toNat else none) else if -(n:Int)≤i then some (i+n).toNat else none
def atI {α:Type} (xs:List α) (i:Int):Option α:=(ixN xs.length i).bind fun j=>xs[j]?
theorem ixN_seq {n:Nat} {i:Int} {j:Nat} (h:ixN n i=some j):seqIndex? i n=some j∧j<n ∧ -(n:Int)≤i∧i<n:=by
  unfold ixN at h
  by_cases h0:0≤i
  · rw [if_pos h0] at h
    by_cases h1:i<n
    · rw [if_pos h1] at h
      have e:i.toNat=j:=Option.some.inj h
      exact ⟨by rw [seqIndex_of h0 h1,e],by omega,by omega,h1⟩
    · rw [if_neg h1] at h; cases h
  · rw [if_neg h0] at h
    by_cases h1:-(n:Int)≤i
    · rw [if_pos h1] at h
      have e:(i+n).toNat=j:=Option.some.inj h
      exact ⟨by rw [seqIndex_neg (by omega) h1,e],by omega,h1,by omega⟩
    · rw [if_neg h1] at h; cases h
theorem atI_get {α:Type} {xs:List α} {i:Int} {v:α} (h:atI xs i=some v):∃ j,seqIndex? i xs.length=some j∧xs[j]? = some v∧j<xs.length ∧ -(xs.length:Int)≤i∧i<xs.length:=by
  unfold atI at h
  cases e:ixN xs.length i with
  | none=>rw [e] at h; cases h
  | some j =>
    rw [e] at h
    obtain ⟨h1,h2,h3,h4⟩:=ixN_seq e
    exact ⟨j,h1,h,h2,h3,h4⟩
theorem atI_nat {α:Type} {xs:List α} {j:Nat} {v:α} (h:xs[j]? = some v):atI xs (j:Int)=some v:=by
  have hj:j<xs.length:=(List.getElem?_eq_some_iff.mp h).1
  have e:ixN xs.length (j:Int)=some j:=by
    unfold ixN
    rw [if_pos (by omega),if_pos (by omega)]; simp
  unfold atI; rw [e]; exact h
def PlainIx (b:Expr):Prop:=∀ o i,subscripted b false o i=operate [o,i] (getItem o i)
def IxR (X:Cx) (r:R2):Prop :=
  ∀ (value slice:Expr) (pins:List (Addr×Obj)) (s:Shared) (σ:St) (H:Hp) (x y:V) (v u:Value) (Q:VK),Inv X pins σ H s→RelV x v→RelV y u→r x y H Q →
    subscripted slice false v u=operate [v,u] (getItem v u)→wpAny (model X.prog X.w) X.A (subscriptTail value slice v u) (EP X pins σ Q) X.xe s
def MtR (X:Cx) (id:String) (r:V→List V→Hp→VK→Prop):Prop :=
  ∀ (pins:List (Addr×Obj)) (s:Shared) (σ:St) (H:Hp) (x:V) (xs:List V) (v:Value) (us:List Value) (Q:VK),Inv X pins σ H s→RelV x v→Vals xs us→r x xs H Q →
    wpAny (model X.prog X.w) X.A (call (.builtin id) (v::us)) (EP X pins σ Q) X.xe s
section
variable {X:Cx} {a b:Expr} {ta tb:TE} {pos:Pos}
theorem IxR.or {r r':R2} (h:IxR X r) (h':IxR X r'):IxR X (fun x y H Q=>r x y H Q∨r' x y H Q):=by
  intro value slice pins s σ H x y v u Q I rx ry q hs
  rcases q with q | q
  · exact h value slice pins s σ H x y v u Q I rx ry q hs
  · exact h' value slice pins s σ H x y v u Q I rx ry q hs
theorem pe_ix {r:R2} (hr:IxR X r) (ha:PE X a ta) (hb:PE X b tb) (hs:PlainIx b):PE X (.Subscript a b pos) (tOp r ta tb):=by
  intro pins s σ H Q I h
  exact Subscript_ (binT ha hb I h fun v u s2 x y H2 I2 rx ry q=>hr a b pins s2 σ H2 x y v u Q I2 rx ry q (hs _ _))
def rIxL (K:PySem.W.Frag):R2:=fun x y H Q=>∃ p xs i v,x=.ref p∧y=.int i∧SqL K H p xs∧atI xs i=some v∧Q v H
def rIxT (K:PySem.W.Frag):R2:=fun x y H Q=>∃ p xs i v,x=.ref p∧y=.int i∧SqT K H p xs∧atI xs i=some v∧Q v H
def rIxS:R2:=fun x y H Q=>∃ z i c,x=.str z∧y=.int i∧z.length≤sizeLine∧atI z.cps.toList i=some c∧Q (.str ⟨#[c]⟩) H
theorem ix_list:IxR X (rIxL X.K):=by
  intro value slice pins s σ H x y v u Q I rx ry h hs
  obtain ⟨p,xs,i,z,rfl,rfl,hq,he,q⟩:=h
  cases rx
  obtain ⟨t,rfl⟩:=ry
  obtain ⟨its,r,pl,hz⟩:=I.list hq
  obtain ⟨j,h1,h2,h3,h4,h5⟩:=atI_get he
  obtain ⟨w,ew,rw'⟩:=r.get h2
  have hl:=r.length
  have hn:=line63
  have fin:EP X pins σ Q w s:=⟨z,H,I,rw',q⟩
  by_cases h0:0≤i
  · have hj:i.toNat=j:=by
      rw [seqIndex_of h0 h5] at h1
      exact Option.some.inj h1
    exact item_listR pl.isList h0 (by omega) (by rw [hj]; simpa using ew) fin hs
  · have hj:(i+(its.toArray.size:Int)).toNat=j:=by
      rw [seqIndex_neg (by omega) h4] at h1
      rw [List.size_toArray,← hl]
      exact Option.some.inj h1
    exact subscriptTail_builtinR (x:=w) pl.isList.typeIs slot_list_getitem.lookup
      (wpAny_getItem_list_neg (Q:=fun r s'=>r=w∧EP X pins σ Q r s') pl.isList (by omega) (by rw [List.size_toArray] <;> omega) (by omega) (by rw [hj]; simpa using ew) ⟨rfl,fin⟩) hs
theorem ix_tup:IxR X (rIxT X.K):=by
  intro value slice pins s σ H x y v u Q I rx ry h hs
  obtain ⟨p,xs,i,z,rfl,rfl,hq,he,q⟩:=h
  cases rx
  obtain ⟨t,rfl⟩:=ry
  obtain ⟨its,r,pl,hz⟩:=I.tuple hq
  obtain ⟨j,h1,h2,h3,h4,h5⟩:=atI_get he
  obtain ⟨w,ew,rw'⟩:=r.get h2
  have hl:=r.length
  have hn:=line63
  have fin:EP X pins σ Q w s:=⟨z,H,I,rw',q⟩
  exact subscriptTail_builtinR (x:=w) pl.typeIs slot_tuple_getitem.lookup
    (getItem_tuple (j:=j) (Q:=fun r s'=>r=w∧EP X pins σ Q r s') pl (by omega) (by omega) (by rw [List.size_toArray,← hl]; exact h1) (by simpa using ew) ⟨rfl,fin⟩) hs
theorem ix_str:IxR X rIxS:=by
  intro value slice pins s σ H x y v u Q I rx ry h hs
  obtain ⟨z,i,c,rfl,rfl,hz,he,q⟩:=h
  obtain ⟨t,rfl⟩:=rx
  obtain ⟨t',rfl⟩:=ry
  obtain ⟨j,h1,h2,h3,h4,h5⟩:=atI_get he
  have hl:z.cps.toList.length=z.length:=by simp [Str.length]
  rw [hl] at h1 h4 h5
  have hn:=line63
  exact tail_any (typeIs_str s z t) slot_str_getitem.lookup (getItem_str (c:=c) (by
    have e1:decide (i < -(2 ^ 63:Int))=false:=decide_eq_false (by omega)
    have e2:decide (i ≥ 2 ^ 63)=false:=decide_eq_false (by omega)
    rw [e1,e2,Bool.or_false]) (by rw [h1]; simpa using h2) ⟨.str ⟨#[c]⟩,H,I.tok _,⟨_,rfl⟩,q⟩) hs
def rIx (K:PySem.W.Frag):R2:=fun x y H Q=>rIxL K x y H Q∨rIxT K x y H Q∨rIxS x y H Q
theorem ix_seq:IxR X (rIx X.K):=ix_list.or (ix_tup.or ix_str)
theorem mapSeq_set (its:List Value) (n j:Nat) (u:Value):Obj.mapSeq (·.setIfInBounds j u) { cls:=.type "list",data:=.seq its.toArray n }={ cls:=.type "list",data:=.seq (its.set j u).toArray n }:=by
  simp [Obj.mapSeq]
theorem Inv.lst {pins:List (Addr×Obj)} {σ:St} {H:Hp} {s:Shared} {p:Addr} {xs:List V} (I:Inv X pins σ H s) (h:H p=some (.lst xs)):∃ (its:List Value) (n:Nat),Vals xs its∧s.heap.get? p=some { cls:=.type "list",data:=.seq its.toArray n }∧xs.length≤sizeLine:=by
  obtain ⟨z,its,n,r,e⟩:=I.hok p _ h
  exact ⟨its,n,r,e,z⟩
theorem Inv.lstUpd {pins:List (Addr×Obj)} {σ:St} {H:Hp} {s:Shared} {p:Addr} {xs ys:List V} {its its':List Value} {n n':Nat} {f:Obj→Obj} (I:Inv X pins σ H s) (h:H p=some (.lst xs)) (ho:s.heap.get? p=some { cls:=.type "list",data:=.seq its.toArray n }) (hf:f { cls:=.type "list",data:=.seq its.toArray n }={ cls:=.type "list",data:=.seq its'.toArray n' }) (r:Vals ys its') (hz:ys.length≤sizeLine) (t:Nat):Inv X pins σ (upd H p (.lst ys)) { s with heap:=s.heap.update p f,toks:=t }:=by
  have e:(s.heap.update p f).get? p=some { cls:=.type "list",data:=.seq its'.toArray n' }:=by
    rw [Heap.get?_update_self f ho (by rw [hf] <;> rfl),hf]
  refine I.write (x:=p) (e:=p) (by rw [h]; trivial) (.inl rfl) (fun b u hb q=>(Heap.get?_update_other _ _ (Ne.symm hb)).trans q) ⟨_,e⟩ ?_
  exact ⟨hz,its',n',r,e⟩
def rSetL:V→V→V→Hp→(Hp→Prop)→Prop:=fun o i v H Q=>∃ p xs k j,o=.ref p∧i=.int k∧H p=some (.lst xs)∧ixN xs.length k=some j∧Q (upd H p (.lst (xs.set j v)))
theorem set_list:PSet X rSetL:=by
  intro pins s σ H o i v ov iv u Q I ro ri rv h
  obtain ⟨p,xs,k,j,rfl,rfl,hp,hj,q⟩:=h
  cases ro
  obtain ⟨t,rfl⟩:=ri
  obtain ⟨its,n,r,ho,hz⟩:=I.lst hp
  obtain ⟨h1,h2,h3,h4⟩:=ixN_seq hj
  have hl:=r.length
  have hn:=line63
  have I':Inv X pins σ (upd H p (.lst (xs.set j v))) { s with heap:=s.heap.update p (Obj.mapSeq (·.setIfInBounds j u)) } :=
    I.lstUpd hp ho (mapSeq_set its n j u) (r.set rv j) (by rw [List.length_set]; exact hz) s.toks
  by_cases h0:0≤k
  · have hk:k.toNat=j:=by
      rw [seqIndex_of h0 h4] at h1
      exact Option.some.inj h1
    exact PySem.W.ki_setAt ho h0 (by omega) (by rw [List.size_toArray,← hl]; exact h4) (by rw [hk]; exact ⟨_,I',q⟩)
  · have hk:(k+(its.toArray.size:Int)).toNat=j:=by
      rw [seqIndex_neg (by omega) h3] at h1
      rw [List.size_toArray,← hl]
      exact Option.some.inj h1
    exact PySem.W.ki_setBack ho (by omega) (by rw [List.size_toArray,← hl]; exact h3) (by omega) (by rw [hk]; exact ⟨_,I',q⟩)
theorem slice_bounds (lo hi:Option Int) (n:Nat):(sliceBounds lo hi none n).1=((HT.sIx n 0 lo:Nat):Int)∧(sliceBounds lo hi none n).2.1=((HT.sIx n n hi:Nat):Int)∧(sliceBounds lo hi none n).2.2=1:=by
  refine ⟨?_,?_,rfl⟩
  · cases lo with
    | none=>simp [sliceBounds,HT.sIx]
    | some i =>
      simp only [sliceBounds,HT.sIx,Option.getD_none,show (1:Int) > 0 by decide,if_true]
      by_cases h:i<0
      · simp only [h,if_true] <;> omega
      · simp only [h,if_false] <;> omega
  · cases hi with
    | none=>simp [sliceBounds,HT.sIx]
    | some i =>
      simp only [sliceBounds,HT.sIx,Option.getD_none,show (1:Int) > 0 by decide,if_true]
      by_cases h:i<0
      · simp only [h,if_true] <;> omega
      · simp only [h,if_false] <;> omega
theorem slicePick_cut (its:List Value) (lo hi:Option Int):slicePick its.toArray lo hi none=((its.drop (HT.sIx its.length 0 lo)).take (HT.sIx its.length its.length hi - HT.sIx its.length 0 lo)).toArray:=by
  obtain ⟨h1,h2,h3⟩:=slice_bounds lo hi its.toArray.size
  unfold slicePick
  rw [h1,h2,h3]
  simp only [sliceRange_one,pick_run,List.size_toArray] <;> rfl
def rSlL (K:PySem.W.Frag):V→Option Int→Option Int→Hp→VK→Prop:=fun x lo hi H Q=>∃ a xs,x=.ref a∧SqL K H a xs∧∀ p,H p=none→Q (.ref p) (upd H p (.lst (cutV xs lo hi)))
theorem sl_list:SlR X (rSlL X.K):=by
  intro pins s σ H x v vl vu lo hi sl Q I rx hs pl pu h
  obtain ⟨a,xs,rfl,hx,q⟩:=h
  cases rx
  obtain ⟨its,r,ht,hz⟩:=I.list hx
  have hlen:=r.length
  refine ⟨"list",_,slot_list_getitem.lookup,ht.isList.typeIs,?_⟩
  refine wpAny_getItem_list_slice ht.isList hs pl pu .none (by simp) ?_ (by rw [List.size_toArray] <;> omega)
  rw [slicePick_cut,← hlen]
  refine ⟨.ref s.heap.objs.size,_,I.laid (t':=s.toks) (o:=.lst (cutV xs lo hi)) (fun b ob q=>Heap.get?_push_of_some _ q) (Nat.le_refl _) ?_,rfl,q _ (I.hok.fresh (Nat.le_refl _))⟩
  exact ⟨Nat.le_trans (cutV_length xs lo hi) hz,_,0,(r.drop (HT.sIx xs.length 0 lo)).take (HT.sIx xs.length xs.length hi - HT.sIx xs.length 0 lo),Heap.get?_push_size _ rfl⟩
theorem call_list_of:CallR X (.type "list") (fun xs H Q=>∃ p ys,xs=[.ref p]∧(SqL X.K H p ys∨SqT X.K H p ys)∧∀ l,H l=none→Q (.ref l) (upd H l (.lst ys))):=by
  intro pins s σ H xs us Q I r h
  obtain ⟨p,ys,rfl,hq,q⟩:=h
  obtain ⟨u,rfl,rx⟩:=vals1 r
  cases rx
  have fin:∀ (its:List Value),Vals ys its→ys.length≤sizeLine→∀ (h':Heap) (c':Nat),(∀ b o',s.heap.get? b=some o'→h'.get? b=some o') →
      h'.get? s.heap.objs.size=some { cls:=.type "list",dict:=none,data:=.seq its.toArray c',slots:=#[] }→EP X pins σ Q (.ref s.heap.objs.size) { s with heap:=h' }:=fun its r' hz h' c' kp e =>
    ⟨.ref s.heap.objs.size,_,I.laid (t':=s.toks) kp (Nat.le_refl _) (show ObjOk X.prog X.w _ h' _ (.lst ys) from ⟨hz,its,c',r',e⟩),rfl,q _ (I.hok.fresh (Nat.le_refl _))⟩
  rcases hq with hq | hq
  · obtain ⟨its,r',pl,hz⟩:=I.list hq
    have hlen:=r'.length
    obtain ⟨o,ho,hc,n,hd⟩:=pl.isList
    exact call_list_seq p (.inl rfl) ho hc hd (fun h' c' kp e=>fin its r' hz h' c' kp e) (by simp only [List.size_toArray] <;> omega)
  · obtain ⟨its,r',pl,hz⟩:=I.tuple hq
    have hlen:=r'.length
    obtain ⟨o,ho,hc,n,hd⟩:=pl
    exact call_list_seq p (.inr rfl) ho hc hd (fun h' c' kp e=>fin its r' hz h' c' kp e) (by simp only [List.size_toArray] <;> omega)
theorem call_tuple_of:CallR X (.type "tuple") (fun xs H Q=>∃ p ys,xs=[.ref p]∧((SqL X.K H p ys∧∀ l,H l=none→Q (.ref l) (upd H l (.tup ys)))∨(SqT X.K H p ys∧Q (.ref p) H))):=by
  intro pins s σ H xs us Q I r h
  obtain ⟨p,ys,rfl,h⟩:=h
  obtain ⟨u,rfl,rx⟩:=vals1 r
  cases rx
  rcases h with ⟨hq,q⟩ | ⟨hq,q⟩
  · obtain ⟨its,r',pl,hz⟩:=I.list hq
    have hlen:=r'.length
    refine call_tuple_list pl.isList (fun h' kp=>?_) (by simp only [List.size_toArray] <;> omega)
    have I1:Inv X pins σ H { s with heap:=h' }:=I.kept (t':=s.toks) kp
    have I2:Inv X pins σ (upd H h'.objs.size (.tup ys)) { s with heap:=h'.push { cls:=.type "tuple",data:=.seq its.toArray } } :=
      I1.laid (t':=s.toks) (fun b o e=>Heap.get?_push_of_some _ e) (Nat.le_refl _) (show ObjOk X.prog X.w _ _ _ (.tup ys) from ⟨hz,its,r',IsTup.new _ _⟩)
    exact ⟨.ref h'.objs.size,_,I2,rfl,q _ (I1.hok.fresh (Nat.le_refl _))⟩
  · obtain ⟨its,r',pl,hz⟩:=I.tuple hq
    exact call_tuple_same pl ⟨.ref p,H,I,rfl,q⟩
def tyV (K:PySem.W.Frag) (T:String) (x:V) (H:Hp):Prop:=match x with
  | .str _=>T = "str"
  | .int _=>T = "int"
  | .ref p=>(T = "list" ∧ ∃ xs,SqL K H p xs)∨(T = "tuple" ∧ ∃ o,K.lookup p=some o∧o.cls=.type "tuple" ∧ o.dict=none) ∨
      (T = "dict" ∧ ((∃ kvs,H p=some (.dK kvs))∨∃ kvs,H p=some (.dT kvs)))∨(T = "set" ∧ ∃ S n,H p=some (.set S n))
  | _=>False
theorem tyV_is {pins:List (Addr×Obj)} {σ:St} {H:Hp} {s:Shared} {T:String} {x:V} {v:Value} (I:Inv X pins σ H s) (r:RelV x v) (ty:tyV X.K T x H):s.TypeIs v T∧∀ a,v=.ref a→∃ ob,s.heap.get? a=some ob∧ob.dict=none:=by
  cases x with
  | str z =>
    obtain ⟨t,rfl⟩:=r
    cases (show T = "str" from ty)
    exact ⟨typeIs_str s z t,fun _ e=>nomatch e⟩
  | int i =>
    obtain ⟨t,rfl⟩:=r
    cases (show T = "int" from ty)
    exact ⟨typeIs_int s i t,fun _ e=>nomatch e⟩
  | ref p =>
    cases r
    rcases ty with ⟨rfl,xs,hq⟩ | ⟨rfl,o,hk,hc,hd⟩ | ⟨rfl,hk⟩ | ⟨rfl,S,n,hk⟩
    · obtain ⟨its,_,pl,_⟩:=I.list hq
      refine ⟨pl.isList.typeIs,fun a e=>?_⟩
      cases e
      obtain ⟨o,n,e,c,hd,_⟩:=pl
      exact ⟨o,e,hd⟩
    · refine ⟨⟨o,I.kIn p o hk,hc⟩,fun a e=>?_⟩
      cases e
      exact ⟨o,I.kIn _ o hk,hd⟩
    · have z:∃ o,s.heap.get? p=some o∧o.ExactDict:=by
        rcases hk with ⟨kvs,hk⟩ | ⟨kvs,hk⟩
        · obtain ⟨_,_,_,_,o,_,_,e,ex,_⟩:=I.hok p _ hk
          exact ⟨o,e,ex⟩
        · obtain ⟨_,_,_,_,o,_,_,e,ex,_⟩:=I.hok p _ hk
          exact ⟨o,e,ex⟩
      obtain ⟨o,e,ex⟩:=z
      refine ⟨⟨o,e,ex.1⟩,fun a e2=>?_⟩
      cases e2
      exact ⟨o,e,ex.2.1⟩
    · obtain ⟨o,_,_,_,e,ex,_⟩:=I.hok p _ hk
      refine ⟨⟨o,e,ex.1⟩,fun a e2=>?_⟩
      cases e2
      exact ⟨o,e,ex.2.1⟩
  | _=>exact False.elim ty
def tBM (K:PySem.W.Frag) (T:String) (r:V→List V→Hp→VK→Prop) (to:TE) (t:TA):TE:=fun σ H Q=>to σ H fun x H1=>tyV K T x H1∧t σ H1 fun xs H2=>r x xs H2 Q
variable {o e:Expr} {es:List Expr} {to:TE} {t:TA} {name:Str} {apos cpos:Pos} {T id:String} {r:V→List V→Hp→VK→Prop}
theorem pe_bm (pa:PlainAttrs T) (slot:Slot T name id) (hty:typeOf (.builtin id)=pure (.type "method_descriptor")) (hm:MtR X id r) (ho:PE X o to) (ha:PA X (e::es) t)
    (hbase:attributeBase o name X.env (eval o X.env)=eval o X.env:=by rfl)
    (hfew:((backTo cpos (starEach (e::es) X.env)).all (fun x=>!x.1) && (backToKw cpos (keywordEach [] X.env)).all (fun x=>x.1.isSome)
      && decide ((e::es).length+([]:List Keyword).length+(if ([]:List Keyword).isEmpty then 0 else 1)<30))=true:=by rfl)
    (hline:(apos.endLine == cpos.line)=true:=by rfl) (hs:starEach (e::es) X.env=(false,eval e X.env)::starEach es X.env:=by rfl) (hplain:(backTo cpos (starEach es X.env)).any (·.1)=false:=by rfl) :
    PE X (.Call (.Attribute o name apos) (e::es) [] cpos) (tBM X.K T r to t):=by
  intro pins s σ H Q I h
  refine wpAny_Call_method_late hbase hfew hline rfl (thn (ho pins s σ H _ I h) fun v s1 ⟨x,H1,I1,r1,ty,q1⟩=>?_)
  obtain ⟨h1,h2⟩:=tyV_is I1 r1 ty
  refine ⟨T,id,pa,slot,hty,h1,h2,?_⟩
  have hA:=ha cpos pins s1 σ H1 _ I1 q1
  rw [hs] at hA ⊢
  refine Calls.callWith_builtin (by show (false || (backTo cpos (starEach es X.env)).any (·.1))=false; rw [hplain] <;> rfl) (Calls.evalArgs_plain ?_)
  exact thn hA fun us s2 ⟨vs,H2,I2,r2,q2⟩=>hm pins s2 σ H2 x vs v us Q I2 r1 r2 q2
end
end L2
namespace L2
open PySem PySem.Spec PyProof.Rows
def MtM (X:Cx) (id:String) (r:V→List V→Hp→VK→Prop):Prop :=
  ∀ (pins:List (Addr×Obj)) (s:Shared) (σ:St) (H:Hp) (x:V) (xs:List V) (v:Value) (us:List Value) (Q:VK),Inv X pins σ H s→RelV x v→Vals xs us→r x xs H Q →
    wpAny (model X.prog X.w) X.A (call (.builtin id) (v::us)) (EP X pins σ Q) X.xe s
theorem Vals.one:∀ {x:V} {us:List Value},Vals [x] us→∃ u,us=[u]∧RelV x u
  | _,_,.cons r .nil=>⟨_,rfl,r⟩
theorem Vals.rep {xs:List V} {us:List Value} (h:Vals xs us):∀ k:Nat,Vals (List.replicate k xs).flatten (List.replicate k us).flatten
  | 0=>.nil
  | k+1=>by
    rw [List.replicate_succ,List.replicate_succ,List.flatten_cons,List.flatten_cons]
    exact Vals.append h (Vals.rep h k)
theorem foldl_rep (its:List Value):∀ (k:Nat) (acc:List Value),List.foldl (fun x1 x2=>x1++x2) acc.toArray (List.replicate k its.toArray)=(acc++(List.replicate k its).flatten).toArray
  | 0,acc=>by simp
  | k+1,acc=>by
    have e:acc.toArray++its.toArray=(acc++its).toArray:=by simp
    have e2:(acc++its)++(List.replicate k its).flatten=acc++(List.replicate (k+1) its).flatten:=by
      rw [List.replicate_succ,List.flatten_cons,List.append_assoc]
    rw [← e2,← foldl_rep its k (acc++its),← e,List.replicate_succ,List.foldl_cons]
section
variable {X:Cx} {pins:List (Addr×Obj)} {σ:St} {H:Hp} {s:Shared} {l b:Addr} {xs ys zs:List V}
theorem Inv.lset {its its':List Value} {n:Nat} {f:Array Value→Array Value} {t':Nat} (I:Inv X pins σ H s) (hH:H l=some (.lst xs)) (e:s.heap.get? l=some { cls:=.type "list",data:=.seq its.toArray n }) (hf:f its.toArray=its'.toArray) (hv:Vals ys its') (hz:ys.length≤sizeLine):Inv X pins σ (upd H l (.lst ys)) { s with heap:=s.heap.update l (Obj.mapSeq f),toks:=t' }:=by
  have q:=PySem.IsL.update e f
  rw [hf] at q
  refine I.write (x:=l) (e:=l) (by rw [hH]; exact trivial) (.inl rfl) (fun b' u hb hu=>(Heap.get?_update_other s.heap (Obj.mapSeq f) (Ne.symm hb)).trans hu) ⟨_,q⟩ ?_
  exact ⟨hz,its',_,hv,q⟩
theorem Inv.lnew {its:List Value} {t':Nat} (I:Inv X pins σ H s) (hv:Vals ys its) (hz:ys.length≤sizeLine):Inv X pins σ (upd H s.heap.objs.size (.lst ys)) { s with heap:=s.heap.push { cls:=.type "list",data:=.seq its.toArray },toks:=t' } :=
  I.laid (fun _ _ q=>Heap.get?_push_of_some _ q) (Nat.le_refl _) ⟨hz,its,0,hv,Heap.get?_push_size _ rfl⟩
theorem Inv.fresh (I:Inv X pins σ H s):H s.heap.objs.size=none:=I.hok.fresh (Nat.le_refl _)
theorem Inv.lstM (I:Inv X pins σ H s) (hH:H l=some (.lst xs)):xs.length≤sizeLine∧∃ (its:List Value) (n:Nat),Vals xs its∧xs.length=its.length∧s.heap.get? l=some { cls:=.type "list",data:=.seq its.toArray n }:=by
  obtain ⟨z,its,n,r,e⟩:=I.hok l _ hH
  exact ⟨z,its,n,r,r.length,e⟩
theorem notLongL {n:Nat} (h:n≤sizeLine):Builtin.List.listTooLong n=false:=by
  unfold Builtin.List.listTooLong
  exact decide_eq_false (by omega)
end
section
variable {X:Cx}
def rAppend:V→List V→Hp→VK→Prop:=fun x vs H Q=>∃ l xs y,x=.ref l∧vs=[y]∧H l=some (.lst xs)∧xs.length<sizeLine∧Q .non (upd H l (.lst (xs++[y])))
theorem mt_append:MtM X "list.append" rAppend:=by
  intro pins s σ H x vs v us Q I rx rv h
  obtain ⟨l,xs,y,rfl,rfl,hH,hz,q⟩:=h
  cases rx
  obtain ⟨u,rfl,ru⟩:=rv.one
  obtain ⟨z,its,n,r,hl,e⟩:=I.lstM hH
  refine call_meets F.slot_list_append ⟨_,e,rfl⟩ F.entry_list_append (F.args_list_append_2 _ _) (PySem.list_append l its.toArray n u (by rw [List.size_toArray]; omega)) ⟨e,?_⟩
  refine ⟨.non,_,I.lset (its':=its++[u]) hH e (by simp) (r.append (.cons ru .nil)) ?_,rfl,q⟩
  rw [List.length_append,List.length_singleton]
  omega
def rExtend:V→List V→Hp→VK→Prop:=fun x vs H Q=>∃ l b xs zs,x=.ref l∧vs=[.ref b]∧H l=some (.lst xs)∧H b=some (.lst zs)∧xs.length+zs.length≤sizeLine∧Q .non (upd H l (.lst (xs++zs)))
theorem mt_extend:MtM X "list.extend" rExtend:=by
  intro pins s σ H x vs v us Q I rx rv h
  obtain ⟨l,b,xs,zs,rfl,rfl,hH,hB,hz,q⟩:=h
  cases rx
  obtain ⟨u,rfl,ru⟩:=rv.one
  cases ru
  obtain ⟨z,its,n,r,hl,e⟩:=I.lstM hH
  obtain ⟨z2,its2,n2,r2,hl2,e2⟩:=I.lstM hB
  have hsz:its.toArray.size+its2.toArray.size≤sizeLine:=by rw [List.size_toArray,List.size_toArray]; omega
  have hlong:¬ (!its.toArray.isEmpty && Builtin.List.listTooLong (its.toArray.size+its2.toArray.size))=true:=by
    rw [notLongL hsz,Bool.and_false]
    exact Bool.false_ne_true
  refine call_meets F.slot_list_extend ⟨_,e,rfl⟩ F.entry_list_extend (F.args_list_extend_2 _ _)
    (AutoSeq1.list_extend_list_list_0 l its.toArray n b its2.toArray n2 hlong (by rw [List.size_toArray]; omega) (by omega)) ⟨e,e2,?_⟩
  refine ⟨.non,_,I.lset (its':=its++its2) hH e (by simp) (r.append r2) ?_,rfl,q⟩
  rw [List.length_append]
  omega
def rCat:R2:=fun x y H Q=>∃ l b xs zs,x=.ref l∧y=.ref b∧H l=some (.lst xs)∧H b=some (.lst zs)∧xs.length+zs.length≤sizeLine∧∀ p,H p=none→Q (.ref p) (upd H p (.lst (xs++zs)))
theorem op_cat:OpR X (binaryOp .Add) rCat:=by
  intro pins s σ H x y v u Q I rx ry h
  obtain ⟨l,b,xs,zs,rfl,rfl,hH,hB,hz,q⟩:=h
  cases rx
  cases ry
  obtain ⟨z,its,n,r,hl,e⟩:=I.lstM hH
  obtain ⟨z2,its2,n2,r2,hl2,e2⟩:=I.lstM hB
  refine PySem.P.add_list e e2 ?_ (by rw [List.size_toArray,List.size_toArray]; omega)
  have ea:its.toArray++its2.toArray=(its++its2).toArray:=by simp
  rw [ea]
  exact ⟨.ref _,_,I.lnew (t':=s.toks) (r.append r2) (by rw [List.length_append]; omega),rfl,q _ I.fresh⟩
def rRep:R2:=fun x y H Q=>∃ l k xs,x=.ref l∧y=.int k∧H l=some (.lst xs) ∧ -(2 ^ 63)≤k∧k<2 ^ 63∧xs.length * k.toNat≤sizeLine ∧
  ∀ p,H p=none→Q (.ref p) (upd H p (.lst (List.replicate k.toNat xs).flatten))
theorem len_rep {α:Type} (xs:List α) (k:Nat):(List.replicate k xs).flatten.length=k * xs.length:=by
  induction k with
  | zero=>simp
  | succ k ih=>rw [List.replicate_succ,List.flatten_cons,List.length_append,ih,Nat.succ_mul,Nat.add_comm]
theorem op_rep:OpR X (binaryOp .Mult) rRep:=by
  intro pins s σ H x y v u Q I rx ry h
  obtain ⟨l,k,xs,rfl,rfl,hH,h1,h2,hz,q⟩:=h
  cases rx
  obtain ⟨t,rfl⟩:=ry
  obtain ⟨z,its,n,r,hl,e⟩:=I.lstM hH
  have hlen:its.toArray.size * k.toNat≤sizeLine:=by rw [List.size_toArray,← hl]; exact hz
  have hcap:¬ its.toArray.size * k.toNat > (2 ^ 63 - 1) / 8:=by
    have : (sizeLine:Nat)≤(2 ^ 63 - 1) / 8:=by decide
    omega
  have hfit:¬ (!Builtin.List.listFitsIndex k)=true:=by
    rw [fitsIndex_both h1 h2]
    exact Bool.false_ne_true
  have hlong:¬ Builtin.List.listTooLong (its.toArray.size * k.toNat)=true:=by
    rw [notLongL hlen]
    exact Bool.false_ne_true
  have hnew:List.foldl (fun x1 x2=>x1++x2) #[] (List.replicate (if its.toArray.isEmpty=true then 0 else k.toNat) its.toArray)=(List.replicate k.toNat its).flatten.toArray:=by
    have f0:∀ m:Nat,List.foldl (fun x1 x2=>x1++x2) #[] (List.replicate m its.toArray)=(List.replicate m its).flatten.toArray:=fun m=>by
      have:=foldl_rep its m []
      rw [List.nil_append] at this
      exact this
    rw [f0]
    cases its with
    | nil=>simp
    | cons a r'=>rw [if_neg (by simp)]
  refine wpAny_binaryOp_repeat_ref (T := "list") (U := "int") (by decide) ⟨_,e,rfl⟩ (fun s'=>typeIs_int s' k t) noFill_list_mul F.fills_int_mul F.slot_int_rmul repeat_list F.slot_int_index.lookup
    (call_meets F.slot_int_rmul (typeIs_int s k t) F.entry_int_rmul (F.args_int_rmul_2 _ _) (int___rmul___int_list k t l its.toArray n)
      ⟨e,rfl,⟨_,e,rfl⟩,call_meets F.slot_list_mul ⟨_,e,rfl⟩ F.entry_list_mul (F.args_list_mul_2 _ _) (AutoListH.list___mul___list_int_3 l its.toArray n k t hfit hcap hlong) ⟨e,?_⟩⟩)
  rw [hnew]
  exact ⟨.ref _,_,I.lnew (t':=s.toks) (r.rep k.toNat) (by rw [len_rep,Nat.mul_comm]; exact hz),rfl,q _ I.fresh⟩
end
end L2
namespace Att
open PySem PySem.W PySem.Calls PyProof.Rows
theorem ints_of_wellAll {P:Params} {h:Heap}:∀ (ns:List Int) (vs:List Value),WellAll P h vs (ns.map WData.int)→IntsAre vs ns:=by
  intro ns
  induction ns with
  | nil =>
    intro vs w
    rw [List.map_nil] at w
    cases w
    exact .nil
  | cons n ns ih =>
    intro vs w
    rw [List.map_cons] at w
    cases w with
    | cons a b =>
      cases a
      exact .cons _ _ (ih _ b)
theorem script_of {l:OpenLaw} {n:Nat} (hn:l.most=some n) {P:Params} {h:Heap} {args:List WData} {vals:List Value} (hpre:l.row.toRowW.claim.pre args=true) (hwl:WellAll P h vals args):∃ a vs ns,vals=[Value.ref a]∧args=[WData.list (ns.map WData.int)]∧h.get? a=some { cls:=.type "list",data:=.seq vs.toArray }∧IntsAre vs ns∧ns.length≤n:=by
  have hsh:WShape.hasAll [] args [.list .int]=true:=(pre_splitW hpre).1
  have hc:l.pre.holds [] { args:=args }=true:=(pre_splitW hpre).2
  obtain ⟨d,r,rfl,h1,h2⟩:=hasAllW_cons hsh
  obtain rfl:=hasAllW_nil h2
  obtain ⟨xs,rfl,h3⟩:=hasW_list h1
  obtain ⟨ns,rfl⟩:=items_int h3
  have hlen:ns.length≤n:=by
    unfold OpenLaw.pre at hc
    have h4:(WTm.not (.lt (.lit (.int (n:Int))) (.len (.arg 0)))).holds [] { args:=[.list (ns.map .int)] }=true:=by
      have h4:=(holds_andW hc).1
      rw [hn] at h4
      exact h4
    have h5:=condW_of h4 (w_not (w_lt w_lit (w_len_list (w_arg rfl))))
    rw [List.length_map] at h5
    refine Nat.le_of_not_lt fun q=>?_
    have q':(n:Int)<((ns.length:Nat):Int):=by omega
    first
      | (rw [decide_eq_true q'] at h5; exact absurd h5 (by decide))
      | (simp at h5; omega)
  cases hwl with
  | cons w1 w2 =>
    cases w2
    cases w1 with
    | list ho hall=>exact ⟨_,_,ns,rfl,rfl,ho,ints_of_wellAll ns _ hall,hlen⟩
theorem post_true (l:OpenLaw) (args:List WData):l.row.toRowW.claim.post args (.bool true) args=true :=
  postW_of (r:=l.row.toRowW) (X:=(true == true))
    (show WShape.has [] (.bool true) .bool=true by first | rfl | decide | simp [WShape.has,WShape.arms,WShape.armsAll])
    (show (WTm.eq .res (.lit (.bool true))).value [] { args:=args,res:=some (.bool true),after:=args }=some (.bool (true == true)) from w_eq_bool (w_res rfl) w_lit) rfl
theorem attach_call {l:OpenLaw} {n:Nat} {q:Program} {loose:List Str} {XP:(Str→Option Value)→Heap→Prop} {YP:World→Heap→Prop} {d:DefRec} (hn:l.most=some n) (hdf:d.params.defaults=[]) (call:∀ (w:World) (s₀ s₁:Shared) (mg mb:Str→Option Value) (fa:Addr) (o:Obj) (pm cd doc:Value) (a:Addr) (vs:List Value) (ns:List Int),Ground q loose [] XP w s₀ mg mb s₁.heap→YP w s₁.heap→s₁.heap.get? fa=some o→o.data=.func (docDef d.name d.params d.body d.scope pm cd doc)→s₁.heap.CodeRec cd d.name→mg d.name=some (.ref fa)→s₁.heap.get? a=some { cls:=.type "list",data:=.seq vs.toArray }→IntsAre vs ns→ns.length≤n→s₁.gens=#[]→codeAny (model l.prog w) callerA (.call (.ref fa) ⟨[.ref a],[]⟩) (fun r s'=>r=.ok (.ret (.bool true))∧OldK s₁.heap s'.heap∧s'.os=s₁.os∧AllBare s'.gens) s₁):WalkO q loose XP YP l.row.toRowW d [] (fun f vs=>PySem.call f vs):=by
  intro w s₀ s₁ mg mb G Y fa o pm cd doc dV kV ho hd hcd hD hmg hg args vals as hpre hlay hrd hwl hlo
  obtain rfl:dV=.none:=Dflts.none hD hdf
  obtain rfl:kV=.none:=Dflts.noKw hD
  obtain ⟨a,vs,ns,rfl,rfl,hobj,hints,hlen⟩:=script_of hn hpre hwl
  refine enter_call (codeAny_mono (call w s₀ s₁ mg mb fa o pm cd doc a vs ns G Y ho (fd_plain hd) hcd hmg hobj hints hlen hg) fun r s' hq=>?_)
  obtain ⟨rfl,h2,h3,h4⟩:=hq
  exact ⟨.inl ⟨.bool true,.bool true,[],rfl,fun _=>rfl,.bool true,post_true l _,fun _=>⟨List.Pairwise.nil,fun _ hm=>(nomatch hm)⟩⟩,h2,h3,h4⟩
end Att
namespace L2
open PySem PySem.Spec PyProof.Rows
theorem vals_ints:∀ {vs:List Value} {ns:List Int},IntsAre vs ns→Vals (ns.map V.int) vs
  | _,_,.nil=>.nil
  | _,_,.cons n t h=>.cons ⟨t,rfl⟩ (vals_ints h)
def Only (H:Hp):Prop:=∀ b,H b=none∨∃ o xs,H b=some (.frz o (.lst xs))
end L2
namespace L2
open PySem PySem.Spec PyProof.Rows
end L2
namespace L2
open PySem PySem.Spec PyProof.Rows
def defArgs (s:Stmt):Arguments:=match s with
  | .FunctionDef _ a _ _ _ _ _ _ _ _=>a
  | _=>{ posonlyargs:=[],args:=[],vararg:=none,kwonlyargs:=[],kw_defaults:=[],kwarg:=none,defaults:=[] }
def defBody (s:Stmt):List Stmt:=match s with
  | .FunctionDef _ _ b _ _ _ _ _ _ _=>b
  | _=>[]
def defScope (s:Stmt):Scope:=match s with
  | .FunctionDef _ _ _ _ _ _ sc _ _ _=>sc
  | _=>{ kind:=.function,names:=[],isGenerator:=false,isCoroutine:=false }
abbrev CX0:CXT:=fun _ _ _ _ _ _=>False
abbrev E0:XK:=fun _ _ _=>False
theorem pass0 {X:Cx}:Passes CX0 X E0:=fun _ _ _ _ _ _ _ h=>h.elim
structure Fun (K:PySem.W.Frag) (x qual:Str) (st:Stmt) (f:Addr) (fd:FuncData):Prop where
  ex:∃ (oc:Value) (od:Option Addr) (kV doc pm:Value) (an:Option Addr) (cdv ct:Value) (osl:Array (Option Value)),
    fd=PySem.W.fnOf x qual (defArgs st) (defBody st) (defScope st) .none kV doc pm an cdv ct∧K.lookup f=some ⟨oc,od,.func fd,osl⟩∧PySem.W.codeIn K cdv qual=true
  kp:PySem.W.keepIn K (.ref f)=true
section
variable {P:Program} {w:World} {K:PySem.W.Frag} {mg:Str→Option Value} {base:Heap}
theorem Fun.ok {x qual:Str} {st:Stmt} {f:Addr} {fd:FuncData} {N ps:List Str} {k:Nat} {sp:Sp} (F:Fun K x qual st f fd) (S:FnScope N ps (defScope st)) (len:∀ vs H Q E,sp vs H Q E→vs.length=ps.length) (hbody:∀ (cdv:Value) (A:Around) (outer:List Env) (s:Shared) (H:Hp) (vs:List V) (Q:VK) (E:XK),Room k (A.deeper (envOfC qual (defScope st) s.heap.objs.size f cdv))→sp vs H Q E→∃ t,PSs (cxOf CX0 P w K mg base N qual (defScope st) f cdv A outer s H E).nox (defBody st) t∧t { nx:=fun _ H'=>Q .non H',rt:=Q } (start N vs) H):FnOk P w K mg base CX0 (k+1) f fd ps sp:=by
  obtain ⟨oc,od,kV,doc,pm,an,cdv,ct,osl,rfl,lk,hcd⟩:=F.ex
  refine fn_of lk hcd S len fun A outer s H vs Q E hr hsp=>?_
  obtain ⟨t,h,q⟩:=hbody cdv A outer s H vs Q E hr hsp
  exact ⟨t,h.nox,q⟩
theorem Fun.binds {x qual:Str} {st:Stmt} {f:Addr} {fd:FuncData} {ps:List Str} (F:Fun K x qual st f fd) (h:∀ (kV doc pm:Value) (an:Option Addr) (cdv ct:Value) (us:List Value),us.length=ps.length→bindArgs (PySem.W.fnOf x qual (defArgs st) (defBody st) (defScope st) .none kV doc pm an cdv ct) ⟨us,[]⟩=pure (ps.zip us)):Binds K fd ps []:=by
  obtain ⟨oc,od,kV,doc,pm,an,cdv,ct,osl,rfl,lk,hcd⟩:=F.ex
  exact .all (h kV doc pm an cdv ct)
theorem fun_mk {x qual:Str} {st:Stmt} {f:Addr} {oc:Value} {od an:Option Addr} {osl:Array (Option Value)} {kV doc pm cdv ct:Value} (l:K.lookup f=some ⟨oc,od,.func (PySem.W.fnOf x qual (defArgs st) (defBody st) (defScope st) .none kV doc pm an cdv ct),osl⟩) (c:PySem.W.codeIn K cdv qual=true) (k:PySem.W.keepIn K (.ref f)=true):Fun K x qual st f (PySem.W.fnOf x qual (defArgs st) (defBody st) (defScope st) .none kV doc pm an cdv ct):=⟨⟨oc,od,kV,doc,pm,an,cdv,ct,osl,rfl,l,c⟩,k⟩
end
theorem small1000 {n:Nat} (h:n≤1000):n<sizeLine:=Nat.lt_of_le_of_lt h (by decide)
section
variable {X:Cx}
theorem pv (i:Nat) {x:Str} {pos:Pos} (hN:X.N[i]? = some x:=by rfl) (hv:Vis X.env.scope x:=by first | exact Or.inl rfl | exact Or.inr (Or.inl rfl) | exact Or.inr (Or.inr rfl)) (hd:(x == ("__debug__" : Str))=false:=by decide) (hcd:(x == ("__classdict__" : Str))=false:=by decide):PE X (.Name x pos) (tVar i):=pe_var hN hv hd hcd
end
theorem iteF {A B:Prop} (h:B):if false=true then A else B:=by
  rw [if_neg Bool.false_ne_true]
  exact h
theorem iteT {A B:Prop} (h:A):if true=true then A else B:=by
  rw [if_pos rfl]
  exact h
theorem ite2 {c A B:Prop} [Decidable c] (h1:c→A) (h2:¬ c→B):if c then A else B:=by
  by_cases h:c
  · rw [if_pos h]
    exact h1 h
  · rw [if_neg h]
    exact h2 h
def Same (H H':Hp):Prop:=∀ b o,H b=some o→H' b=some o
theorem Same.refl (H:Hp):Same H H:=fun _ _ h=>h
theorem Same.trans {H H1 H2:Hp} (a:Same H H1) (b:Same H1 H2):Same H H2:=fun c o h=>b c o (a c o h)
theorem Same.free {H H':Hp} (e:Same H H') {l:Addr} (h:H' l=Option.none):H l=Option.none:=by
  cases q:H l with
  | none=>rfl
  | some o =>
    rw [e l o q] at h
    cases h
end L2
namespace Nd
open PySem PySem.Spec PyProof.Rows L2
def cxComp (X:Cx) (scope:Scope) (cl:List (Str×Addr)) (N:List Str) (fp:List Addr) (s:Shared) (H:Hp):Cx where
  prog:=X.prog
  w:=X.w
  K:=X.K
  mg:=X.mg
  base:=X.base
  A:=X.A
  N:=N
  s₀:=s
  H₀:=H
  env:=compEnvC scope (cellsFrom (s.heap.objs.size+1) scope.names cl) s.heap.objs.size X.env
  outer:=X.stack
  stack:=X.stack
  ex:=fp
  fn:=fun y=>decide (scope.names.lookup y=some NameKind.cell)
  calm:=X.calm
  pn:=[]
  xe:=fun _ _=>False
section
variable {prog:Program} {w:World} {A:Around} {R:Result→Shared→Prop} {s:Shared}
theorem comp_turns {elt tg iter:Expr} {ifs:List Expr} {scope:Scope} {pos:Pos} {it acc:Value} {env:Env} (J:Nat→Shared→Prop) (turn:∀ n s,J n s→wpAny (model prog w) A (pyNext it) (fun r s1=>match r with
        | none=>R (.ok .next) s1
        | some v=>wpAny (model prog w) A (letOwnedTupleGo tg it v) (fun _ s2=>wpAny (model prog w) A (assign tg env v) (fun _ s3 =>
            wpAny (model prog w) A (forIn ifs true fun c r=>if r=true then (do
                let ok ← isTrue c env (eval c env)
                pure (ForInStep.yield ok)) else pure (ForInStep.yield r)) (fun ok s4 =>
              if ok=true then
                wpAny (model prog w) A (eval elt env) (fun x s5=>wpAny (model prog w) A (call (.builtin "list.append") [acc,x]) (fun _ s6=>∃ m,m<n∧J m s6) (fun _ _=>False) s5) (fun _ _=>False) s4
              else ∃ m,m<n∧J m s4) (fun _ _=>False) s3) (fun _ _=>False) s2) (fun _ _=>False) s1) (fun _ _=>False) s)
    (n:Nat) (h:J n s):codeAny (model prog w) A (.compLoop (.ListComp elt [⟨tg,iter,ifs,0⟩] scope pos) 0 it acc env) R s:=by
  refine codeAny_loop rfl J (fun n s hJ=>?_) n h
  show wpAny _ A (Sem.onRaise (compTurn (.ListComp elt [⟨tg,iter,ifs,0⟩] scope pos) 0 it acc env) (fun x=>do noteFrame x env; theTreesLotGoes x)) _ _ s
  refine wpAny_noted ?_
  rw [compTurn_list]
  refine wpAny_bind (wpAny_standAt (wpAny_bind (wpAny_mono (turn n s hJ) (fun r s1 h1=>?_) fun _ _ z=>z.elim)))
  cases r with
  | none=>exact wpAny_pure h1
  | some v =>
    refine wpAny_bind (wpAny_mono h1 (fun _ s2 h2=>?_) fun _ _ z=>z.elim)
    refine wpAny_bind (wpAny_mono h2 (fun _ s3 h3=>?_) fun _ _ z=>z.elim)
    refine wpAny_bind (wpAny_mono h3 (fun ok s4 h4=>?_) fun _ _ z=>z.elim)
    cases ok with
    | false=>exact wpAny_pure ⟨rfl,h4⟩
    | true =>
      refine wpAny_bind (wpAny_bind (wpAny_mono h4 (fun x s5 h5=>?_) fun _ _ z=>z.elim))
      exact wpAny_bind (wpAny_mono h5 (fun _ s6 h6=>wpAny_pure (wpAny_pure ⟨rfl,h6⟩)) fun _ _ z=>z.elim)
end
section
variable {X:Cx} {pins:List (Addr×Obj)} {σ:L2.St} {H:Hp} {s:Shared} {scope:Scope} {cl:List (Str×Addr)} {fp:List Addr} {N:List Str}
def OwnN (scope:Scope) (x:Str):Prop:=scope.names.lookup x=some .local∨scope.names.lookup x=some .cell
structure CompScope (X:Cx) (scope:Scope) (cl:List (Str×Addr)) (x:Str) (ys:List Str) (js:List Nat):Prop where
  clos:closureFor scope X.env=pure cl
  oc:(∀ y∈scope.names,y.2≠.cell)∨∃ z:Str,(∀ n,cellsFrom n scope.names []=[(z,n)])∧scope.names.lookup z=some .cell∧∀ y∈scope.names,y.2=.cell→y.1=z
  kind:scope.kind=.function
  locs:∀ y∈scope.names,y.2=.local→scope.names.lookup y.1=some .local
  own:OwnN scope x
  sub:∀ y c,cl.lookup y=some c→X.env.cells.lookup y=some c
  has_:(scope.names.all fun y=>!(y.2 == NameKind.free) || (cl.lookup y.1).isSome)=true
  nd:(x::ys).Nodup
  len:ys.length=js.length
  at_:∀ (k:Nat) (y:Str) (j:Nat),ys[k]? = some y→js[k]? = some j→X.N[j]? = some y∧scope.names.lookup y=some .free∧(X.env.kindOf y=some .cell∨X.env.kindOf y=some .free)
theorem CompScope.has {x:Str} {ys:List Str} {js:List Nat} (C:CompScope X scope cl x ys js):∀ y∈scope.names,y.2=.free→(cl.lookup y.1).isSome=true:=fun y hy e=>by
  have h:=List.all_eq_true.mp C.has_ y hy
  rw [e] at h
  simpa using h
theorem relabel_lookup {env:Env} {y:Str} {k:NameKind}:∀ {names:List (Str×NameKind)},
    (names.map fun (n,k)=>if (k == NameKind.free && env.scope.kind == .function && env.kindOf n == some .cell) then (n,NameKind.cell) else (n,k)).lookup y=some k →
    ∃ k0,names.lookup y=some k0∧(k=k0∨(k0=.free∧k=.cell))
  | [],h=>by simp at h
  | (n,k0)::r,h=>by
    have ih:=@relabel_lookup env y k r
    rw [List.map_cons] at h
    by_cases hc:(k0 == NameKind.free && env.scope.kind == .function && env.kindOf n == some .cell)=true
    · have h':List.lookup y ((n,NameKind.cell)::(r.map fun (n,k)=>if (k == NameKind.free && env.scope.kind == .function && env.kindOf n == some .cell) then (n,NameKind.cell) else (n,k)))=some k:=by
        simpa [hc] using h
      cases hy:y == n with
      | true =>
        rw [List.lookup_cons,hy] at h'
        have e:k=NameKind.cell:=by simpa using h'.symm
        refine ⟨k0,by rw [List.lookup_cons,hy],.inr ⟨?_,e⟩⟩
        rw [Bool.and_eq_true,Bool.and_eq_true] at hc
        exact eq_of_beq hc.1.1
      | false =>
        rw [List.lookup_cons,hy] at h'
        obtain ⟨q,e1,e2⟩:=ih h'
        exact ⟨q,by rw [List.lookup_cons,hy]; exact e1,e2⟩
    · have h':List.lookup y ((n,k0)::(r.map fun (n,k)=>if (k == NameKind.free && env.scope.kind == .function && env.kindOf n == some .cell) then (n,NameKind.cell) else (n,k)))=some k:=by
        simpa [hc] using h
      cases hy:y == n with
      | true =>
        rw [List.lookup_cons,hy] at h'
        exact ⟨k0,by rw [List.lookup_cons,hy],.inl (by simpa using h'.symm)⟩
      | false =>
        rw [List.lookup_cons,hy] at h'
        obtain ⟨q,e1,e2⟩:=ih h'
        exact ⟨q,by rw [List.lookup_cons,hy]; exact e1,e2⟩
theorem relabel_free {env:Env} {y:Str}:∀ {names:List (Str×NameKind)},names.lookup y=some .free →
    (names.map fun (n,k)=>if (k == NameKind.free && env.scope.kind == .function && env.kindOf n == some .cell) then (n,NameKind.cell) else (n,k)).lookup y=some .cell ∨
    (names.map fun (n,k)=>if (k == NameKind.free && env.scope.kind == .function && env.kindOf n == some .cell) then (n,NameKind.cell) else (n,k)).lookup y=some .free
  | [],h=>by simp at h
  | (n,k0)::r,h=>by
    have ih:=@relabel_free env y r
    show List.lookup y ((if (k0 == NameKind.free && env.scope.kind == .function && env.kindOf n == some .cell)=true then (n,NameKind.cell) else (n,k0))::_)=_∨List.lookup y ((if (k0 == NameKind.free && env.scope.kind == .function && env.kindOf n == some .cell)=true then (n,NameKind.cell) else (n,k0))::_)=_
    by_cases hc:(k0 == NameKind.free && env.scope.kind == .function && env.kindOf n == some .cell)=true
    · rw [if_pos hc]
      cases hy:y == n with
      | true=>exact .inl (by rw [List.lookup_cons,hy])
      | false =>
        rw [List.lookup_cons,hy] at h
        simp only [List.lookup_cons,hy]
        exact ih h
    · rw [if_neg hc]
      cases hy:y == n with
      | true =>
        rw [List.lookup_cons,hy] at h
        exact .inr (by rw [List.lookup_cons,hy]; exact h)
      | false =>
        rw [List.lookup_cons,hy] at h
        simp only [List.lookup_cons,hy]
        exact ih h
theorem lookup_mem {α β:Type} [BEq α] [LawfulBEq α] {y:α} {k:β}:∀ {l:List (α×β)},l.lookup y=some k→(y,k)∈l
  | [],h=>by simp at h
  | (n,v)::r,h=>by
    cases hy:y == n with
    | true =>
      rw [List.lookup_cons,hy] at h
      have e:=eq_of_beq hy
      subst e
      have : v=k:=by simpa using h
      subst this
      exact List.mem_cons_self
    | false =>
      rw [List.lookup_cons,hy] at h
      exact List.mem_cons_of_mem _ (lookup_mem h)
end
theorem no_cell {a c:Nat} (h:c<a) (e:c=a+1):False:=by omega
theorem cellsFrom_app:∀ (names:List (Str×NameKind)) (n:Nat) (acc:List (Str×Addr)),cellsFrom n names acc=cellsFrom n names []++acc
  | [],_,_=>rfl
  | (x,k)::r,n,acc=>by
    unfold cellsFrom
    by_cases h:(k == NameKind.cell)=true
    · rw [if_pos h,if_pos h,cellsFrom_app r _ ((x,n)::acc),cellsFrom_app r _ [(x,n)],List.append_assoc]; rfl
    · rw [if_neg h,if_neg h]; exact cellsFrom_app r n acc
theorem cellsFrom_none:∀ (names:List (Str×NameKind)) (n:Nat) (acc:List (Str×Addr)),(∀ y∈names,y.2≠.cell)→cellsFrom n names acc=acc
  | [],_,_,_=>rfl
  | (x,k)::r,n,acc,h=>by
    unfold cellsFrom
    rw [if_neg (by have:=h (x,k) List.mem_cons_self; simpa using this)]
    exact cellsFrom_none r n acc fun y hy=>h y (List.mem_cons_of_mem _ hy)
theorem relabel_cell {env:Env} {y:Str}:∀ {names:List (Str×NameKind)},names.lookup y=some .cell→(names.map fun (n,k)=>if (k == NameKind.free && env.scope.kind == .function && env.kindOf n == some .cell) then (n,NameKind.cell) else (n,k)).lookup y=some .cell
  | [],h=>by simp at h
  | (n,k0)::r,h=>by
    have ih:=@relabel_cell env y r
    show List.lookup y ((if (k0 == NameKind.free && env.scope.kind == .function && env.kindOf n == some .cell)=true then (n,NameKind.cell) else (n,k0))::_)=_
    by_cases hc:(k0 == NameKind.free && env.scope.kind == .function && env.kindOf n == some .cell)=true
    · rw [if_pos hc]
      cases hy:y == n with
      | true=>rw [List.lookup_cons,hy]
      | false=>rw [List.lookup_cons,hy] at h ⊢; exact ih h
    · rw [if_neg hc]
      cases hy:y == n with
      | true=>rw [List.lookup_cons,hy] at h ⊢; exact h
      | false=>rw [List.lookup_cons,hy] at h ⊢; exact ih h
theorem own_loc {env:Env} {scope:Scope} {x:Str} (o:OwnN scope x):Loc (relabel scope env) x:=o.imp lookup_relabel_local relabel_cell
section
variable {X:Cx} {scope:Scope} {cl:List (Str×Addr)} {x y:Str} {ys:List Str} {js:List Nat} {n c:Nat} {N:List Str} {fp:List Addr} {s:Shared} {H:Hp}
theorem own_fn (o:OwnN scope x):(cxComp X scope cl N fp s H).fn x=true∨(cxComp X scope cl N fp s H).env.scope.names.lookup x=some .local:=by
  rcases o with o | o
  · exact .inr (lookup_relabel_local o)
  · exact .inl (decide_eq_true o)
theorem CompScope.split (C:CompScope X scope cl x ys js) (h:(cellsFrom n scope.names cl).lookup y=some c):cl.lookup y=some c∨(c=n∧cellsFrom 0 scope.names []=[(y,0)]∧cellsFrom n scope.names []=[(y,n)]∧scope.names.lookup y=some .cell):=by
  rcases C.oc with o | ⟨z,o1,o2,_⟩
  · rw [cellsFrom_none _ _ _ o] at h; exact .inl h
  · rw [cellsFrom_app,o1] at h
    have h2:List.lookup y ((z,n)::cl)=some c:=h
    rw [List.lookup_cons] at h2
    cases e:y == z with
    | true =>
      rw [e] at h2
      have ec:c=n:=(Option.some.inj h2).symm
      have ey:=eq_of_beq e
      subst ey
      exact .inr ⟨ec,o1 0,o1 n,o2⟩
    | false=>rw [e] at h2; exact .inl h2
theorem CompScope.find (C:CompScope X scope cl x ys js) (h:cl.lookup y=some c) (hy:scope.names.lookup y=some .free):(cellsFrom n scope.names cl).lookup y=some c:=by
  rcases C.oc with o | ⟨z,o1,o2,_⟩
  · rw [cellsFrom_none _ _ _ o]; exact h
  · rw [cellsFrom_app,o1]
    show List.lookup y ((z,n)::cl)=some c
    rw [List.lookup_cons]
    cases e:y == z with
    | true=>rw [eq_of_beq e,o2] at hy; cases hy
    | false=>exact h
theorem CompScope.cellAt (C:CompScope X scope cl x ys js) (hy:(y,NameKind.cell)∈scope.names):(cellsFrom n scope.names cl).lookup y=some n:=by
  rcases C.oc with o | ⟨z,o1,o2,o3⟩
  · exact absurd rfl (o _ hy)
  · have ez:y=z:=o3 _ hy rfl
    subst ez
    rw [cellsFrom_app,o1]
    show List.lookup y ((y,n)::cl)=some n
    rw [List.lookup_cons,beq_self_eq_true]
theorem new_block {M:Model} {A:Around} {E:Value→Shared→Prop} {Q:Env→Shared→Prop} (C:CompScope X scope cl x ys js) (hQ:∀ h4,h4.Ns s.heap.objs.size (fun _=>none)→(∀ b u,s.heap.get? b=some u→h4.get? b=some u)→(∀ z n,cellsFrom (s.heap.objs.size+1) scope.names []=[(z,n)]→h4.IsCell n none)→Q (newEnv scope s.heap.objs.size X.env.globals (cellsFrom (s.heap.objs.size+1) scope.names cl) X.env.qual none .none (some X.env) builtinsNs) { s with heap:=h4,toks:=s.toks+([]:List (Str×Value)).length }):wpAny M A (newFunctionEnv scope X.env.globals cl [] X.env.qual none .none (some X.env)) Q E s:=by
  simp only [newFunctionEnv,Option.isSome_some,if_true]
  refine wpAny_bind (wpAny_alloc (wpAny_bind (wpAny_layCells _ (fun x k cs=>by cases e:k == NameKind.cell <;> simp [e]) _ _ _ _ ?_)))
  have hsz:({ s with heap:=s.heap.push { cls:=.type "dict",data:=.dict #[] } }:Shared).heap.objs.size=s.heap.objs.size+1:=Heap.size_push ..
  rw [hsz]
  refine wpAny_bind (wpAny_pure (wpAny_pure (hQ _ ((Heap.Ns.new s.heap (.type "dict")).keeps (pushCells_keeps _ _)) (fun b u e=>pushCells_keeps _ _ b u (Heap.get?_push_of_some _ e)) fun z n e=>?_)))
  have ok:=(cellsFrom_ok scope.names (s.heap.push { cls:=.type "dict",data:=.dict #[] }) 0 [] ⟨fun _ _ hm=>(nomatch hm),List.Pairwise.nil⟩ (Nat.zero_le _)).empty z n
  rw [show (s.heap.push { cls:=.type "dict",data:=.dict #[] }).objs.size=s.heap.objs.size+1 from hsz,e] at ok
  exact (ok (List.mem_singleton.mpr rfl)).1
end
section
variable {X:Cx} {pins:List (Addr×Obj)} {σ:L2.St} {H:Hp} {s:Shared} {scope:Scope} {cl:List (Str×Addr)} {fp:List Addr} {N:List Str}
theorem comp_ok {x:Str} {ys:List Str} {js:List Nat} (C:CompScope X scope cl x ys js) (I:Inv X pins σ H s) (hf:∀ b∈fp,FpOk X pins H b) (ho:∀ b∈fp,∃ o,s.heap.get? b=some o):(cxComp X scope cl N fp s H).Ok where
  mod:=I.ok.mod
  kind:=C.kind
  glob:=I.ok.glob
  blt:=I.ok.blt
  above:=Nat.le_refl _
  inj:=fun y z c h1 h2=>by
    have lt:∀ y,cl.lookup y=some c→c<s.heap.objs.size:=fun y e=>let ⟨_,q⟩:=I.cell y c (C.sub y c e); q.lt
    rcases C.split h1 with h1 | ⟨e1,a1,_⟩
    · rcases C.split h2 with h2 | ⟨e2,_⟩
      · exact I.ok.inj y z c (C.sub y c h1) (C.sub z c h2)
      · exact (no_cell (lt y h1) e2).elim
    · rcases C.split h2 with h2 | ⟨e2,a2,_⟩
      · exact (no_cell (lt z h2) e1).elim
      · rw [a1] at a2
        simpa using a2
  has:=fun y hy=>by
    have key:∀ k,(k=NameKind.cell∨k=NameKind.free)→(compEnvC scope cl s.heap.objs.size X.env).kindOf y=some k→∃ c,(cellsFrom (s.heap.objs.size+1) scope.names cl).lookup y=some c:=by
      intro k hk e
      obtain ⟨k0,e0,e1⟩:=relabel_lookup (names:=scope.names) (env:=X.env) (y:=y) (k:=k) e
      have m:=lookup_mem e0
      by_cases hk0:k0=.cell
      · exact ⟨_,C.cellAt (hk0▸m)⟩
      have hfree:k0=.free:=by
        rcases e1 with e1 | e1
        · subst e1
          rcases hk with hk | hk
          · exact absurd hk hk0
          · exact hk
        · exact e1.1
      obtain ⟨c,hc⟩:=Option.isSome_iff_exists.mp (C.has _ m hfree)
      exact ⟨c,C.find hc (hfree▸e0)⟩
    rcases hy with hy | hy
    · exact key _ (.inl rfl) hy
    · exact key _ (.inr rfl) hy
  cab:=fun y c h e=>by
    have h:scope.names.lookup y=some .cell:=of_decide_eq_true h
    have:=(C.cellAt (n:=s.heap.objs.size+1) (lookup_mem h)).symm.trans e
    show s.heap.objs.size≤c
    have:=Option.some.inj this
    omega
  hd:=I.ok.hd
  frames:=I.ok.frames
  stk:=.inl rfl
  exf:=fun b hb=>by
    obtain ⟨o,e⟩:=ho b hb
    refine ⟨Nat.ne_of_lt (Heap.lt_size e),fun y c hc=>?_⟩
    rcases C.split hc with hc | ⟨hc,_⟩
    · exact (hf b hb).2.2.2.2.1 y c (C.sub y c hc)
    · exact fun z=>no_cell (Heap.lt_size e) (z.symm.trans hc)
  bs:=I.bs
  bsz:=Nat.le_trans I.ok.bsz I.sz
  noex:=fun b o e hb=>by
    rcases (hf b hb).2.2.2.1 with z | z
    · exact I.ok.noex b o e z
    · exact absurd (Nat.lt_of_lt_of_le (Heap.lt_size (I.ok.bs b o e).1) z) (Nat.lt_irrefl _)
  exfs:=fun b hb z=>by
    rcases List.mem_cons.mp (I.stkSub b z) with e | e
    · exact (hf b hb).2.1 e
    · exact (hf b hb).2.2.1 e
  funs:=I.stack
  frf:=I.stkFree
def frees (σ:L2.St) (js:List Nat):L2.St:=js.map fun j=>(σ[j]?).join
theorem comp_start {x:Str} {pre ys:List Str} {js:List Nat} {h1:Heap} {tk:Nat} {m1:Str→Option Value} (C:CompScope X scope cl x ys js) (I:Inv X pins σ H s) (hf:∀ b∈fp,FpOk X pins H b) (ho:∀ b∈fp,∃ o,s.heap.get? b=some o) (hns:h1.Ns s.heap.objs.size m1) (keep:∀ b u,s.heap.get? b=some u→h1.get? b=some u) (new:∀ z n,cellsFrom (s.heap.objs.size+1) scope.names []=[(z,n)]→h1.IsCell n none):Inv (cxComp X scope cl (pre++ys) fp s H) [] (pre.map (fun _=>none)++frees σ js) H { s with heap:=h1,toks:=tk }:=by
  have cellK:∀ y c,cl.lookup y=some c→∃ v,s.heap.IsCell c v∧h1.IsCell c v:=fun y c e=>by
    obtain ⟨v,o,q,d⟩:=I.cell y c (C.sub y c e)
    exact ⟨v,⟨o,q,d⟩,o,keep c o q,d⟩
  refine ⟨comp_ok C I hf ho,rfl,I.bare,Un.kept keep,⟨m1,hns,fun i y v e1 e2 _=>?_⟩,fun y c e=>?_,I.hok.fresh (Nat.le_refl _),fun y c e=>?_,fun p hp=>?_,I.hok.kept keep,?_⟩
  · have e2:(pre.map (fun _=>(none:Option V))++frees σ js)[i]? = some (some v):=e2
    have e1:(pre++ys)[i]? = some y:=e1
    by_cases hi:i<pre.length
    · rw [List.getElem?_append_left (by rw [List.length_map]; exact hi),List.getElem?_map] at e2
      cases q:pre[i]? with
      | none=>rw [q] at e2; cases e2
      | some z=>rw [q] at e2; cases e2
    · rw [List.getElem?_append_right (by rw [List.length_map]; omega),List.length_map] at e2
      rw [List.getElem?_append_right (by omega)] at e1
      have e1':=e1
      have e2':=e2
      generalize i - pre.length=k at e1' e2'
      unfold frees at e2'
      rw [List.getElem?_map] at e2'
      cases ej:js[k]? with
      | none=>rw [ej] at e2'; simp at e2'
      | some j =>
        rw [ej] at e2'
        have e3:(σ[j]?).join=some v:=by simpa using e2'
        have e4:σ[j]? = some (some v):=by
          cases q:σ[j]? with
          | none=>rw [q] at e3; simp at e3
          | some z=>rw [q] at e3; simp at e3; rw [e3]
        obtain ⟨a1,a2,a3⟩:=C.at_ k y j e1' ej
        obtain ⟨m0,_,hl⟩:=I.loc
        have vis:Vis X.env.scope y:=a3.elim (fun a3=>.inr (.inl a3)) fun a3=>.inr (.inr a3)
        obtain ⟨u,r,l⟩:=hl j y v a1 e4 vis
        refine ⟨u,r,?_⟩
        rcases l with ⟨k1,_⟩ | ⟨_,c,hc,hv⟩
        · rcases a3 with a3 | a3 <;> rw [k1] at a3 <;> cases a3
        · obtain ⟨c',hc'⟩:=Option.isSome_iff_exists.mp (C.has _ (lookup_mem a2) rfl)
          have ec:c'=c:=by
            have:=C.sub y c' hc'
            rw [hc] at this
            exact (Option.some.inj this).symm
          subst ec
          obtain ⟨o,q,d⟩:=hv
          exact .inr ⟨relabel_free a2,c',C.find hc' a2,o,keep c' o q,d⟩
  · rcases C.split e with e | ⟨e,_,e',_⟩
    · obtain ⟨v,_,z⟩:=cellK y c e
      exact ⟨v,z⟩
    · exact ⟨_,e▸new _ _ e'⟩
  · rcases C.split e with e | ⟨e,_⟩
    · exact I.freeC y c (C.sub y c e)
    · exact I.hok.fresh (by omega)
  · cases (show p∈([]:List (Addr×Obj)) from hp)
  · show (pre.map (fun _=>(none:Option V))++frees σ js).length=(pre++ys).length
    simp [frees,C.len]
end
section
variable {X:Cx}
def CompW (J:It) (js:List Nat) (tc:TT) (te:TE) (σ:L2.St) (H1:Hp) (Q:VK):Prop:=∀ D,H1 D=none→∃ W:Nat→Nat→Hp→Prop,(∃ m,W 0 m (upd H1 D (.lst [])))∧∀ i m H,W i m H →
  (J.stop i H∧Q (.ref D) H)∨(J.go i H∧∀ x H',J.yld i H x H'→∃ (N1:Hp→Prop) (N2:VK),(∀ H2,N1 H2→∃ m',m'<m∧W (i+1) m' H2) ∧
    (∀ y H3,N2 y H3→∃ acc,H3 D=some (.lst acc)∧acc.length<sizeLine∧∃ m',m'<m∧W (i+1) m' (upd H3 D (.lst (acc++[y])))) ∧
    tc (some x::frees σ js) H' fun c H2=>if c=true then te (some x::frees σ js) H2 N2 else N1 H2)
def tComp (wi:TI) (js:List Nat) (tc:TT) (te:TE):TE:=fun σ H Q=>wi σ H fun J H1=>CompW J js tc te σ H1 Q
def tNoTest:TT:=fun _ H Q=>Q true H
def PTs (X:Cx) (ifs:List Expr) (t:TT):Prop :=
  ∀ (pins:List (Addr×Obj)) (s:Shared) (σ:L2.St) (H:Hp) (Q:Bool→Hp→Prop),Inv X pins σ H s→t σ H Q →
    wpAny (model X.prog X.w) X.A (forIn ifs true fun c r=>if r=true then (do
      let ok ← isTrue c X.env (eval c X.env)
      pure (ForInStep.yield ok)) else pure (ForInStep.yield r)) (TP X pins σ Q) X.xe s
theorem pts_none:PTs X [] tNoTest:=fun pins s σ H Q I h=>wpAny_tests_nil ⟨H,I,h⟩
theorem pts_one {c:Expr} {t:TT} (h:PT X c t):PTs X [c] t:=fun pins s σ H Q I q=>wpAny_tests_one (h pins s σ H Q I q)
theorem pe_comp {elt iter:Expr} {x:Str} {px pos:Pos} {ifs:List Expr} {scope:Scope} {cl:List (Str×Addr)} {ys:List Str} {js:List Nat} {wi:TI} {tc:TT} {te:TE} (C:CompScope X scope cl x ys js) (hc:X.calm=true) (hi:PI X (.Name x px) iter wi) (ht:∀ fp s H,PTs (cxComp X scope cl (x::ys) fp s H) ifs tc) (he:∀ fp s H,PE (cxComp X scope cl (x::ys) fp s H) elt te) (hs:∀ x,foldedSetIterable iter X.env x=pure x:=by intro _; rfl):PE X (.ListComp elt [⟨.Name x px,iter,ifs,0⟩] scope pos) (tComp wi js tc te):=by
  intro pins s σ H Q I h
  rw [eval_ListComp]
  refine wpAny_comprehension_free (use:=none) rfl hs C.clos C.kind C.locs (thn (hi pins s σ H _ I h) fun v s1 h1=>thn h1 fun itv s2 h2=>?_)
  obtain ⟨it,fp,tn,J,H2,e,I2,T,st2,f2,q2⟩:=h2
  subst e
  have fD:H2 s2.heap.objs.size=none:=I2.hok.fresh (Nat.le_refl _)
  obtain ⟨W,⟨m0,w0⟩,turn⟩:=q2 s2.heap.objs.size fD
  refine wpAny_newObj_type ?_
  have I3:Inv X pins σ (upd H2 s2.heap.objs.size (.lst [])) { s2 with heap:=s2.heap.push { cls:=.type "list",dict:=none,data:=.seq ([]:List Value).toArray } } :=
    I2.laid (t':=s2.toks) (fun b u q=>Heap.get?_push_of_some _ q) (Nat.le_refl _) ⟨Nat.zero_le _,[],0,.nil,Heap.get?_push_size _ rfl⟩
  have nfp:∀ b∈fp,b≠s2.heap.objs.size:=fun b hb z=>by
    obtain ⟨o,q,_⟩:=T.obj _ _ st2 b hb
    have:=Heap.lt_size q
    rw [z] at this
    exact absurd this (Nat.lt_irrefl _)
  have f3:∀ b∈fp,FpOk X pins (upd H2 s2.heap.objs.size (.lst [])) b:=fun b hb=>⟨by rw [upd_ne (nfp b hb)]; exact (f2 b hb).1,(f2 b hb).2⟩
  generalize hS3:({ s2 with heap:=s2.heap.push { cls:=.type "list",dict:=none,data:=.seq ([]:List Value).toArray } }:Shared)=s3 at I3
  have st3:tn 0 s3.heap:=T.keep 0 _ _ st2 fun b hb o q=>by rw [← hS3]; exact Heap.get?_push_of_some _ q
  have o3:∀ b∈fp,∃ o,s3.heap.get? b=some o:=fun b hb=>let ⟨o,q,_⟩:=T.obj _ _ st3 b hb; ⟨o,q⟩
  show wpAny _ _ (newFunctionEnv scope X.env.globals cl [] X.env.qual none .none (some X.env)) _ _ _
  refine new_block C fun h4 hns4 keep4 new4=>?_
  have I4:∀ tk,Inv (cxComp X scope cl (x::ys) fp s3 (upd H2 s2.heap.objs.size (.lst []))) [] (none::frees σ js) (upd H2 s2.heap.objs.size (.lst [])) { s3 with heap:=h4,toks:=tk }:=fun tk=>comp_start (pre:=[x]) C I3 f3 o3 hns4 keep4 new4
  have st4:tn 0 h4:=T.keep 0 _ _ st3 fun b hb o q=>keep4 b o q
  generalize hX':cxComp X scope cl (x::ys) fp s3 (upd H2 s2.heap.objs.size (.lst []))=X' at I4
  have eP:X'.prog=X.prog:=by rw [← hX']; rfl
  have eW:X'.w=X.w:=by rw [← hX']; rfl
  have eK:X'.K=X.K:=by rw [← hX']; rfl
  have eA:X'.A=X.A:=by rw [← hX']; rfl
  have eC:X'.calm=true:=by rw [← hX']; exact hc
  have stat:∀ {H':Hp},(∀ b∈fp,H' b=none)→∀ b∈fp,FpOk X' [] H' b:=fun {H'} hn b hb=>by
    have ok:=(I4 0).ok
    have hex:b∈X'.ex:=by rw [← hX']; exact hb
    exact ⟨hn b hb,(ok.exf b hex).1,ok.exfs b hex,.inl hex,(ok.exf b hex).2,fun p hp=>by rw [← hX'] at hp; cases (show p∈([]:List (Addr×Obj)) from hp)⟩
  have loop:∀ s5:Shared,s5={ s3 with heap:=h4,toks:=s3.toks+([]:List (Str×Value)).length } →
      codeAny (model X.prog X.w) X.A (.compLoop (.ListComp elt [⟨.Name x px,iter,ifs,0⟩] scope pos) 0 (.ref it) (.ref s2.heap.objs.size) (compEnvC scope (cellsFrom (s3.heap.objs.size+1) scope.names cl) s3.heap.objs.size X.env))
        (compPost (model X.prog X.w) X.A X.xe none (EP X pins σ Q) (.ref s2.heap.objs.size) s3.heap.objs.size) s5:=by
    rintro s5 rfl
    refine comp_turns (fun n s'=>∃ i o H',Inv X' [] (o::frees σ js) H' s'∧tn i s'.heap∧(∀ b∈fp,H' b=none)∧W i n H') ?_ m0
      ⟨0,none,_,I4 _,st4,fun b hb=>(f3 b hb).1,w0⟩
    rintro n s6 ⟨i,o,H6,I6,st6,fr6,w6⟩
    rcases turn i n H6 w6 with ⟨stop,qn⟩ | ⟨go,step⟩
    · have hd:=T.done X' eP eW eK eC i [] s6 _ H6 (fun _ _=>False) I6 (stat fr6) st6 stop
      rw [eA] at hd
      refine thn hd fun r s7 ⟨hr,I7⟩=>?_
      subst hr
      obtain ⟨m7,hn7,_⟩:=I7.loc
      have hn7':s7.heap.Ns s3.heap.objs.size m7:=by rw [← hX'] at hn7; exact hn7
      refine ⟨m7,hn7',fun h8 hs8=>?_⟩
      have I7f:H6 s3.heap.objs.size=none:=by have:=I7.free; rw [← hX'] at this; exact this
      have b7:Un (frs X.stack) fp (upd H2 s2.heap.objs.size (.lst [])) H6 s3.heap s7.heap:=by have:=I7.base; rw [← hX'] at this; exact this
      have ne8:∀ b o,s3.heap.get? b=some o→b≠s3.heap.objs.size:=fun b o q=>Nat.ne_of_lt (Heap.lt_size q)
      have u8:Un (frs X.stack) fp (upd H2 s2.heap.objs.size (.lst [])) H6 s3.heap h8:=by
        refine ⟨fun b o q n hb hx=>(hs8.2 b (ne8 b o q)).trans (b7.keep b o q n hb hx),fun b o q n hb hx=>?_,b7.free,fun b o q hx=>?_,b7.tups,b7.frzs,b7.tbls⟩
        · obtain ⟨sl,z⟩:=b7.slot b o q n hb hx
          exact ⟨sl,(hs8.2 b (ne8 b o q)).trans z⟩
        · obtain ⟨o',z⟩:=b7.there b o q hx
          exact ⟨o',(hs8.2 b (ne8 b o q)).trans z⟩
      have hok8:HOk X.prog X.w H6 h8:=fun b ob e=>by
        have hk7:=I7.hok
        rw [eP,eW] at hk7
        refine (hk7 b ob e).stay (fun c w' hcc q=>(hs8.2 c ?_).trans q) (fun _ q=>q) fun _ _ q=>q
        rintro rfl
        rcases hcc with rfl | hcc
        · rw [I7f] at e; cases e
        · rw [I7f] at hcc; cases hcc
      have os7:s7.os=s3.os:=by have:=I7.os; rw [← hX'] at this; exact this
      exact ⟨.ref s2.heap.objs.size,H6,I3.call' (s':={ s7 with heap:=h8 }) (ch:=fp) os7 u8 hok8 I7.bare (fun b hb=>⟨(f3 b hb).2.2.2.1,(f3 b hb).2.1,(f3 b hb).2.2.2.2.1,(f3 b hb).2.2.2.2.2⟩),rfl,qn⟩
    · have hit:=T.item X' eP eW eK eC i [] s6 _ H6 (fun _ _=>False) I6 (stat fr6) st6 go
      rw [eA] at hit
      refine thn hit fun r s7 ⟨u,hr,h7⟩=>?_
      subst hr
      refine thn h7 fun _ s8 ⟨y,H8,I8,r8,y8,st8,fr8⟩=>?_
      have I8':=I8.pinned (stat fr8) (T.obj _ _ st8)
      obtain ⟨N1,N2,hN1,hN2,hst⟩:=step y H8 y8
      have again:∀ {H9:Hp} {s9:Shared} {m':Nat},Inv X' ([]++pinsAt fp s8.heap) (some y::frees σ js) H9 s9→m'<n→W (i+1) m' H9→∃ m,m<n∧∃ i o H',Inv X' [] (o::frees σ js) H' s9∧tn i s9.heap∧(∀ b∈fp,H' b=none)∧W i m H':=fun {H9 s9 m'} I9 hm w9=>by
        refine ⟨m',hm,i+1,some y,H9,I9.unpinned,T.keep _ _ _ st8 fun b hb o e=>(I9.pin (b,o) (List.mem_append_right _ (List.mem_append_right _ (mem_pinsAt hb e)))).1,fun b hb=>?_,w9⟩
        obtain ⟨o,e,_⟩:=T.obj _ _ st8 b hb
        exact (I9.pin (b,o) (List.mem_append_right _ (List.mem_append_right _ (mem_pinsAt hb e)))).2.1
      subst hX'
      refine thn (pg_name (i:=0) (x:=x) (pos:=px) C.nd rfl (own_loc C.own) (own_fn C.own) _ s8 _ H8 y u (fun σ' H'=>σ'=some y::frees σ js∧H'=H8) I8' r8 ⟨rfl,rfl⟩) fun _ s9 ⟨σ9,H9,I9,e9,e9'⟩=>?_
      subst e9 e9'
      refine thn (ht fp s3 _ _ s9 _ _ _ I9 hst) fun ok s10 ⟨H10,I10,q10⟩=>?_
      cases ok with
      | false =>
        rw [if_neg Bool.false_ne_true] at q10 ⊢
        obtain ⟨m',hm,w10⟩:=hN1 _ q10
        exact again I10 hm w10
      | true =>
        rw [if_pos rfl] at q10 ⊢
        refine thn (he fp s3 _ _ s10 _ _ _ I10 q10) fun z s11 ⟨vz,H11,I11,r11,q11⟩=>?_
        obtain ⟨acc,ha,hz,m',hm,w11⟩:=hN2 _ _ q11
        refine thn (mt_append _ s11 _ H11 (.ref s2.heap.objs.size) [vz] (.ref s2.heap.objs.size) [z] (fun _ H'=>H'=upd H11 s2.heap.objs.size (.lst (acc++[vz]))) I11 rfl (.cons r11 .nil) ⟨_,acc,vz,rfl,rfl,ha,hz,rfl⟩) fun _ s12 ⟨_,H12,I12,_,e12⟩=>?_
        subst e12
        exact again I12 hm w11
  exact codeAny_compStart_list (loop _ rfl) (T.self X.A 0 _ _ _ st4 (loop _ rfl))
end
theorem same_new {H:Hp} {p:Addr} (h:H p=none) (o:HO):Same H (upd H p o):=fun b u q=>by rw [upd_ne (ne_of_none q h)]; exact q
theorem take_more {α:Type} {xs:List α} {i:Nat} {x:α} (h:xs[i]? = some x):xs.take (i+1)=xs.take i++[x]:=by
  rw [List.take_succ,h]; rfl
end Nd
namespace Nd
open PySem PySem.Spec PyProof.Rows L2
mutual
inductive RdV (K:PySem.W.Frag) (H:Hp):V→PyData→Prop
  | non:RdV K H .non .none
  | bl (b:Bool):RdV K H (.bl b) (.bool b)
  | int (i:Int):RdV K H (.int i) (.int i)
  | str (x:Str):RdV K H (.str x) (.str x)
  | lst {a:Addr} {xs:List V} {ds:List PyData}:SqL K H a xs→RdVs K H xs ds→RdV K H (.ref a) (.list ds)
  | tup {a:Addr} {xs:List V} {ds:List PyData}:SqT K H a xs→RdVs K H xs ds→RdV K H (.ref a) (.tuple ds)
inductive RdVs (K:PySem.W.Frag) (H:Hp):List V→List PyData→Prop
  | nil:RdVs K H [] []
  | cons {x:V} {d:PyData} {xs:List V} {ds:List PyData}:RdV K H x d→RdVs K H xs ds→RdVs K H (x::xs) (d::ds)
end
mutual
def Fits (b:Nat):PyData→Prop
  | .none=>True
  | .bool _=>True
  | .int i=>i.natAbs<10 ^ b
  | .str x=>(reprText x).length≤b
  | .list xs=>FitsAll b xs
  | .tuple xs=>FitsAll b xs
  | .dict _=>False
def FitsAll (b:Nat):List PyData→Prop
  | []=>True
  | x::xs=>Fits b x∧FitsAll b xs
end
mutual
def nodes:PyData→Nat
  | .list xs=>nodesAll xs+1
  | .tuple xs=>nodesAll xs+1
  | _=>1
def nodesAll:List PyData→Nat
  | []=>0
  | x::xs=>nodes x+nodesAll xs
end
theorem depth_ints (ns:List Int):PyData.depthAll (ns.map PyData.int)=0:=by
  induction ns with
  | nil=>rfl
  | cons n ns ih=>simp only [List.map_cons,PyData.depthAll,PyData.depth,ih,Nat.max_self]
theorem depthAll_le {m:Nat}:∀ {xs:List PyData},(∀ x∈xs,x.depth≤m)→PyData.depthAll xs≤m
  | [],_=>by simp [PyData.depthAll]
  | x::xs,h=>by
    have h1:=h x (List.mem_cons_self ..)
    have h2:=depthAll_le (xs:=xs) fun y hy=>h y (List.mem_cons_of_mem _ hy)
    simp only [PyData.depthAll]
    omega
end Nd
namespace Nd
open PySem PySem.Spec PyProof.Rows L2
section
variable {X:Cx} {pins:List (Addr×Obj)} {σ:L2.St} {H:Hp} {s:Shared} {A:Around}
theorem in1_units (A:Around):A.in1.units≤A.units+1:=by
  first | exact Nat.le_refl _ | (simp [Around.in1]; done) | (unfold Around.in1; simp)
theorem call_isinst:CallR X (.builtin "isinstance") (fun xs H Q=>∃ x n t b,xs=[x,.ty n]∧TyOf X.K H x t∧PySem.W.kitOne X.K t (.type n)=some b∧Q (.bl b) H):=by
  intro pins s σ H xs us Q I r h
  obtain ⟨x,n,t,b,rfl,ty,e,q⟩:=h
  obtain ⟨u,v,rfl,ru,rv⟩:=vals2 r
  cases rv
  exact isinst_ok I ru ty e fun tk=>⟨.bl b,H,I.tok _,rfl,q⟩
end
end Nd
namespace Nd
open PySem PySem.Spec PyProof.Rows L2
mutual
def eqD:PyData→PyData→Bool
  | .none,.none=>true
  | .bool a,.bool b=>a == b
  | .bool a,.int b=>(if a then 1 else 0) == b
  | .int a,.bool b=>a == (if b then 1 else 0)
  | .int a,.int b=>a == b
  | .str a,.str b=>a == b
  | .list xs,.list ys=>eqDs xs ys
  | .tuple xs,.tuple ys=>eqDs xs ys
  | _,_=>false
def eqDs:List PyData→List PyData→Bool
  | [],[]=>true
  | x::xs,y::ys=>eqD x y && eqDs xs ys
  | _,_=>false
end
theorem eqDs_range:∀ ds es:List PyData,(((List.range (min ds.length es.length)).all fun j=>eqD (ds.getD j .none) (es.getD j .none)) && ds.length == es.length)=eqDs ds es
  | [],[]=>by simp [eqDs]
  | [],_::_=>by simp [eqDs]
  | _::_,[]=>by simp [eqDs]
  | d::ds,e::es=>by
    have ih:=eqDs_range ds es
    rw [eqDs,← ih]
    have h1:min (d::ds).length (e::es).length=min ds.length es.length+1:=by simp only [List.length_cons]; omega
    rw [h1,List.range_succ_eq_map,List.all_cons,List.all_map]
    have h2:((d::ds).length == (e::es).length)=(ds.length == es.length):=by
      rw [Bool.eq_iff_iff]; simp
    rw [h2,Bool.and_assoc]
    rfl
section
variable {X:Cx} {pins:List (Addr×Obj)} {σ:L2.St} {H:Hp} {s:Shared} {K:PySem.W.Frag}
mutual
theorem RdV.eqD_self:∀ {v:V} {d:PyData},RdV K H v d→eqD d d=true
  | _,_,.non=>by simp [eqD]
  | _,_,.bl b=>by simp [eqD]
  | _,_,.int i=>by simp [eqD]
  | _,_,.str x=>by simp [eqD]
  | _,_,.lst _ h=>by rw [eqD]; exact RdVs.eqDs_self h
  | _,_,.tup _ h=>by rw [eqD]; exact RdVs.eqDs_self h
theorem RdVs.eqDs_self:∀ {vs:List V} {ds:List PyData},RdVs K H vs ds→eqDs ds ds=true
  | _,_,.nil=>by simp [eqDs]
  | _,_,.cons h t=>by rw [eqDs,RdV.eqD_self h,RdVs.eqDs_self t]; rfl
end
theorem not_both (I:Inv X pins σ H s) {a:Addr} {xs ys:List V} (h1:SqL X.K H a xs) (h2:SqT X.K H a ys):False:=by
  obtain ⟨us,_,p1,_⟩:=I.list h1
  obtain ⟨vs,_,p2,_⟩:=I.tuple h2
  exact SeqAt.ne_of_list_tuple p1.isList p2 rfl
mutual
theorem RdV.det (I:Inv X pins σ H s):∀ {v:V} {d e:PyData},RdV X.K H v d→RdV X.K H v e→d=e
  | _,_,_,.non,h=>by cases h; rfl
  | _,_,_,.bl b,h=>by cases h; rfl
  | _,_,_,.int i,h=>by cases h; rfl
  | _,_,_,.str x,h=>by cases h; rfl
  | _,_,_,.lst q r,h=>by
    cases h with
    | lst q' r' =>
      have e:=I.list_inj q q'
      subst e
      rw [RdVs.det I r r']
    | tup q' r'=>exact (not_both I q q').elim
  | _,_,_,.tup q r,h=>by
    cases h with
    | lst q' r'=>exact (not_both I q' q).elim
    | tup q' r' =>
      have e:=I.tuple_inj q q'
      subst e
      rw [RdVs.det I r r']
theorem RdVs.det (I:Inv X pins σ H s):∀ {vs:List V} {ds es:List PyData},RdVs X.K H vs ds→RdVs X.K H vs es→ds=es
  | _,_,_,.nil,h=>by cases h; rfl
  | _,_,_,.cons r t,h=>by
    cases h with
    | cons r' t'=>rw [RdV.det I r r',RdVs.det I t t']
end
theorem RdVs.length:∀ {vs:List V} {ds:List PyData},RdVs K H vs ds→vs.length=ds.length
  | _,_,.nil=>rfl
  | _,_,.cons _ t=>by rw [List.length_cons,List.length_cons,RdVs.length t]
theorem in1_lt {A:Around} {n:Nat} (h:A.units+(n+1)<cLine):A.in1.units+n<cLine:=by
  have:=in1_units A
  omega
theorem rc_lists {A:Around} {a b:Addr} {us vs:List Value} {ds es:List PyData} (p1:PlainL s.heap a us.toArray) (p2:PlainL s.heap b vs.toArray) (l1:us.length=ds.length) (l2:vs.length=es.length) (hu:A.units<cLine) (he:∀ j (h1:j<us.length) (h2:j<vs.length),SeqAt.EqAt A.in1 s us[j] vs[j] (eqD (ds.getD j .none) (es.getD j .none))):SeqAt.RcAt A s (.ref a) (.ref b) (eqDs ds es):=by
  rw [← eqDs_range]
  by_cases hl:ds.length=es.length
  · have hs:us.toArray.size=vs.toArray.size:=by rw [List.size_toArray,List.size_toArray,l1,l2,hl]
    have h:=SeqAt.RcAt.lists (A:=A) (e:=fun j=>eqD (ds.getD j .none) (es.getD j .none)) p1.isList p2.isList hs hu (fun j h1 h2=>by simpa using he j (by simpa using h1) (by simpa using h2))
    rw [List.size_toArray,l1] at h
    rw [hl,Nat.min_self,beq_self_eq_true,Bool.and_true,← hl]
    exact h
  · have hs:(us.toArray.size != vs.toArray.size)=true:=by rw [List.size_toArray,List.size_toArray,l1,l2]; simpa using hl
    have h:=SeqAt.RcAt.lists_lengths (A:=A) p1.isList p2.isList hs hu
    have e0:(ds.length == es.length)=false:=by simpa using hl
    rw [e0,Bool.and_false]
    exact h
theorem rc_tuples {A:Around} {a b:Addr} {us vs:List Value} {ds es:List PyData} (p1:IsTup s.heap a us.toArray) (p2:IsTup s.heap b vs.toArray) (l1:us.length=ds.length) (l2:vs.length=es.length) (hu:A.units<cLine) (he:∀ j (h1:j<us.length) (h2:j<vs.length),SeqAt.EqAt A.in1 s us[j] vs[j] (eqD (ds.getD j .none) (es.getD j .none))):SeqAt.RcAt A s (.ref a) (.ref b) (eqDs ds es):=by
  rw [← eqDs_range]
  have h:=SeqAt.RcAt.tuples (A:=A) (e:=fun j=>eqD (ds.getD j .none) (es.getD j .none)) (show s.heap.IsTuple a us.toArray from p1) (show s.heap.IsTuple b vs.toArray from p2) hu (fun j h1 h2=>by simpa using he j (by simpa using h1) (by simpa using h2))
  rw [List.size_toArray,List.size_toArray,l1,l2] at h
  exact h
mutual
theorem eqAt_D (I:Inv X pins σ H s):∀ {A:Around} {x y:V} {d e:PyData} {u v:Value},RdV X.K H x d→RdV X.K H y e→RelV x u→RelV y v→A.units+d.depth<cLine→SeqAt.EqAt A s u v (eqD d e)
  | A,_,_,_,_,_,_,.non,h,ru,rv,hu=>by
    cases ru
    have hu':A.units<cLine:=by omega
    cases h with
    | non=>cases rv; rw [eqD]; exact SeqAt.EqAt.same _
    | bl b=>cases rv; rw [eqD]; exact SeqAt.EqAt.none_bool b; all_goals simp
    | int b=>obtain ⟨t,rfl⟩:=rv; rw [eqD]; exact SeqAt.EqAt.none_int b t; all_goals simp
    | str b=>obtain ⟨t,rfl⟩:=rv; rw [eqD]; exact SeqAt.EqAt.none_str b t; all_goals simp
    | lst q r=>cases rv; obtain ⟨us,_,p,_⟩:=I.list q; rw [eqD]; exact SeqAt.EqAt.none_list p.isList hu'; all_goals simp
    | tup q r=>cases rv; obtain ⟨us,_,p,_⟩:=I.tuple q; rw [eqD]; exact SeqAt.EqAt.none_tuple p hu'; all_goals simp
  | A,_,_,_,_,_,_,.bl a,h,ru,rv,hu=>by
    cases ru
    have hu':A.units<cLine:=by omega
    cases h with
    | non=>cases rv; rw [eqD]; exact SeqAt.EqAt.bool_none a; all_goals simp
    | bl b=>cases rv; rw [eqD]; exact SeqAt.EqAt.bool_bool a b
    | int b=>obtain ⟨t,rfl⟩:=rv; rw [eqD]; exact SeqAt.EqAt.bool_int a b t
    | str b=>obtain ⟨t,rfl⟩:=rv; rw [eqD]; exact SeqAt.EqAt.bool_str a b t; all_goals simp
    | lst q r=>cases rv; obtain ⟨us,_,p,_⟩:=I.list q; rw [eqD]; exact SeqAt.EqAt.bool_list a p.isList hu'; all_goals simp
    | tup q r=>cases rv; obtain ⟨us,_,p,_⟩:=I.tuple q; rw [eqD]; exact SeqAt.EqAt.bool_tuple a p hu'; all_goals simp
  | A,_,_,_,_,_,_,.int a,h,ru,rv,hu=>by
    obtain ⟨t',rfl⟩:=ru
    have hu':A.units<cLine:=by omega
    cases h with
    | non=>cases rv; rw [eqD]; exact SeqAt.EqAt.int_none a t'; all_goals simp
    | bl b=>cases rv; rw [eqD]; exact SeqAt.EqAt.int_bool a t' b
    | int b=>obtain ⟨t,rfl⟩:=rv; rw [eqD]; exact SeqAt.EqAt.int_int a t' b t
    | str b=>obtain ⟨t,rfl⟩:=rv; rw [eqD]; exact SeqAt.EqAt.int_str a t' b t; all_goals simp
    | lst q r=>cases rv; obtain ⟨us,_,p,_⟩:=I.list q; rw [eqD]; exact SeqAt.EqAt.int_list a t' p.isList hu'; all_goals simp
    | tup q r=>cases rv; obtain ⟨us,_,p,_⟩:=I.tuple q; rw [eqD]; exact SeqAt.EqAt.int_tuple a t' p hu'; all_goals simp
  | A,_,_,_,_,_,_,.str a,h,ru,rv,hu=>by
    obtain ⟨t',rfl⟩:=ru
    have hu':A.units<cLine:=by omega
    cases h with
    | non=>cases rv; rw [eqD]; exact SeqAt.EqAt.str_none a t'; all_goals simp
    | bl b=>cases rv; rw [eqD]; exact SeqAt.EqAt.str_bool a t' b; all_goals simp
    | int b=>obtain ⟨t,rfl⟩:=rv; rw [eqD]; exact SeqAt.EqAt.str_int a t' b t; all_goals simp
    | str b=>obtain ⟨t,rfl⟩:=rv; rw [eqD]; exact SeqAt.EqAt.str_str a t' b t
    | lst q r=>cases rv; obtain ⟨us,_,p,_⟩:=I.list q; rw [eqD]; exact SeqAt.EqAt.str_list a t' p.isList hu'; all_goals simp
    | tup q r=>cases rv; obtain ⟨us,_,p,_⟩:=I.tuple q; rw [eqD]; exact SeqAt.EqAt.str_tuple a t' p hu'; all_goals simp
  | A,_,_,_,_,_,_,@RdV.lst _ _ a xs ds q r,h,ru,rv,hu=>by
    cases ru
    have hu':A.units<cLine:=by omega
    obtain ⟨us,r1,p,_⟩:=I.list q
    cases h with
    | non=>cases rv; rw [eqD]; exact SeqAt.EqAt.list_none p.isList hu'; all_goals simp
    | bl b=>cases rv; rw [eqD]; exact SeqAt.EqAt.list_bool b p.isList hu'; all_goals simp
    | int b=>obtain ⟨t,rfl⟩:=rv; rw [eqD]; exact SeqAt.EqAt.list_int b t p.isList hu'; all_goals simp
    | str b=>obtain ⟨t,rfl⟩:=rv; rw [eqD]; exact SeqAt.EqAt.list_str b t p.isList hu'; all_goals simp
    | @lst b ys es q2 rr2 =>
      cases rv
      obtain ⟨vs,r2,p2,_⟩:=I.list q2
      rw [eqD]
      by_cases hab:a=b
      · subst hab
        have e:=I.list_inj q q2
        subst e
        rw [← RdVs.det I r rr2,RdVs.eqDs_self r]
        exact SeqAt.EqAt.same _
      · refine SeqAt.EqAt.of_refs hab (rc_lists p p2 (r1.length.symm.trans r.length) (r2.length.symm.trans rr2.length) hu' fun j h1 h2=>?_)
        exact eqAt_Ds I r rr2 r1 r2 (in1_lt (by simpa only [PyData.depth] using hu)) j h1 h2
    | tup q2 rr2=>cases rv; obtain ⟨vs,_,p2,_⟩:=I.tuple q2; rw [eqD]; exact SeqAt.EqAt.list_tuple p.isList p2 hu'; all_goals simp
  | A,_,_,_,_,_,_,@RdV.tup _ _ a xs ds q r,h,ru,rv,hu=>by
    cases ru
    have hu':A.units<cLine:=by omega
    obtain ⟨us,r1,p,_⟩:=I.tuple q
    cases h with
    | non=>cases rv; rw [eqD]; exact SeqAt.EqAt.tuple_none p hu'; all_goals simp
    | bl b=>cases rv; rw [eqD]; exact SeqAt.EqAt.tuple_bool b p hu'; all_goals simp
    | int b=>obtain ⟨t,rfl⟩:=rv; rw [eqD]; exact SeqAt.EqAt.tuple_int b t p hu'; all_goals simp
    | str b=>obtain ⟨t,rfl⟩:=rv; rw [eqD]; exact SeqAt.EqAt.tuple_str b t p hu'; all_goals simp
    | lst q2 rr2=>cases rv; obtain ⟨vs,_,p2,_⟩:=I.list q2; rw [eqD]; exact SeqAt.EqAt.tuple_list p p2.isList hu'; all_goals simp
    | @tup b ys es q2 rr2 =>
      cases rv
      obtain ⟨vs,r2,p2,_⟩:=I.tuple q2
      rw [eqD]
      by_cases hab:a=b
      · subst hab
        have e:=I.tuple_inj q q2
        subst e
        rw [← RdVs.det I r rr2,RdVs.eqDs_self r]
        exact SeqAt.EqAt.same _
      · refine SeqAt.EqAt.of_refs hab (rc_tuples p p2 (r1.length.symm.trans r.length) (r2.length.symm.trans rr2.length) hu' fun j h1 h2=>?_)
        exact eqAt_Ds I r rr2 r1 r2 (in1_lt (by simpa only [PyData.depth] using hu)) j h1 h2
theorem eqAt_Ds (I:Inv X pins σ H s):∀ {A:Around} {xs ys:List V} {ds es:List PyData} {us vs:List Value},RdVs X.K H xs ds→RdVs X.K H ys es→Vals xs us→Vals ys vs→A.units+PyData.depthAll ds<cLine→∀ j (h1:j<us.length) (h2:j<vs.length),SeqAt.EqAt A s us[j] vs[j] (eqD (ds.getD j .none) (es.getD j .none))
  | _,_,_,_,_,_,_,.nil,_,r1,_,_=>fun j h1 h2=>by cases r1; exact absurd h1 (Nat.not_lt_zero _)
  | A,_,_,_,_,_,_,@RdVs.cons _ _ x d xs ds r t,h,r1,r2,hu=>fun j h1 h2=>by
    cases h with
    | nil=>cases r2; exact absurd h2 (Nat.not_lt_zero _)
    | cons r' t' =>
      cases r1 with
      | cons ra ta =>
        cases r2 with
        | cons rb tb =>
          have hm:A.units+d.depth<cLine∧A.units+PyData.depthAll ds<cLine:=by
            simp only [PyData.depthAll] at hu
            omega
          cases j with
          | zero=>simpa using eqAt_D I r r' ra rb hm.1
          | succ j=>simpa using eqAt_Ds I t t' ta tb hm.2 j (by simpa using h1) (by simpa using h2)
end
end
end Nd
namespace Nd
open PySem PySem.Spec PyProof.Rows L2
section
variable {X:Cx} {pins:List (Addr×Obj)} {σ:L2.St} {H:Hp} {s:Shared} {K:PySem.W.Frag}
theorem rc_listsN {A:Around} {a b:Addr} {us vs:List Value} {ds es:List PyData} (p1:PlainL s.heap a us.toArray) (p2:PlainL s.heap b vs.toArray) (l1:us.length=ds.length) (l2:vs.length=es.length) (hu:A.units<cLine) (he:∀ j (h1:j<us.length) (h2:j<vs.length),SeqAt.EqAt A.in1 s us[j] vs[j] (eqD (ds.getD j .none) (es.getD j .none))):SeqAt.RcNeAt A s (.ref a) (.ref b) (!eqDs ds es):=by
  rw [← eqDs_range]
  by_cases hl:ds.length=es.length
  · have hs:us.toArray.size=vs.toArray.size:=by rw [List.size_toArray,List.size_toArray,l1,l2,hl]
    have h:=SeqAt.RcNeAt.lists (A:=A) (e:=fun j=>eqD (ds.getD j .none) (es.getD j .none)) p1.isList p2.isList hs hu (fun j h1 h2=>by simpa using he j (by simpa using h1) (by simpa using h2))
    rw [List.size_toArray,l1] at h
    rw [hl,Nat.min_self,beq_self_eq_true,Bool.and_true,← hl]
    exact h
  · have hs:(us.toArray.size != vs.toArray.size)=true:=by rw [List.size_toArray,List.size_toArray,l1,l2]; simpa using hl
    have h:=SeqAt.RcNeAt.lists_lengths (A:=A) p1.isList p2.isList hs hu
    have e0:(ds.length == es.length)=false:=by simpa using hl
    rw [e0,Bool.and_false]
    exact h
theorem rc_tuplesN {A:Around} {a b:Addr} {us vs:List Value} {ds es:List PyData} (p1:IsTup s.heap a us.toArray) (p2:IsTup s.heap b vs.toArray) (l1:us.length=ds.length) (l2:vs.length=es.length) (hu:A.units<cLine) (he:∀ j (h1:j<us.length) (h2:j<vs.length),SeqAt.EqAt A.in1 s us[j] vs[j] (eqD (ds.getD j .none) (es.getD j .none))):SeqAt.RcNeAt A s (.ref a) (.ref b) (!eqDs ds es):=by
  rw [← eqDs_range]
  have h:=SeqAt.RcNeAt.tuples (A:=A) (e:=fun j=>eqD (ds.getD j .none) (es.getD j .none)) (show s.heap.IsTuple a us.toArray from p1) (show s.heap.IsTuple b vs.toArray from p2) hu (fun j h1 h2=>by simpa using he j (by simpa using h1) (by simpa using h2))
  rw [List.size_toArray,List.size_toArray,l1,l2] at h
  exact h
end
section
variable {X:Cx}
def rEqD (K:PySem.W.Frag):R2:=fun x y H Q=>∃ d e,RdV K H x d∧RdV K H y e∧d.depth≤60∧Q (.bl (eqD d e)) H
def rNeD (K:PySem.W.Frag):R2:=fun x y H Q=>∃ d e,RdV K H x d∧RdV K H y e∧d.depth≤60∧Q (.bl (!eqD d e)) H
theorem op_eqD (hu:X.A.units+64<cLine):OpR X (compareOp .Eq) (rEqD X.K):=by
  intro pins s σ H x y v u Q I rx ry h
  obtain ⟨d,e,h1,h2,hd,q⟩:=h
  have hu':X.A.units<cLine:=by omega
  cases h1 with
  | non =>
    cases rx
    cases h2 with
    | non=>cases ry; rw [eqD] at q; exact SeqAt.RcAt.none_none _ _ _ _ ⟨.bl _,H,I,rfl,q⟩
    | bl b=>cases ry; rw [eqD] at q; exact SeqAt.RcAt.none_bool b _ _ _ _ ⟨.bl _,H,I,rfl,q⟩; all_goals simp
    | int b=>obtain ⟨t,rfl⟩:=ry; rw [eqD] at q; exact SeqAt.RcAt.none_int b t _ _ _ _ ⟨.bl _,H,I,rfl,q⟩; all_goals simp
    | str b=>obtain ⟨t,rfl⟩:=ry; rw [eqD] at q; exact SeqAt.RcAt.none_str b t _ _ _ _ ⟨.bl _,H,I,rfl,q⟩; all_goals simp
    | @lst b ys es q2 rr2=>cases ry; obtain ⟨vs,r2,p2,_⟩:=I.list q2; rw [eqD] at q; exact SeqAt.RcAt.none_list p2.isList hu' _ _ _ _ ⟨.bl _,H,I,rfl,q⟩; all_goals simp
    | @tup b ys es q2 rr2=>cases ry; obtain ⟨vs,r2,p2,_⟩:=I.tuple q2; rw [eqD] at q; exact SeqAt.RcAt.none_tuple p2 hu' _ _ _ _ ⟨.bl _,H,I,rfl,q⟩; all_goals simp
  | bl a =>
    cases rx
    cases h2 with
    | non=>cases ry; rw [eqD] at q; exact SeqAt.RcAt.bool_none a _ _ _ _ ⟨.bl _,H,I,rfl,q⟩; all_goals simp
    | bl b=>cases ry; rw [eqD] at q; exact SeqAt.RcAt.bool_bool a b _ _ _ _ ⟨.bl _,H,I,rfl,q⟩
    | int b=>obtain ⟨t,rfl⟩:=ry; rw [eqD] at q; exact SeqAt.RcAt.bool_int a b t _ _ _ _ ⟨.bl _,H,I,rfl,q⟩
    | str b=>obtain ⟨t,rfl⟩:=ry; rw [eqD] at q; exact SeqAt.RcAt.bool_str a b t _ _ _ _ ⟨.bl _,H,I,rfl,q⟩; all_goals simp
    | @lst b ys es q2 rr2=>cases ry; obtain ⟨vs,r2,p2,_⟩:=I.list q2; rw [eqD] at q; exact SeqAt.RcAt.bool_list a p2.isList hu' _ _ _ _ ⟨.bl _,H,I,rfl,q⟩; all_goals simp
    | @tup b ys es q2 rr2=>cases ry; obtain ⟨vs,r2,p2,_⟩:=I.tuple q2; rw [eqD] at q; exact SeqAt.RcAt.bool_tuple a p2 hu' _ _ _ _ ⟨.bl _,H,I,rfl,q⟩; all_goals simp
  | int a =>
    obtain ⟨t',rfl⟩:=rx
    cases h2 with
    | non=>cases ry; rw [eqD] at q; exact SeqAt.RcAt.int_none a t' _ _ _ _ ⟨.bl _,H,I,rfl,q⟩; all_goals simp
    | bl b=>cases ry; rw [eqD] at q; exact SeqAt.RcAt.int_bool a t' b _ _ _ _ ⟨.bl _,H,I,rfl,q⟩
    | int b=>obtain ⟨t,rfl⟩:=ry; rw [eqD] at q; exact SeqAt.RcAt.int_int a t' b t _ _ _ _ ⟨.bl _,H,I,rfl,q⟩
    | str b=>obtain ⟨t,rfl⟩:=ry; rw [eqD] at q; exact SeqAt.RcAt.int_str a t' b t _ _ _ _ ⟨.bl _,H,I,rfl,q⟩; all_goals simp
    | @lst b ys es q2 rr2=>cases ry; obtain ⟨vs,r2,p2,_⟩:=I.list q2; rw [eqD] at q; exact SeqAt.RcAt.int_list a t' p2.isList hu' _ _ _ _ ⟨.bl _,H,I,rfl,q⟩; all_goals simp
    | @tup b ys es q2 rr2=>cases ry; obtain ⟨vs,r2,p2,_⟩:=I.tuple q2; rw [eqD] at q; exact SeqAt.RcAt.int_tuple a t' p2 hu' _ _ _ _ ⟨.bl _,H,I,rfl,q⟩; all_goals simp
  | str a =>
    obtain ⟨t',rfl⟩:=rx
    cases h2 with
    | non=>cases ry; rw [eqD] at q; exact SeqAt.RcAt.str_none a t' _ _ _ _ ⟨.bl _,H,I,rfl,q⟩; all_goals simp
    | bl b=>cases ry; rw [eqD] at q; exact SeqAt.RcAt.str_bool a t' b _ _ _ _ ⟨.bl _,H,I,rfl,q⟩; all_goals simp
    | int b=>obtain ⟨t,rfl⟩:=ry; rw [eqD] at q; exact SeqAt.RcAt.str_int a t' b t _ _ _ _ ⟨.bl _,H,I,rfl,q⟩; all_goals simp
    | str b=>obtain ⟨t,rfl⟩:=ry; rw [eqD] at q; exact SeqAt.RcAt.str_str a t' b t _ _ _ _ ⟨.bl _,H,I,rfl,q⟩
    | @lst b ys es q2 rr2=>cases ry; obtain ⟨vs,r2,p2,_⟩:=I.list q2; rw [eqD] at q; exact SeqAt.RcAt.str_list a t' p2.isList hu' _ _ _ _ ⟨.bl _,H,I,rfl,q⟩; all_goals simp
    | @tup b ys es q2 rr2=>cases ry; obtain ⟨vs,r2,p2,_⟩:=I.tuple q2; rw [eqD] at q; exact SeqAt.RcAt.str_tuple a t' p2 hu' _ _ _ _ ⟨.bl _,H,I,rfl,q⟩; all_goals simp
  | @lst a xs ds qa r =>
    cases rx
    obtain ⟨us,r1,p,_⟩:=I.list qa
    cases h2 with
    | non=>cases ry; rw [eqD] at q; exact SeqAt.RcAt.list_none p.isList hu' _ _ _ _ ⟨.bl _,H,I,rfl,q⟩; all_goals simp
    | bl b=>cases ry; rw [eqD] at q; exact SeqAt.RcAt.list_bool b p.isList hu' _ _ _ _ ⟨.bl _,H,I,rfl,q⟩; all_goals simp
    | int b=>obtain ⟨t,rfl⟩:=ry; rw [eqD] at q; exact SeqAt.RcAt.list_int b t p.isList hu' _ _ _ _ ⟨.bl _,H,I,rfl,q⟩; all_goals simp
    | str b=>obtain ⟨t,rfl⟩:=ry; rw [eqD] at q; exact SeqAt.RcAt.list_str b t p.isList hu' _ _ _ _ ⟨.bl _,H,I,rfl,q⟩; all_goals simp
    | @lst b ys es q2 rr2=>cases ry; obtain ⟨vs,r2,p2,_⟩:=I.list q2; rw [eqD] at q; exact rc_lists p p2 (r1.length.symm.trans r.length) (r2.length.symm.trans rr2.length) hu' (fun j h1 h2=>eqAt_Ds I r rr2 r1 r2 (in1_lt (by simp only [PyData.depth] at hd; omega)) j h1 h2) _ _ _ _ ⟨.bl _,H,I,rfl,q⟩
    | @tup b ys es q2 rr2=>cases ry; obtain ⟨vs,r2,p2,_⟩:=I.tuple q2; rw [eqD] at q; exact SeqAt.RcAt.list_tuple p.isList p2 hu' _ _ _ _ ⟨.bl _,H,I,rfl,q⟩; all_goals simp
  | @tup a xs ds qa r =>
    cases rx
    obtain ⟨us,r1,p,_⟩:=I.tuple qa
    cases h2 with
    | non=>cases ry; rw [eqD] at q; exact SeqAt.RcAt.tuple_none p hu' _ _ _ _ ⟨.bl _,H,I,rfl,q⟩; all_goals simp
    | bl b=>cases ry; rw [eqD] at q; exact SeqAt.RcAt.tuple_bool b p hu' _ _ _ _ ⟨.bl _,H,I,rfl,q⟩; all_goals simp
    | int b=>obtain ⟨t,rfl⟩:=ry; rw [eqD] at q; exact SeqAt.RcAt.tuple_int b t p hu' _ _ _ _ ⟨.bl _,H,I,rfl,q⟩; all_goals simp
    | str b=>obtain ⟨t,rfl⟩:=ry; rw [eqD] at q; exact SeqAt.RcAt.tuple_str b t p hu' _ _ _ _ ⟨.bl _,H,I,rfl,q⟩; all_goals simp
    | @lst b ys es q2 rr2=>cases ry; obtain ⟨vs,r2,p2,_⟩:=I.list q2; rw [eqD] at q; exact SeqAt.RcAt.tuple_list p p2.isList hu' _ _ _ _ ⟨.bl _,H,I,rfl,q⟩; all_goals simp
    | @tup b ys es q2 rr2=>cases ry; obtain ⟨vs,r2,p2,_⟩:=I.tuple q2; rw [eqD] at q; exact rc_tuples p p2 (r1.length.symm.trans r.length) (r2.length.symm.trans rr2.length) hu' (fun j h1 h2=>eqAt_Ds I r rr2 r1 r2 (in1_lt (by simp only [PyData.depth] at hd; omega)) j h1 h2) _ _ _ _ ⟨.bl _,H,I,rfl,q⟩
theorem op_neD (hu:X.A.units+64<cLine):OpR X (compareOp .NotEq) (rNeD X.K):=by
  intro pins s σ H x y v u Q I rx ry h
  obtain ⟨d,e,h1,h2,hd,q⟩:=h
  have hu':X.A.units<cLine:=by omega
  cases h1 with
  | non =>
    cases rx
    cases h2 with
    | non=>cases ry; rw [eqD] at q; exact SeqAt.RcNeAt.none_none _ _ _ _ ⟨.bl _,H,I,rfl,q⟩
    | bl b=>cases ry; rw [eqD] at q; exact SeqAt.RcNeAt.none_bool b _ _ _ _ ⟨.bl _,H,I,rfl,q⟩; all_goals simp
    | int b=>obtain ⟨t,rfl⟩:=ry; rw [eqD] at q; exact SeqAt.RcNeAt.none_int b t _ _ _ _ ⟨.bl _,H,I,rfl,q⟩; all_goals simp
    | str b=>obtain ⟨t,rfl⟩:=ry; rw [eqD] at q; exact SeqAt.RcNeAt.none_str b t _ _ _ _ ⟨.bl _,H,I,rfl,q⟩; all_goals simp
    | @lst b ys es q2 rr2=>cases ry; obtain ⟨vs,r2,p2,_⟩:=I.list q2; rw [eqD] at q; exact SeqAt.RcNeAt.none_list p2.isList hu' _ _ _ _ ⟨.bl _,H,I,rfl,q⟩; all_goals simp
    | @tup b ys es q2 rr2=>cases ry; obtain ⟨vs,r2,p2,_⟩:=I.tuple q2; rw [eqD] at q; exact SeqAt.RcNeAt.none_tuple p2 hu' _ _ _ _ ⟨.bl _,H,I,rfl,q⟩; all_goals simp
  | bl a =>
    cases rx
    cases h2 with
    | non=>cases ry; rw [eqD] at q; exact SeqAt.RcNeAt.bool_none a _ _ _ _ ⟨.bl _,H,I,rfl,q⟩; all_goals simp
    | bl b=>cases ry; rw [eqD] at q; exact SeqAt.RcNeAt.bool_bool a b _ _ _ _ ⟨.bl _,H,I,rfl,q⟩
    | int b=>obtain ⟨t,rfl⟩:=ry; rw [eqD] at q; exact SeqAt.RcNeAt.bool_int a b t _ _ _ _ ⟨.bl _,H,I,rfl,q⟩
    | str b=>obtain ⟨t,rfl⟩:=ry; rw [eqD] at q; exact SeqAt.RcNeAt.bool_str a b t _ _ _ _ ⟨.bl _,H,I,rfl,q⟩; all_goals simp
    | @lst b ys es q2 rr2=>cases ry; obtain ⟨vs,r2,p2,_⟩:=I.list q2; rw [eqD] at q; exact SeqAt.RcNeAt.bool_list a p2.isList hu' _ _ _ _ ⟨.bl _,H,I,rfl,q⟩; all_goals simp
    | @tup b ys es q2 rr2=>cases ry; obtain ⟨vs,r2,p2,_⟩:=I.tuple q2; rw [eqD] at q; exact SeqAt.RcNeAt.bool_tuple a p2 hu' _ _ _ _ ⟨.bl _,H,I,rfl,q⟩; all_goals simp
  | int a =>
    obtain ⟨t',rfl⟩:=rx
    cases h2 with
    | non=>cases ry; rw [eqD] at q; exact SeqAt.RcNeAt.int_none a t' _ _ _ _ ⟨.bl _,H,I,rfl,q⟩; all_goals simp
    | bl b=>cases ry; rw [eqD] at q; exact SeqAt.RcNeAt.int_bool a t' b _ _ _ _ ⟨.bl _,H,I,rfl,q⟩
    | int b=>obtain ⟨t,rfl⟩:=ry; rw [eqD] at q; exact SeqAt.RcNeAt.int_int a t' b t _ _ _ _ ⟨.bl _,H,I,rfl,q⟩
    | str b=>obtain ⟨t,rfl⟩:=ry; rw [eqD] at q; exact SeqAt.RcNeAt.int_str a t' b t _ _ _ _ ⟨.bl _,H,I,rfl,q⟩; all_goals simp
    | @lst b ys es q2 rr2=>cases ry; obtain ⟨vs,r2,p2,_⟩:=I.list q2; rw [eqD] at q; exact SeqAt.RcNeAt.int_list a t' p2.isList hu' _ _ _ _ ⟨.bl _,H,I,rfl,q⟩; all_goals simp
    | @tup b ys es q2 rr2=>cases ry; obtain ⟨vs,r2,p2,_⟩:=I.tuple q2; rw [eqD] at q; exact SeqAt.RcNeAt.int_tuple a t' p2 hu' _ _ _ _ ⟨.bl _,H,I,rfl,q⟩; all_goals simp
  | str a =>
    obtain ⟨t',rfl⟩:=rx
    cases h2 with
    | non=>cases ry; rw [eqD] at q; exact SeqAt.RcNeAt.str_none a t' _ _ _ _ ⟨.bl _,H,I,rfl,q⟩; all_goals simp
    | bl b=>cases ry; rw [eqD] at q; exact SeqAt.RcNeAt.str_bool a t' b _ _ _ _ ⟨.bl _,H,I,rfl,q⟩; all_goals simp
    | int b=>obtain ⟨t,rfl⟩:=ry; rw [eqD] at q; exact SeqAt.RcNeAt.str_int a t' b t _ _ _ _ ⟨.bl _,H,I,rfl,q⟩; all_goals simp
    | str b=>obtain ⟨t,rfl⟩:=ry; rw [eqD] at q; exact SeqAt.RcNeAt.str_str a t' b t _ _ _ _ ⟨.bl _,H,I,rfl,q⟩
    | @lst b ys es q2 rr2=>cases ry; obtain ⟨vs,r2,p2,_⟩:=I.list q2; rw [eqD] at q; exact SeqAt.RcNeAt.str_list a t' p2.isList hu' _ _ _ _ ⟨.bl _,H,I,rfl,q⟩; all_goals simp
    | @tup b ys es q2 rr2=>cases ry; obtain ⟨vs,r2,p2,_⟩:=I.tuple q2; rw [eqD] at q; exact SeqAt.RcNeAt.str_tuple a t' p2 hu' _ _ _ _ ⟨.bl _,H,I,rfl,q⟩; all_goals simp
  | @lst a xs ds qa r =>
    cases rx
    obtain ⟨us,r1,p,_⟩:=I.list qa
    cases h2 with
    | non=>cases ry; rw [eqD] at q; exact SeqAt.RcNeAt.list_none p.isList hu' _ _ _ _ ⟨.bl _,H,I,rfl,q⟩; all_goals simp
    | bl b=>cases ry; rw [eqD] at q; exact SeqAt.RcNeAt.list_bool b p.isList hu' _ _ _ _ ⟨.bl _,H,I,rfl,q⟩; all_goals simp
    | int b=>obtain ⟨t,rfl⟩:=ry; rw [eqD] at q; exact SeqAt.RcNeAt.list_int b t p.isList hu' _ _ _ _ ⟨.bl _,H,I,rfl,q⟩; all_goals simp
    | str b=>obtain ⟨t,rfl⟩:=ry; rw [eqD] at q; exact SeqAt.RcNeAt.list_str b t p.isList hu' _ _ _ _ ⟨.bl _,H,I,rfl,q⟩; all_goals simp
    | @lst b ys es q2 rr2=>cases ry; obtain ⟨vs,r2,p2,_⟩:=I.list q2; rw [eqD] at q; exact rc_listsN p p2 (r1.length.symm.trans r.length) (r2.length.symm.trans rr2.length) hu' (fun j h1 h2=>eqAt_Ds I r rr2 r1 r2 (in1_lt (by simp only [PyData.depth] at hd; omega)) j h1 h2) _ _ _ _ ⟨.bl _,H,I,rfl,q⟩
    | @tup b ys es q2 rr2=>cases ry; obtain ⟨vs,r2,p2,_⟩:=I.tuple q2; rw [eqD] at q; exact SeqAt.RcNeAt.list_tuple p.isList p2 hu' _ _ _ _ ⟨.bl _,H,I,rfl,q⟩; all_goals simp
  | @tup a xs ds qa r =>
    cases rx
    obtain ⟨us,r1,p,_⟩:=I.tuple qa
    cases h2 with
    | non=>cases ry; rw [eqD] at q; exact SeqAt.RcNeAt.tuple_none p hu' _ _ _ _ ⟨.bl _,H,I,rfl,q⟩; all_goals simp
    | bl b=>cases ry; rw [eqD] at q; exact SeqAt.RcNeAt.tuple_bool b p hu' _ _ _ _ ⟨.bl _,H,I,rfl,q⟩; all_goals simp
    | int b=>obtain ⟨t,rfl⟩:=ry; rw [eqD] at q; exact SeqAt.RcNeAt.tuple_int b t p hu' _ _ _ _ ⟨.bl _,H,I,rfl,q⟩; all_goals simp
    | str b=>obtain ⟨t,rfl⟩:=ry; rw [eqD] at q; exact SeqAt.RcNeAt.tuple_str b t p hu' _ _ _ _ ⟨.bl _,H,I,rfl,q⟩; all_goals simp
    | @lst b ys es q2 rr2=>cases ry; obtain ⟨vs,r2,p2,_⟩:=I.list q2; rw [eqD] at q; exact SeqAt.RcNeAt.tuple_list p p2.isList hu' _ _ _ _ ⟨.bl _,H,I,rfl,q⟩; all_goals simp
    | @tup b ys es q2 rr2=>cases ry; obtain ⟨vs,r2,p2,_⟩:=I.tuple q2; rw [eqD] at q; exact rc_tuplesN p p2 (r1.length.symm.trans r.length) (r2.length.symm.trans rr2.length) hu' (fun j h1 h2=>eqAt_Ds I r rr2 r1 r2 (in1_lt (by simp only [PyData.depth] at hd; omega)) j h1 h2) _ _ _ _ ⟨.bl _,H,I,rfl,q⟩
theorem relV_inj {z z':V} {v:Value} (h:RelV z v) (h':RelV z' v):z=z':=by
  cases z <;> cases z' <;> simp only [L2.RelV] at h h' <;> first | rfl | (subst h; cases h'; rfl) | (subst h; cases h'; done) | (obtain ⟨t,rfl⟩:=h; obtain ⟨t',e⟩:=h'; cases e; rfl) | (obtain ⟨t,rfl⟩:=h; obtain ⟨t',e⟩:=h'; cases e; done) | (obtain ⟨t,rfl⟩:=h; cases h'; done) | (subst h; obtain ⟨t',e⟩:=h'; cases e)
open Classical in
noncomputable def eqVal (K:PySem.W.Frag) (H:Hp) (d:PyData) (v:Value):Bool:=if h:∃ e z,RdV K H z e∧RelV z v then eqD h.choose d else false
theorem eqVal_of {pins:List (Addr×Obj)} {σ:L2.St} {H:Hp} {s:Shared} (I:Inv X pins σ H s) {d e:PyData} {z:V} {v:Value} (h:RdV X.K H z e) (r:RelV z v):eqVal X.K H d v=eqD e d:=by
  unfold eqVal
  have hx:∃ e z,RdV X.K H z e∧RelV z v:=⟨e,z,h,r⟩
  rw [dif_pos hx]
  obtain ⟨z',h',r'⟩:=hx.choose_spec
  have ez:=relV_inj r' r
  subst ez
  rw [RdV.det I h' h]
theorem any_eqVal {pins:List (Addr×Obj)} {σ:L2.St} {H:Hp} {s:Shared} (I:Inv X pins σ H s) {d:PyData}:∀ {xs:List V} {ds:List PyData} {us:List Value},RdVs X.K H xs ds→Vals xs us→us.any (eqVal X.K H d)=ds.any fun e=>eqD e d
  | _,_,_,.nil,r=>by cases r; rfl
  | _,_,_,.cons h t,r=>by
    cases r with
    | cons r1 r2=>rw [List.any_cons,List.any_cons,eqVal_of I h r1,any_eqVal I t r2]
theorem mem_eqVal {pins:List (Addr×Obj)} {σ:L2.St} {H:Hp} {s:Shared} (I:Inv X pins σ H s) {A:Around} {x:V} {d:PyData} {u:Value} (hx:RdV X.K H x d) (rx:RelV x u):∀ {xs:List V} {ds:List PyData} {us:List Value},RdVs X.K H xs ds→Vals xs us→A.units+PyData.depthAll ds<cLine→∀ v∈us,SeqAt.EqAt A s v u (eqVal X.K H d v)
  | _,_,_,.nil,r,_=>fun v hv=>by cases r; cases hv
  | _,_,_,@RdVs.cons _ _ y e ys es h t,r,hu=>fun v hv=>by
    have hm:A.units+e.depth<cLine∧A.units+PyData.depthAll es<cLine:=by
      simp only [PyData.depthAll] at hu
      omega
    cases r with
    | cons r1 r2 =>
      rcases List.mem_cons.mp hv with rfl | hv
      · rw [eqVal_of I h r1]; exact eqAt_D I h hx r1 rx hm.1
      · exact mem_eqVal I hx rx t r2 hm.2 v hv
def rInD (K:PySem.W.Frag) (neg:Bool):R2:=fun x y H Q=>∃ p xs d ds,y=.ref p∧(SqL K H p xs∨SqT K H p xs)∧RdV K H x d∧RdVs K H xs ds∧PyData.depthAll ds≤60∧Q (.bl (if neg then !(ds.any fun e=>eqD e d) else ds.any fun e=>eqD e d)) H
theorem op_inD (hu:X.A.units+64<cLine):OpR X (compareOp .In) (rInD X.K false):=by
  intro pins s σ H x y v u Q I rx ry h
  obtain ⟨p,xs,d,ds,rfl,hq,hx,hs,hd,q⟩:=h
  cases ry
  have hu1:X.A.in1.units+PyData.depthAll ds<cLine:=by have:=in1_units X.A; omega
  rcases hq with hq | hq
  · obtain ⟨its,r,pl,hz⟩:=I.list hq
    refine SeqAt.in_listAt (eqVal X.K H d) pl.isList (fun w hw=>mem_eqVal I hx rx hs r hu1 w (by simpa using hw)) ⟨.bl _,H,I,rfl,?_⟩
    rw [show its.toArray.any (eqVal X.K H d)=its.any (eqVal X.K H d) by simp,any_eqVal I hs r]
    exact q
  · obtain ⟨its,r,pl,hz⟩:=I.tuple hq
    refine SeqAt.in_tupleAt (eqVal X.K H d) pl (fun w hw=>mem_eqVal I hx rx hs r hu1 w (by simpa using hw)) ⟨.bl _,H,I,rfl,?_⟩
    rw [show its.toArray.any (eqVal X.K H d)=its.any (eqVal X.K H d) by simp,any_eqVal I hs r]
    exact q
theorem op_notInD (hu:X.A.units+64<cLine):OpR X (compareOp .NotIn) (rInD X.K true):=by
  intro pins s σ H x y v u Q I rx ry h
  obtain ⟨p,xs,d,ds,rfl,hq,hx,hs,hd,q⟩:=h
  cases ry
  have hu1:X.A.in1.units+PyData.depthAll ds<cLine:=by have:=in1_units X.A; omega
  rcases hq with hq | hq
  · obtain ⟨its,r,pl,hz⟩:=I.list hq
    refine SeqAt.notIn_listAt (eqVal X.K H d) pl.isList (fun w hw=>mem_eqVal I hx rx hs r hu1 w (by simpa using hw)) ⟨.bl _,H,I,rfl,?_⟩
    rw [show its.toArray.any (eqVal X.K H d)=its.any (eqVal X.K H d) by simp,any_eqVal I hs r]
    exact q
  · obtain ⟨its,r,pl,hz⟩:=I.tuple hq
    refine SeqAt.notIn_tupleAt (eqVal X.K H d) pl (fun w hw=>mem_eqVal I hx rx hs r hu1 w (by simpa using hw)) ⟨.bl _,H,I,rfl,?_⟩
    rw [show its.toArray.any (eqVal X.K H d)=its.any (eqVal X.K H d) by simp,any_eqVal I hs r]
    exact q
end
end Nd
namespace Nd
open PySem PySem.Spec PyProof.Rows L2
def Ite (K:PySem.W.Frag) (a:Addr):It :=
  ⟨fun i H=>∃ xs x,SqL K H a xs∧xs[i]? = some x,fun i H x H'=>∃ p y,x=.ref p∧H p=none∧H'=upd H p (.tup [.int i,y])∧∀ xs,SqL K H a xs→xs[i]? = some y,fun i H=>∃ xs,SqL K H a xs∧xs.length≤i⟩
section
variable {X:Cx} {pins:List (Addr×Obj)} {σ:L2.St} {H:Hp} {s:Shared} {h':Heap}
theorem turnedL {t':Nat} {fp:List Addr} (I:Inv X pins σ H s) (k:∀ b o,b∉fp→s.heap.get? b=some o→h'.get? b=some o) (hf:∀ b∈fp,FpOk X pins H b):Inv X pins σ H { s with heap:=h',toks:=t' }:=by
  have nit:∀ b u,H b=some u→b∉fp:=fun b u e z=>by rw [(hf b z).1] at e; cases e
  refine I.step (g':=s.gens) (d':=s.drawn) (ch:=fp) (fun b hb=>?_) (fun b o _ _ hc e _=>k b o hc e) (fun b o _ _ hc e _=>⟨o.slots,k b o hc e⟩) (fun _ _ _ _ n=>n)
    (fun b o hc e=>⟨o,k b o hc e⟩) (fun _ _ e=>e) (fun _ _ _ e=>e) (fun b ps e=>⟨#[],by rw [e]; simp⟩) (fun m hm=>?_) (fun b u e=>?_) I.bare
  · obtain ⟨_,f1,_,f3,f4,f5⟩:=hf b hb
    exact ⟨f3,f1,f4,f5⟩
  · obtain ⟨o,es,ep,ho,r⟩:=hm
    exact ⟨o,es,ep,k _ o (fun z=>(hf _ z).2.1 rfl) ho,r⟩
  · refine (I.hok b u e).stay (fun c v hc q=>k c v ?_ q) (fun _ q=>q) fun _ _ q=>q
    rcases hc with z | z
    · rw [z]; exact nit b u e
    · exact nit c _ z
end
theorem turn_enum {P:Program} {w:World} {K:PySem.W.Frag} {elts:List Expr} {k:Nat} {pos:Pos} (a e it:Addr) (ne:e≠it):Turn P w K (.Tuple elts k pos) (Ite K a) [e,it] e (fun i h=>(∃ old,IsEnum h e it ((i:Nat):Int) old)∧h.IsListIter it a i) where
  mem:=List.mem_cons_self
  obj:=fun i h st b hb=>by
    obtain ⟨⟨old,he⟩,o,e1,c,d⟩:=st
    rcases List.mem_cons.mp hb with z | z
    · subst z
      exact ⟨_,he,fun v z=>by cases z⟩
    · rw [List.mem_singleton.mp z]
      exact ⟨o,e1,fun v z=>by rw [d] at z; cases z⟩
  keep:=fun i h h' st kp=>⟨let ⟨old,he⟩:=st.1; ⟨old,kp e List.mem_cons_self _ he⟩,st.2.at fun o q=>kp it (List.mem_cons_of_mem _ List.mem_cons_self) o q⟩
  item:=by
    intro X hP hw hK hc i pins s σ H E I hf st hg
    subst hP hw hK
    obtain ⟨xs,x,hq,hx⟩:=hg
    obtain ⟨its,rv,p,hz⟩:=I.list hq
    obtain ⟨u,hu,ru⟩:=rv.get hx
    obtain ⟨⟨old,he⟩,hit⟩:=st
    have el:e<s.heap.objs.size:=Heap.lt_size he
    have il:it<s.heap.objs.size:=by obtain ⟨_,q,_⟩:=hit; exact Heap.lt_size q
    refine wpAny_pyNext_enum_item he hit p.isList (x:=u) (by simpa using hu) ne fun h1 ho hit1 hT hsz hk=>⟨_,rfl,wpAny_letOwnedTupleGo_enum ho fun h2 he2 hs2=>?_⟩
    have hs2':Heap.SameBut e h1 h2:=hs2
    -- the pair laid,then the iterators turned
    have I1:Inv X pins σ (upd H s.heap.objs.size (.tup [.int i,x])) { s with heap:=s.heap.push { cls:=.type "tuple",data:=.seq #[.int i s.toks,u] } } :=
      I.laid (t':=s.toks) (fun b o q=>Heap.get?_push_of_some _ q) (Nat.le_refl _) ⟨by show 2≤sizeLine; decide,[.int i s.toks,u],.cons ⟨_,rfl⟩ (.cons ru .nil),_,Heap.get?_push_size _ rfl,rfl,0,rfl⟩
    have nT:∀ b∈[e,it],b≠s.heap.objs.size:=fun b hb=>by
      rcases List.mem_cons.mp hb with z | z
      · rw [z]; exact Nat.ne_of_lt el
      · rw [List.mem_singleton.mp z]; exact Nat.ne_of_lt il
    have fr:∀ b∈[e,it],(upd H s.heap.objs.size (.tup [.int i,x])) b=none:=fun b hb=>by rw [upd_ne (nT b hb)]; exact (hf b hb).1
    refine ⟨.ref s.heap.objs.size,_,turnedL (fp:=[e,it]) (s:={ s with heap:=s.heap.push { cls:=.type "tuple",data:=.seq #[.int i s.toks,u] } }) (h':=h2) (t':=s.toks+1) I1 (fun b o hb q=>?_) (fun b hb=>⟨fr b hb,(hf b hb).2⟩),rfl,⟨_,x,rfl,I.hok.fresh (Nat.le_refl _),rfl,fun ys hy=>by rw [I.list_inj hy hq]; exact hx⟩,⟨⟨u,?_⟩,?_⟩,fr⟩
    · have nbe:b≠e:=fun z=>hb (by rw [z]; exact List.mem_cons_self)
      have nbi:b≠it:=fun z=>hb (by rw [z]; exact List.mem_cons_of_mem _ List.mem_cons_self)
      refine (hs2'.2 b nbe).trans ?_
      by_cases hbT:b=s.heap.objs.size
      · subst hbT
        have q':=(Heap.get?_push_size s.heap (o:={ cls:=.type "tuple",data:=.seq #[.int i s.toks,u] }) rfl).symm.trans q
        rw [hT]
        exact q'
      · refine hk b o nbe nbi ?_
        have q0:(s.heap.push { cls:=.type "tuple",data:=.seq #[.int i s.toks,u] }).get? b=some o:=q
        rcases Heap.get?_push_cases q0 with z | z
        · exact absurd z.1 hbT
        · exact z
    · have : ((i+1:Nat):Int)=(i:Int)+1:=by omega
      rw [this]
      exact he2
    · exact hit1.at fun o q=>(hs2'.2 it (Ne.symm ne)).trans q
  done:=by
    intro X hP hw hK hc i pins s σ H E I hf st hg
    subst hP hw hK
    obtain ⟨xs,hq,hx⟩:=hg
    obtain ⟨its,rv,p,hz⟩:=I.list hq
    obtain ⟨⟨old,he⟩,hit⟩:=st
    have hl:=rv.length
    exact wpAny_pyNext_enum_end (I.ok.hd hc) he hit p.isList (by simp; omega) fun h1 eb=>⟨rfl,turnedL (fp:=[e,it]) (t':=s.toks) I (fun b o hb q=>eb b o (fun z=>hb (by rw [z]; exact List.mem_cons_of_mem _ List.mem_cons_self)) q) hf⟩
  self:=fun _ _ _ _ _ st h=>let ⟨_,he⟩:=st.1; wpAny_pyIter_enum he h
section
variable {X:Cx}
def iEnum (K:PySem.W.Frag) (ta:TA):TI:=fun σ H R=>ta σ H fun vs H1=>∃ a,vs=[.ref a]∧(∃ xs,SqL K H1 a xs)∧R (Ite K a) H1
theorem pi_enum {elts:List Expr} {k:Nat} {tp:Pos} {a:Expr} {ta:TA} {p pos:Pos} (hg:Gl X "enumerate") (hm:X.mg "enumerate" = none) (ha:PA X [a] ta) (hs:starEach [a] X.env=[(false,eval a X.env)]:=by rfl):PI X (.Tuple elts k tp) (.Call (.Name "enumerate" p) [a] [] pos) (iEnum X.K ta):=by
  intro pins s σ H R I h
  refine Call_ (ld_blt I hg hm (u:=.type "enumerate") (by decide +kernel) (PyProof.Rows.callWith_type1 (thn (ha pos pins s σ H _ I h) fun us s1 ⟨vs,H1,I1,r1,q1⟩=>?_) hs rfl))
  obtain ⟨l,e,⟨xs,hq⟩,q⟩:=q1
  subst e
  obtain ⟨u,rfl,ru⟩:=vals1 r1
  cases ru
  obtain ⟨its,rv,pl,hz⟩:=I1.list hq
  refine call_enumerate_list pl.isList fun h2 he hit hsz hk=>wpAny_pyIter_enum he ?_
  have fr:∀ b∈[s1.heap.objs.size+1,s1.heap.objs.size],FpOk X pins H1 b:=fun b hb=>by
    rcases List.mem_cons.mp hb with z | z
    · rw [z]; exact I1.fpOk (Nat.le_succ _) (I1.hok.fresh (Nat.le_succ _))
    · rw [List.mem_singleton.mp z]; exact I1.fpOk (Nat.le_refl _) (I1.hok.fresh (Nat.le_refl _))
  exact ⟨s1.heap.objs.size+1,[s1.heap.objs.size+1,s1.heap.objs.size],_,_,H1,rfl,I1.kept (t':=s1.toks) hk,turn_enum l _ _ (Nat.succ_ne_self _),⟨⟨_,he⟩,hit⟩,fr,q⟩
end
end Nd
namespace Nd
open PySem PySem.Spec PyProof.Rows L2
section
variable {X:Cx}
def CompW2 (K:PySem.W.Frag) (J:It) (js:List Nat) (tc:TT) (te:TE) (σ:L2.St) (H1:Hp) (Q:VK):Prop:=∀ D,H1 D=none→∃ W:Nat→Nat→Hp→Prop,(∃ m,W 0 m (upd H1 D (.lst [])))∧∀ i m H,W i m H →
  (J.stop i H∧Q (.ref D) H)∨(J.go i H∧∀ x H',J.yld i H x H'→∃ (t:Addr) (w1 w2:V),x=.ref t∧SqT K H' t [w1,w2]∧∃ (N1:Hp→Prop) (N2:VK),(∀ H2,N1 H2→∃ m',m'<m∧W (i+1) m' H2) ∧
    (∀ y H3,N2 y H3→∃ acc,H3 D=some (.lst acc)∧acc.length<sizeLine∧∃ m',m'<m∧W (i+1) m' (upd H3 D (.lst (acc++[y])))) ∧
    tc (some w1::some w2::frees σ js) H' fun c H2=>if c=true then te (some w1::some w2::frees σ js) H2 N2 else N1 H2)
def tComp2 (K:PySem.W.Frag) (wi:TI) (js:List Nat) (tc:TT) (te:TE):TE:=fun σ H Q=>wi σ H fun J H1=>CompW2 K J js tc te σ H1 Q
theorem pe_comp2 {elt iter:Expr} {x x2:Str} {px px2 pt pos:Pos} {kt:Nat} {ifs:List Expr} {scope:Scope} {cl:List (Str×Addr)} {ys:List Str} {js:List Nat} {wi:TI} {tc:TT} {te:TE} (C:CompScope X scope cl x ys js) (own2:OwnN scope x2) (nd2:(x::x2::ys).Nodup) (hc:X.calm=true) (hi:PI X (.Tuple [.Name x px,.Name x2 px2] kt pt) iter wi) (ht:∀ fp s H,PTs (cxComp X scope cl (x::x2::ys) fp s H) ifs tc) (he:∀ fp s H,PE (cxComp X scope cl (x::x2::ys) fp s H) elt te) (hs:∀ x,foldedSetIterable iter X.env x=pure x:=by intro _; rfl):PE X (.ListComp elt [⟨.Tuple [.Name x px,.Name x2 px2] kt pt,iter,ifs,0⟩] scope pos) (tComp2 X.K wi js tc te):=by
  intro pins s σ H Q I h
  rw [eval_ListComp]
  refine wpAny_comprehension_free (use:=none) rfl hs C.clos C.kind C.locs (thn (hi pins s σ H _ I h) fun v s1 h1=>thn h1 fun itv s2 h2=>?_)
  obtain ⟨it,fp,tn,J,H2,e,I2,T,st2,f2,q2⟩:=h2
  subst e
  have fD:H2 s2.heap.objs.size=none:=I2.hok.fresh (Nat.le_refl _)
  obtain ⟨W,⟨m0,w0⟩,turn⟩:=q2 s2.heap.objs.size fD
  refine wpAny_newObj_type ?_
  have I3:Inv X pins σ (upd H2 s2.heap.objs.size (.lst [])) { s2 with heap:=s2.heap.push { cls:=.type "list",dict:=none,data:=.seq ([]:List Value).toArray } } :=
    I2.laid (t':=s2.toks) (fun b u q=>Heap.get?_push_of_some _ q) (Nat.le_refl _) ⟨Nat.zero_le _,[],0,.nil,Heap.get?_push_size _ rfl⟩
  have nfp:∀ b∈fp,b≠s2.heap.objs.size:=fun b hb z=>by
    obtain ⟨o,q,_⟩:=T.obj _ _ st2 b hb
    have:=Heap.lt_size q
    rw [z] at this
    exact absurd this (Nat.lt_irrefl _)
  have f3:∀ b∈fp,FpOk X pins (upd H2 s2.heap.objs.size (.lst [])) b:=fun b hb=>⟨by rw [upd_ne (nfp b hb)]; exact (f2 b hb).1,(f2 b hb).2⟩
  generalize hS3:({ s2 with heap:=s2.heap.push { cls:=.type "list",dict:=none,data:=.seq ([]:List Value).toArray } }:Shared)=s3 at I3
  have st3:tn 0 s3.heap:=T.keep 0 _ _ st2 fun b hb o q=>by rw [← hS3]; exact Heap.get?_push_of_some _ q
  have o3:∀ b∈fp,∃ o,s3.heap.get? b=some o:=fun b hb=>let ⟨o,q,_⟩:=T.obj _ _ st3 b hb; ⟨o,q⟩
  show wpAny _ _ (newFunctionEnv scope X.env.globals cl [] X.env.qual none .none (some X.env)) _ _ _
  refine new_block C fun h4 hns4 keep4 new4=>?_
  have I4:∀ tk,Inv (cxComp X scope cl (x::x2::ys) fp s3 (upd H2 s2.heap.objs.size (.lst []))) [] (none::none::frees σ js) (upd H2 s2.heap.objs.size (.lst [])) { s3 with heap:=h4,toks:=tk }:=fun tk=>comp_start (pre:=[x,x2]) C I3 f3 o3 hns4 keep4 new4
  have st4:tn 0 h4:=T.keep 0 _ _ st3 fun b hb o q=>keep4 b o q
  generalize hX':cxComp X scope cl (x::x2::ys) fp s3 (upd H2 s2.heap.objs.size (.lst []))=X' at I4
  have eP:X'.prog=X.prog:=by rw [← hX']; rfl
  have eW:X'.w=X.w:=by rw [← hX']; rfl
  have eK:X'.K=X.K:=by rw [← hX']; rfl
  have eA:X'.A=X.A:=by rw [← hX']; rfl
  have eC:X'.calm=true:=by rw [← hX']; exact hc
  have stat:∀ {H':Hp},(∀ b∈fp,H' b=none)→∀ b∈fp,FpOk X' [] H' b:=fun {H'} hn b hb=>by
    have ok:=(I4 0).ok
    have hex:b∈X'.ex:=by rw [← hX']; exact hb
    exact ⟨hn b hb,(ok.exf b hex).1,ok.exfs b hex,.inl hex,(ok.exf b hex).2,fun p hp=>by rw [← hX'] at hp; cases (show p∈([]:List (Addr×Obj)) from hp)⟩
  have loop:∀ s5:Shared,s5={ s3 with heap:=h4,toks:=s3.toks+([]:List (Str×Value)).length } →
      codeAny (model X.prog X.w) X.A (.compLoop (.ListComp elt [⟨.Tuple [.Name x px,.Name x2 px2] kt pt,iter,ifs,0⟩] scope pos) 0 (.ref it) (.ref s2.heap.objs.size) (compEnvC scope (cellsFrom (s3.heap.objs.size+1) scope.names cl) s3.heap.objs.size X.env))
        (compPost (model X.prog X.w) X.A X.xe none (EP X pins σ Q) (.ref s2.heap.objs.size) s3.heap.objs.size) s5:=by
    rintro s5 rfl
    refine comp_turns (fun n s'=>∃ i o o2 H',Inv X' [] (o::o2::frees σ js) H' s'∧tn i s'.heap∧(∀ b∈fp,H' b=none)∧W i n H') ?_ m0
      ⟨0,none,none,_,I4 _,st4,fun b hb=>(f3 b hb).1,w0⟩
    rintro n s6 ⟨i,o,o2,H6,I6,st6,fr6,w6⟩
    rcases turn i n H6 w6 with ⟨stop,qn⟩ | ⟨go,step⟩
    · have hd:=T.done X' eP eW eK eC i [] s6 _ H6 (fun _ _=>False) I6 (stat fr6) st6 stop
      rw [eA] at hd
      refine thn hd fun r s7 ⟨hr,I7⟩=>?_
      subst hr
      obtain ⟨m7,hn7,_⟩:=I7.loc
      have hn7':s7.heap.Ns s3.heap.objs.size m7:=by rw [← hX'] at hn7; exact hn7
      refine ⟨m7,hn7',fun h8 hs8=>?_⟩
      have I7f:H6 s3.heap.objs.size=none:=by have:=I7.free; rw [← hX'] at this; exact this
      have b7:Un (frs X.stack) fp (upd H2 s2.heap.objs.size (.lst [])) H6 s3.heap s7.heap:=by have:=I7.base; rw [← hX'] at this; exact this
      have ne8:∀ b o,s3.heap.get? b=some o→b≠s3.heap.objs.size:=fun b o q=>Nat.ne_of_lt (Heap.lt_size q)
      have u8:Un (frs X.stack) fp (upd H2 s2.heap.objs.size (.lst [])) H6 s3.heap h8:=by
        refine ⟨fun b o q n hb hx=>(hs8.2 b (ne8 b o q)).trans (b7.keep b o q n hb hx),fun b o q n hb hx=>?_,b7.free,fun b o q hx=>?_,b7.tups,b7.frzs,b7.tbls⟩
        · obtain ⟨sl,z⟩:=b7.slot b o q n hb hx
          exact ⟨sl,(hs8.2 b (ne8 b o q)).trans z⟩
        · obtain ⟨o',z⟩:=b7.there b o q hx
          exact ⟨o',(hs8.2 b (ne8 b o q)).trans z⟩
      have hok8:HOk X.prog X.w H6 h8:=fun b ob e=>by
        have hk7:=I7.hok
        rw [eP,eW] at hk7
        refine (hk7 b ob e).stay (fun c w' hcc q=>(hs8.2 c ?_).trans q) (fun _ q=>q) fun _ _ q=>q
        rintro rfl
        rcases hcc with rfl | hcc
        · rw [I7f] at e; cases e
        · rw [I7f] at hcc; cases hcc
      have os7:s7.os=s3.os:=by have:=I7.os; rw [← hX'] at this; exact this
      exact ⟨.ref s2.heap.objs.size,H6,I3.call' (s':={ s7 with heap:=h8 }) (ch:=fp) os7 u8 hok8 I7.bare (fun b hb=>⟨(f3 b hb).2.2.2.1,(f3 b hb).2.1,(f3 b hb).2.2.2.2.1,(f3 b hb).2.2.2.2.2⟩),rfl,qn⟩
    · have hit:=T.item X' eP eW eK eC i [] s6 _ H6 (fun _ _=>False) I6 (stat fr6) st6 go
      rw [eA] at hit
      refine thn hit fun r s7 ⟨u,hr,h7⟩=>?_
      subst hr
      refine thn h7 fun _ s8 ⟨y,H8,I8,r8,y8,st8,fr8⟩=>?_
      have I8':=I8.pinned (stat fr8) (T.obj _ _ st8)
      obtain ⟨tp,w1,w2,ey,hsq,N1,N2,hN1,hN2,hst⟩:=step y H8 y8
      have again:∀ {H9:Hp} {s9:Shared} {m':Nat},Inv X' ([]++pinsAt fp s8.heap) (some w1::some w2::frees σ js) H9 s9→m'<n→W (i+1) m' H9→∃ m,m<n∧∃ i o o2 H',Inv X' [] (o::o2::frees σ js) H' s9∧tn i s9.heap∧(∀ b∈fp,H' b=none)∧W i m H':=fun {H9 s9 m'} I9 hm w9=>by
        refine ⟨m',hm,i+1,some w1,some w2,H9,I9.unpinned,T.keep _ _ _ st8 fun b hb o e=>(I9.pin (b,o) (List.mem_append_right _ (List.mem_append_right _ (mem_pinsAt hb e)))).1,fun b hb=>?_,w9⟩
        obtain ⟨o,e,_⟩:=T.obj _ _ st8 b hb
        exact (I9.pin (b,o) (List.mem_append_right _ (List.mem_append_right _ (mem_pinsAt hb e)))).2.1
      subst hX'
      have g1:PG (cxComp X scope cl (x::x2::ys) fp s3 (upd H2 s2.heap.objs.size (.lst []))) (.Tuple [.Name x px,.Name x2 px2] kt pt) (gTup X.K 2 (gCons (gName 0) (gCons (gName 1) gNil))) :=
        pg_tup (X:=cxComp X scope cl (x::x2::ys) fp s3 (upd H2 s2.heap.objs.size (.lst []))) hc (pgs_cons (pg_name (i:=0) (x:=x) nd2 rfl (own_loc C.own) (own_fn C.own)) (pgs_cons (pg_name (i:=1) (x:=x2) nd2 rfl (own_loc own2) (own_fn own2)) pgs_nil))
      refine thn (g1 _ s8 _ H8 y u (fun σ' H'=>σ'=some w1::some w2::frees σ js∧H'=H8) I8' r8 ⟨tp,[w1,w2],ey,hsq,rfl,_,_,rfl,_,_,rfl,rfl,rfl,rfl⟩) fun _ s9 ⟨σ9,H9,I9,e9,e9'⟩=>?_
      subst e9 e9'
      refine thn (ht fp s3 _ _ s9 _ _ _ I9 hst) fun ok s10 ⟨H10,I10,q10⟩=>?_
      cases ok with
      | false =>
        rw [if_neg Bool.false_ne_true] at q10 ⊢
        obtain ⟨m',hm,w10⟩:=hN1 _ q10
        exact again I10 hm w10
      | true =>
        rw [if_pos rfl] at q10 ⊢
        refine thn (he fp s3 _ _ s10 _ _ _ I10 q10) fun z s11 ⟨vz,H11,I11,r11,q11⟩=>?_
        obtain ⟨acc,ha,hz,m',hm,w11⟩:=hN2 _ _ q11
        refine thn (mt_append _ s11 _ H11 (.ref s2.heap.objs.size) [vz] (.ref s2.heap.objs.size) [z] (fun _ H'=>H'=upd H11 s2.heap.objs.size (.lst (acc++[vz]))) I11 rfl (.cons r11 .nil) ⟨_,acc,vz,rfl,rfl,ha,hz,rfl⟩) fun _ s12 ⟨_,H12,I12,_,e12⟩=>?_
        subst e12
        exact again I12 hm w11
  exact codeAny_compStart_list (loop _ rfl) (T.self X.A 0 _ _ _ st4 (loop _ rfl))
end
end Nd
namespace Nd
open PySem PySem.Spec PyProof.Rows L2
section
variable {X:Cx}
theorem ps_setC {elt iter:Expr} {x y0:Str} {px py pos spos:Pos} {i0:Nat} {ifs:List Expr} {scope:Scope} {cl:List (Str×Addr)} {ys:List Str} {js:List Nat} {wi:TI} {tc:TT} {te:TE} (hN:X.N.Nodup) (hi0:X.N[i0]? = some y0) (hy0:X.env.scope.names.lookup y0=some .local) (C:CompScope X scope cl x ys js) (hc:X.calm=true) (hi:PI X (.Name x px) iter wi) (ht:∀ fp s H,PTs (cxComp X scope cl (x::ys) fp s H) ifs tc) (he:∀ fp s H,PE (cxComp X scope cl (x::ys) fp s H) elt te) (hs:∀ x,foldedSetIterable iter X.env x=pure x:=by intro _; rfl) (hsw:swapsWith (.ListComp elt [⟨.Name x px,iter,ifs,0⟩] scope pos) (some (.Name y0 py)) spos.line X.env=pure true:=by rfl):PS X (.Assign [.Name y0 py] (.ListComp elt [⟨.Name x px,iter,ifs,0⟩] scope pos) spos) (tAsg (tComp wi js tc te) (gName i0)):=by
  intro pins s σ H De I h
  have h:tComp wi js tc te σ H fun v H1=>De.nx (σ.set i0 (some v)) H1:=h
  rw [exec_Assign_Name_used _ _ _ _ hsw]
  refine wpAny_bind (wpAny_standAt (wpAny_bind ?_))
  show wpAny _ X.A (do let _ ← comprehension (.ListComp elt [⟨.Name x px,iter,ifs,0⟩] scope pos) scope X.env _ (newList []) false (eval iter X.env) (some (assign (.Name y0 py) X.env))) _ _ s
  refine wpAny_bind (wpAny_mono (wpAny_comprehension_free (use:=some (assign (.Name y0 py) X.env)) (Q:=fun _ s'=>SP X pins De .next s') rfl hs C.clos C.kind C.locs (thn (hi pins s σ H _ I h) fun v s1 h1=>thn h1 fun itv s2 h2=>?_)) (fun _ s' hq=>wpAny_pure (wpAny_pure hq)) fun _ _ e=>e)
  obtain ⟨it,fp,tn,J,H2,e,I2,T,st2,f2,q2⟩:=h2
  subst e
  have fD:H2 s2.heap.objs.size=none:=I2.hok.fresh (Nat.le_refl _)
  obtain ⟨W,⟨m0,w0⟩,turn⟩:=q2 s2.heap.objs.size fD
  refine wpAny_newObj_type ?_
  have I3:Inv X pins σ (upd H2 s2.heap.objs.size (.lst [])) { s2 with heap:=s2.heap.push { cls:=.type "list",dict:=none,data:=.seq ([]:List Value).toArray } } :=
    I2.laid (t':=s2.toks) (fun b u q=>Heap.get?_push_of_some _ q) (Nat.le_refl _) ⟨Nat.zero_le _,[],0,.nil,Heap.get?_push_size _ rfl⟩
  have nfp:∀ b∈fp,b≠s2.heap.objs.size:=fun b hb z=>by
    obtain ⟨o,q,_⟩:=T.obj _ _ st2 b hb
    have:=Heap.lt_size q
    rw [z] at this
    exact absurd this (Nat.lt_irrefl _)
  have f3:∀ b∈fp,FpOk X pins (upd H2 s2.heap.objs.size (.lst [])) b:=fun b hb=>⟨by rw [upd_ne (nfp b hb)]; exact (f2 b hb).1,(f2 b hb).2⟩
  generalize hS3:({ s2 with heap:=s2.heap.push { cls:=.type "list",dict:=none,data:=.seq ([]:List Value).toArray } }:Shared)=s3 at I3
  have st3:tn 0 s3.heap:=T.keep 0 _ _ st2 fun b hb o q=>by rw [← hS3]; exact Heap.get?_push_of_some _ q
  have o3:∀ b∈fp,∃ o,s3.heap.get? b=some o:=fun b hb=>let ⟨o,q,_⟩:=T.obj _ _ st3 b hb; ⟨o,q⟩
  show wpAny _ _ (newFunctionEnv scope X.env.globals cl [] X.env.qual none .none (some X.env)) _ _ _
  refine new_block C fun h4 hns4 keep4 new4=>?_
  have I4:∀ tk,Inv (cxComp X scope cl (x::ys) fp s3 (upd H2 s2.heap.objs.size (.lst []))) [] (none::frees σ js) (upd H2 s2.heap.objs.size (.lst [])) { s3 with heap:=h4,toks:=tk }:=fun tk=>comp_start (pre:=[x]) C I3 f3 o3 hns4 keep4 new4
  have st4:tn 0 h4:=T.keep 0 _ _ st3 fun b hb o q=>keep4 b o q
  generalize hX':cxComp X scope cl (x::ys) fp s3 (upd H2 s2.heap.objs.size (.lst []))=X' at I4
  have eP:X'.prog=X.prog:=by rw [← hX']; rfl
  have eW:X'.w=X.w:=by rw [← hX']; rfl
  have eK:X'.K=X.K:=by rw [← hX']; rfl
  have eA:X'.A=X.A:=by rw [← hX']; rfl
  have eC:X'.calm=true:=by rw [← hX']; exact hc
  have stat:∀ {H':Hp},(∀ b∈fp,H' b=none)→∀ b∈fp,FpOk X' [] H' b:=fun {H'} hn b hb=>by
    have ok:=(I4 0).ok
    have hex:b∈X'.ex:=by rw [← hX']; exact hb
    exact ⟨hn b hb,(ok.exf b hex).1,ok.exfs b hex,.inl hex,(ok.exf b hex).2,fun p hp=>by rw [← hX'] at hp; cases (show p∈([]:List (Addr×Obj)) from hp)⟩
  have loop:∀ s5:Shared,s5={ s3 with heap:=h4,toks:=s3.toks+([]:List (Str×Value)).length } →
      codeAny (model X.prog X.w) X.A (.compLoop (.ListComp elt [⟨.Name x px,iter,ifs,0⟩] scope pos) 0 (.ref it) (.ref s2.heap.objs.size) (compEnvC scope (cellsFrom (s3.heap.objs.size+1) scope.names cl) s3.heap.objs.size X.env))
        (compPost (model X.prog X.w) X.A X.xe (some (assign (.Name y0 py) X.env)) (fun _ s'=>SP X pins De .next s') (.ref s2.heap.objs.size) s3.heap.objs.size) s5:=by
    rintro s5 rfl
    refine comp_turns (fun n s'=>∃ i o H',Inv X' [] (o::frees σ js) H' s'∧tn i s'.heap∧(∀ b∈fp,H' b=none)∧W i n H') ?_ m0
      ⟨0,none,_,I4 _,st4,fun b hb=>(f3 b hb).1,w0⟩
    rintro n s6 ⟨i,o,H6,I6,st6,fr6,w6⟩
    rcases turn i n H6 w6 with ⟨stop,qn⟩ | ⟨go,step⟩
    · have hd:=T.done X' eP eW eK eC i [] s6 _ H6 (fun _ _=>False) I6 (stat fr6) st6 stop
      rw [eA] at hd
      refine thn hd fun r s7 ⟨hr,I7⟩=>?_
      subst hr
      obtain ⟨m7,hn7,_⟩:=I7.loc
      have hn7':s7.heap.Ns s3.heap.objs.size m7:=by rw [← hX'] at hn7; exact hn7
      have I7f:H6 s3.heap.objs.size=none:=by have:=I7.free; rw [← hX'] at this; exact this
      have b7:Un (frs X.stack) fp (upd H2 s2.heap.objs.size (.lst [])) H6 s3.heap s7.heap:=by have:=I7.base; rw [← hX'] at this; exact this
      have os7:s7.os=s3.os:=by have:=I7.os; rw [← hX'] at this; exact this
      have hok7:HOk X.prog X.w H6 s7.heap:=by have:=I7.hok; rw [eP,eW] at this; exact this
      have J7:Inv X pins σ H6 s7:=I3.call' (s':=s7) (ch:=fp) os7 b7 hok7 I7.bare (fun b hb=>⟨(f3 b hb).2.2.2.1,(f3 b hb).2.1,(f3 b hb).2.2.2.2.1,(f3 b hb).2.2.2.2.2⟩)
      have fC:FpOk X pins H6 s3.heap.objs.size:=I3.fpOk (Nat.le_refl _) I7f
      obtain ⟨oC,esC,epC,hoC,rC⟩:=id hn7'
      have J8:Inv X (pins++[(s3.heap.objs.size,oC)]) σ H6 s7:=J7.pins_of fun p hp=>by
        rcases List.mem_append.mp hp with z | z
        · have q:=J7.pin p (List.mem_append_right _ z)
          exact q
        · rw [List.mem_singleton.mp z]
          exact ⟨hoC,I7f,fC.2.1,fC.2.2.1,fun v hv=>by rw [rC.1] at hv; cases hv⟩
      refine thn (pg_name (X:=X) (i:=i0) (x:=y0) (pos:=py) hN hi0 (.inl hy0) (.inr hy0) (pins++[(s3.heap.objs.size,oC)]) s7 σ H6 (.ref s2.heap.objs.size) (.ref s2.heap.objs.size) (fun σ' H'=>σ'=σ.set i0 (some (.ref s2.heap.objs.size))∧H'=H6) J8 rfl ⟨rfl,rfl⟩) fun _ s9 ⟨σ9,H9,I9,e9,e9'⟩=>?_
      subst e9 e9'
      have hoC9:=(I9.pin (s3.heap.objs.size,oC) (List.mem_append_right _ (List.mem_append_right _ List.mem_cons_self))).1
      have I9':Inv X pins (σ.set i0 (some (.ref s2.heap.objs.size))) H9 s9:=I9.pins_of fun p hp=>I9.pin p (List.mem_append_right _ (List.mem_append_left _ hp))
      refine ⟨m7,hn7'.at fun o e=>by rw [hoC] at e; cases e; exact hoC9,fun h10 hs10=>?_⟩
      exact ⟨_,H9,turnedL (t':=s9.toks) (fp:=[s3.heap.objs.size]) I9' (fun b o hb e=>(hs10.2 b (fun z=>hb (by rw [z]; exact List.mem_cons_self))).trans e) (fun b hb=>by rw [List.mem_singleton.mp hb]; exact fC),qn⟩
    · have hit:=T.item X' eP eW eK eC i [] s6 _ H6 (fun _ _=>False) I6 (stat fr6) st6 go
      rw [eA] at hit
      refine thn hit fun r s7 ⟨u,hr,h7⟩=>?_
      subst hr
      refine thn h7 fun _ s8 ⟨y,H8,I8,r8,y8,st8,fr8⟩=>?_
      have I8':=I8.pinned (stat fr8) (T.obj _ _ st8)
      obtain ⟨N1,N2,hN1,hN2,hst⟩:=step y H8 y8
      have again:∀ {H9:Hp} {s9:Shared} {m':Nat},Inv X' ([]++pinsAt fp s8.heap) (some y::frees σ js) H9 s9→m'<n→W (i+1) m' H9→∃ m,m<n∧∃ i o H',Inv X' [] (o::frees σ js) H' s9∧tn i s9.heap∧(∀ b∈fp,H' b=none)∧W i m H':=fun {H9 s9 m'} I9 hm w9=>by
        refine ⟨m',hm,i+1,some y,H9,I9.unpinned,T.keep _ _ _ st8 fun b hb o e=>(I9.pin (b,o) (List.mem_append_right _ (List.mem_append_right _ (mem_pinsAt hb e)))).1,fun b hb=>?_,w9⟩
        obtain ⟨o,e,_⟩:=T.obj _ _ st8 b hb
        exact (I9.pin (b,o) (List.mem_append_right _ (List.mem_append_right _ (mem_pinsAt hb e)))).2.1
      subst hX'
      refine thn (pg_name (i:=0) (x:=x) (pos:=px) C.nd rfl (own_loc C.own) (own_fn C.own) _ s8 _ H8 y u (fun σ' H'=>σ'=some y::frees σ js∧H'=H8) I8' r8 ⟨rfl,rfl⟩) fun _ s9 ⟨σ9,H9,I9,e9,e9'⟩=>?_
      subst e9 e9'
      refine thn (ht fp s3 _ _ s9 _ _ _ I9 hst) fun ok s10 ⟨H10,I10,q10⟩=>?_
      cases ok with
      | false =>
        rw [if_neg Bool.false_ne_true] at q10 ⊢
        obtain ⟨m',hm,w10⟩:=hN1 _ q10
        exact again I10 hm w10
      | true =>
        rw [if_pos rfl] at q10 ⊢
        refine thn (he fp s3 _ _ s10 _ _ _ I10 q10) fun z s11 ⟨vz,H11,I11,r11,q11⟩=>?_
        obtain ⟨acc,ha,hz,m',hm,w11⟩:=hN2 _ _ q11
        refine thn (mt_append _ s11 _ H11 (.ref s2.heap.objs.size) [vz] (.ref s2.heap.objs.size) [z] (fun _ H'=>H'=upd H11 s2.heap.objs.size (.lst (acc++[vz]))) I11 rfl (.cons r11 .nil) ⟨_,acc,vz,rfl,rfl,ha,hz,rfl⟩) fun _ s12 ⟨_,H12,I12,_,e12⟩=>?_
        subst e12
        exact again I12 hm w11
  exact codeAny_compStart_list (loop _ rfl) (T.self X.A 0 _ _ _ st4 (loop _ rfl))
end
end Nd
namespace Nd
open PySem L2
def rCatX (K:PySem.W.Frag):R2:=fun x y H Q=>∃ a b xs ys,x=.ref a∧y=.ref b∧SqT K H a xs∧SqT K H b ys∧xs.length+ys.length≤sizeLine∧(xs=[]→Q (.ref b) H)∧(ys=[]→Q (.ref a) H)∧(∀ p,H p=none→Q (.ref p) (upd H p (.tup (xs++ys))))
open PyProof.Rows in
theorem op_catX {X:Cx}:OpR X (binaryOp .Add) (rCatX X.K):=by
  intro pins s σ H x y v u Q I rx ry h
  obtain ⟨a,b,xs,ys,rfl,rfl,ha,hb,hz,q1,q3,q2⟩:=h
  by_cases hx:xs=[]
  · cases rx
    cases ry
    obtain ⟨its,r1,p1,_⟩:=I.tuple ha
    obtain ⟨its2,r2,p2,_⟩:=I.tuple hb
    have e1:its=[]:=r1.nil_iff.mpr hx
    subst e1
    obtain ⟨⟨c1,d1,dt1,sl1⟩,g1,k1,n1,e1⟩:=id p1
    obtain ⟨⟨c2,d2,dt2,sl2⟩,g2,k2,n2,e2⟩:=id p2
    simp only at k1 e1 k2 e2
    subst k1 e1 k2 e2
    exact concat_meets ⟨_,g1,rfl⟩ ⟨_,g2,rfl⟩ noFill_tuple_add seq_tuple_add PySem.F.slot_tuple_add PySem.F.entry_tuple_add (PySem.F.args_tuple_add_2 _ _)
      (tuple_addW0 a b _ _ n1 n2 d1 d2 sl1 sl2 rfl) ⟨g1,g2,⟨.ref b,H,I,rfl,q1 hx⟩⟩
  · exact op_catT pins s σ H (.ref a) (.ref b) v u Q I rx ry ⟨a,b,xs,ys,rfl,rfl,ha,hb,hx,hz,q3,fun _=>q2⟩
theorem strict_of:∀ {l:List Int},l.Nodup→l.Pairwise (·≤·)→l.Pairwise (· < ·)
  | [],_,_=>.nil
  | a::l,n,p=>by
    obtain ⟨h1,q1⟩:=List.pairwise_cons.mp p
    obtain ⟨m1,n1⟩:=List.nodup_cons.mp n
    refine List.pairwise_cons.mpr ⟨fun b hb=>?_,strict_of n1 q1⟩
    have:=h1 b hb
    have : a≠b:=fun z=>m1 (by rw [z]; exact hb)
    omega
end Nd
namespace Nd
open PySem PySem.Spec PyProof.Rows L2
end Nd
namespace Nd
open PySem L2
def rIs (K:PySem.W.Frag):List V→Hp→VK→Prop:=fun xs H Q=>∃ x n t b,xs=[x,.ty n]∧TyOf K H x t∧PySem.W.kitOne K t (.type n)=some b∧Q (.bl b) H
theorem isi_ok {X:Cx}:CallR X (.builtin "isinstance") (rIs X.K):=call_isinst
theorem kit_eq {K:PySem.W.Frag} {T:String}:PySem.W.kitOne K (.type T) (.type T)=some true:=by
  unfold PySem.W.kitOne
  rw [if_pos (by simp)]
theorem compScope0 {X:Cx} {scope:Scope} {x:Str} (clos:closureFor scope X.env=pure []) (nocell:∀ y∈scope.names,y.2≠.cell) (kind:scope.kind=.function) (locs:∀ y∈scope.names,y.2=.local→scope.names.lookup y.1=some .local) (own:scope.names.lookup x=some .local) (has_:(scope.names.all fun y=>!(y.2 == NameKind.free) || (([]:List (Str×Addr)).lookup y.1).isSome)=true):CompScope X scope [] x [] [] :=
  ⟨clos,.inl nocell,kind,locs,.inl own,fun _ _ h=>by simp at h,has_,List.nodup_cons.mpr ⟨List.not_mem_nil,List.nodup_nil⟩,rfl,fun k y j e1 _=>by simp at e1⟩
theorem sz {n:Nat} (h:n≤1000:=by first | decide | simp | (simp; omega)):n≤sizeLine:=Nat.le_of_lt (small1000 h)
end Nd
namespace Nd
open PySem PySem.Spec PyProof.Rows L2
end Nd
namespace Nd
open PySem PySem.Spec PyProof.Rows L2
end Nd
namespace Nd
open PySem PySem.Spec PyProof.Rows L2
end Nd
namespace Nd
open PySem PySem.Spec PyProof.Rows L2
theorem kit_bb {K:PySem.W.Frag} {T n:String} {b:Bool} (h1:(Value.type T == Value.type n)=false) (h2:PySem.W.kitMeta n=true) (h3:(fastBuiltinMro T).map (fun x=>x.contains (Value.type n))=some b):PySem.W.kitOne K (.type T) (.type n)=some b:=by
  unfold PySem.W.kitOne PySem.W.kitCls
  rw [h1,if_neg (by decide)]
  dsimp only
  rw [if_pos h2]
  exact h3
end Nd
namespace Nd
open PySem PySem.Spec PyProof.Rows L2
end Nd
namespace NdS
open PySem
theorem laid_led {mask finger moves:Nat} {led plain:Bool} {hs:Array Int} {t:SetTable} {order:Array Nat} (h:SetTable.laid mask finger moves led plain hs=some (t,order)):t.led=led∧t.mask=mask∧t.plain=plain∧t.dummies=#[]:=by
  unfold SetTable.laid at h
  cases hl:SetTable.layClean mask hs with
  | none=>rw [hl] at h; cases h
  | some owner =>
    rw [hl] at h
    cases h
    exact ⟨rfl,rfl,rfl,rfl⟩
def st (m i:Nat):Nat:=(i * 5+1) % m
def it (m:Nat):Nat→Nat→Nat
  | 0,i=>i
  | t+1,i=>it m t (st m i)
theorem it_add (m:Nat):∀ (a b i:Nat),it m (a+b) i=it m b (it m a i)
  | 0,b,i=>by rw [Nat.zero_add]; rfl
  | a+1,b,i=>by rw [Nat.add_right_comm]; exact it_add m a b (st m i)
def orb (m:Nat):Nat→Nat→List Nat
  | 0,_=>[]
  | f+1,i=>i::orb m f (st m i)
theorem mem_orb {m:Nat}:∀ {f i e:Nat},e∈orb m f i→∃ t,t<f∧it m t i=e
  | 0,_,_,h=>by cases h
  | f+1,i,e,h=>by
    rcases List.mem_cons.mp h with z | z
    · exact ⟨0,Nat.succ_pos _,z.symm⟩
    · obtain ⟨t,h1,h2⟩:=mem_orb z
      exact ⟨t+1,Nat.succ_lt_succ h1,h2⟩
def goodM (m:Nat):Prop:=0<m∧it m m 0=0∧∀ e,e<m→e∈orb m m 0
theorem goodM_of {m:Nat} (h0:0<m) (h1:(it m m 0 == 0)=true) (h2:((List.range m).all fun e=>(orb m m 0).contains e)=true):goodM m :=
  ⟨h0,by simpa using h1,fun e he=>by
    have:=List.all_eq_true.mp h2 e (List.mem_range.mpr he)
    simpa using this⟩
theorem good8:goodM 8:=goodM_of (by decide) (by decide +kernel) (by decide +kernel)
theorem good16:goodM 16:=goodM_of (by decide) (by decide +kernel) (by decide +kernel)
theorem good32:goodM 32:=goodM_of (by decide) (by decide +kernel) (by decide +kernel)
theorem good64:goodM 64:=goodM_of (by decide) (by decide +kernel) (by decide +kernel)
theorem good128:goodM 128:=goodM_of (by decide) (by decide +kernel) (by decide +kernel)
theorem good256:goodM 256:=goodM_of (by decide) (by decide +kernel) (by decide +kernel)
theorem cover {m:Nat} (g:goodM m) {i e:Nat} (hi:i<m) (he:e<m):∃ t,t<m∧it m t i=e:=by
  obtain ⟨h0,h1,h2⟩:=g
  obtain ⟨a,ha,ea⟩:=mem_orb (h2 i hi)
  obtain ⟨b,hb,eb⟩:=mem_orb (h2 e he)
  by_cases hab:a≤b
  · refine ⟨b - a,by omega,?_⟩
    rw [← ea,← it_add,Nat.add_sub_cancel' hab]
    exact eb
  · refine ⟨b+m - a,by omega,?_⟩
    rw [← ea,← it_add,show a+(b+m - a)=m+b by omega,it_add,h1]
    exact eb
def lp (m:Nat):Nat→Nat→Nat→Nat×Nat
  | 0,i,p=>(i,p)
  | t+1,i,p=>lp m t ((i * 5+1+p / 32) % m) (p / 32)
theorem lp_add (m:Nat):∀ (a b i p:Nat),lp m (a+b) i p=lp m b (lp m a i p).1 (lp m a i p).2
  | 0,b,i,p=>by rw [Nat.zero_add]; rfl
  | a+1,b,i,p=>by rw [Nat.add_right_comm]; exact lp_add m a b _ _
theorem lp_zero (m:Nat):∀ (t i:Nat),lp m t i 0=(it m t i,0)
  | 0,_=>rfl
  | t+1,i=>lp_zero m t (st m i)
theorem lp_small {m:Nat}:∀ (n i p:Nat),p<32 ^ n→(lp m n i p).2=0
  | 0,i,p,h=>by show p=0; simpa using h
  | n+1,i,p,h=>lp_small n _ _ (by rw [Nat.pow_succ] at h; exact Nat.div_lt_of_lt_mul (by omega))
theorem lp_lt {m:Nat} (h0:0<m):∀ (n i p:Nat),i<m→(lp m n i p).1<m
  | 0,i,p,h=>h
  | n+1,i,p,h=>lp_lt h0 n _ _ (Nat.mod_lt _ h0)
theorem lp_cover {m:Nat} (g:goodM m) {i p e:Nat} (hi:i<m) (hp:p<2 ^ 64) (he:e<m):∃ t,t<m+14∧(lp m t i p).1=e:=by
  have h13:=lp_small (m:=m) 13 i p (Nat.lt_of_lt_of_le hp (by decide))
  obtain ⟨t,ht,e1⟩:=cover g (lp_lt g.1 13 i p hi) he
  refine ⟨13+t,by omega,?_⟩
  rw [lp_add,h13,lp_zero]
  exact e1
theorem runEnd_ge (mask i:Nat):i≤SetTable.runEnd mask i:=by unfold SetTable.runEnd; split <;> omega
theorem free_some {mask:Nat} {owner:Array (Option Nat)}:∀ (fuel i p t:Nat),t<fuel→(owner.getD (lp (mask+1) t i p).1 (some 0)).isNone=true→∃ j,SetTable.layClean.free mask owner fuel i p=some j∧(owner.getD j (some 0)).isNone=true
  | 0,_,_,_,h,_=>absurd h (Nat.not_lt_zero _)
  | fuel+1,i,p,t,h,hn=>by
    unfold SetTable.layClean.free
    split
    · rename_i k hk
      exact ⟨i+k,rfl,by have:=List.find?_some hk; exact this⟩
    · rename_i hk
      rw [List.find?_eq_none] at hk
      cases t with
      | zero =>
        have:=hk 0 (List.mem_range.mpr (by have:=runEnd_ge mask i; omega))
        exact absurd hn (by simpa [lp] using this)
      | succ t =>
        exact free_some fuel _ _ t (by omega) hn
theorem filterMap_set_perm {L:List (Option Nat)}:∀ {j x:Nat},L[j]? = some none→((L.set j (some x)).filterMap id).Perm (x::L.filterMap id):=by
  induction L with
  | nil=>intro j x h; simp at h
  | cons a L ih =>
    intro j x h
    cases j with
    | zero =>
      simp at h
      subst h
      simp
    | succ j =>
      have h':L[j]? = some none:=by simpa using h
      have:=ih (x:=x) h'
      cases a with
      | none=>simpa using this
      | some b=>simpa using (List.Perm.cons b this).trans (List.Perm.swap x b _)
theorem some_none {L:List (Option Nat)}:(L.filterMap id).length<L.length→∃ j:Nat,L[j]? = some none:=by
  induction L with
  | nil=>intro h; simp at h
  | cons a L ih =>
    intro h
    cases a with
    | none=>exact ⟨0,rfl⟩
    | some b =>
      have : (L.filterMap id).length<L.length:=by simpa using h
      obtain ⟨j,hj⟩:=ih this
      exact ⟨j+1,by simpa using hj⟩
theorem bits_lt (h:Int):SetTable.bits h<2 ^ 64:=by
  unfold SetTable.bits
  have h1:=Int.emod_nonneg h (show (2 ^ 64:Int)≠0 by decide)
  have h2:=Int.emod_lt_of_pos h (show (0:Int)<2 ^ 64 by decide)
  omega
def layF (mask:Nat) (acc:Option (Array (Option Nat)×Nat)) (h:Int):Option (Array (Option Nat)×Nat):=do
  let (owner,k) ← acc
  let j ← SetTable.layClean.free mask owner (SetTable.turns mask) (SetTable.bits h % (mask+1)) (SetTable.bits h)
  pure (owner.setIfInBounds j (some k),k+1)
theorem lay_fold {mask:Nat} (g:goodM (mask+1)):∀ (hs:List Int) (owner:Array (Option Nat)) (n:Nat),owner.size=mask+1→(owner.toList.filterMap id).Perm (List.range n)→n+hs.length≤mask→∃ owner':Array (Option Nat),hs.foldl (layF mask) (some (owner,n))=some (owner',n+hs.length)∧owner'.size=mask+1∧(owner'.toList.filterMap id).Perm (List.range (n+hs.length))
  | [],owner,n,h1,h2,_=>⟨owner,rfl,h1,h2⟩
  | h::hs,owner,n,h1,h2,h3=>by
    rw [List.length_cons] at h3
    have len:(owner.toList.filterMap id).length=n:=by rw [h2.length_eq,List.length_range]
    obtain ⟨e,he⟩:=some_none (L:=owner.toList) (by rw [len,Array.length_toList]; omega)
    have he':e<mask+1:=by
      have:=(List.getElem?_eq_some_iff.mp he).1
      rw [Array.length_toList] at this
      omega
    obtain ⟨t,ht,et⟩:=lp_cover g (i:=SetTable.bits h % (mask+1)) (p:=SetTable.bits h) (e:=e) (Nat.mod_lt _ g.1) (bits_lt h) he'
    have hn:(owner.getD (lp (mask+1) t (SetTable.bits h % (mask+1)) (SetTable.bits h)).1 (some 0)).isNone=true:=by
      rw [et,Array.getD_eq_getD_getElem?,← Array.getElem?_toList,he]
      rfl
    obtain ⟨j,ej,hj⟩:=free_some (mask:=mask) (owner:=owner) (SetTable.turns mask) _ _ t (by unfold SetTable.turns; omega) hn
    have hj':owner.toList[j]? = some none:=by
      rw [Array.getD_eq_getD_getElem?,← Array.getElem?_toList] at hj
      cases q:owner.toList[j]? with
      | none=>rw [q] at hj; simp at hj
      | some v =>
        rw [q] at hj
        cases v with
        | none=>rfl
        | some v=>simp at hj
    have e1:layF mask (some (owner,n)) h=some (owner.setIfInBounds j (some n),n+1):=by
      show (do
        let j ← SetTable.layClean.free mask owner (SetTable.turns mask) (SetTable.bits h % (mask+1)) (SetTable.bits h)
        pure (owner.setIfInBounds j (some n),n+1))=_
      rw [ej]
      rfl
    rw [List.foldl_cons,e1]
    have p1:((owner.setIfInBounds j (some n)).toList.filterMap id).Perm (List.range (n+1)):=by
      rw [Array.toList_setIfInBounds]
      refine (filterMap_set_perm hj').trans ?_
      rw [List.range_succ]
      exact (List.Perm.cons n h2).trans (List.perm_append_comm (l₁:=[n]) (l₂:=List.range n))
    obtain ⟨o',q1,q2,q3⟩:=lay_fold g hs (owner.setIfInBounds j (some n)) (n+1) (by rw [Array.size_setIfInBounds]; exact h1) p1 (by omega)
    refine ⟨o',?_,q2,?_⟩
    · rw [q1,List.length_cons]
      congr 2
      omega
    · rw [List.length_cons,show n+(hs.length+1)=n+1+hs.length by omega]
      exact q3
theorem layClean_ok {mask:Nat} (g:goodM (mask+1)) (hs:Array Int) (hl:hs.size≤mask):∃ owner:Array (Option Nat),SetTable.layClean mask hs=some owner∧owner.size=mask+1∧(owner.toList.filterMap id).Perm (List.range hs.size):=by
  have h0:((Array.replicate (mask+1) (none:Option Nat)).toList.filterMap id).Perm (List.range 0):=by
    rw [Array.toList_replicate]
    simp
  obtain ⟨o,h1,h2,h3⟩:=lay_fold g hs.toList (Array.replicate (mask+1) none) 0 (by simp) h0 (by simpa using hl)
  rw [Array.length_toList,Nat.zero_add] at h1 h3
  refine ⟨o,?_,h2,h3⟩
  unfold SetTable.layClean
  rw [← Array.foldl_toList]
  show (hs.toList.foldl (layF mask) (some (Array.replicate (mask+1) none,0))).map (·.1)=some o
  rw [h1]
  rfl
theorem live_order (owner:Array (Option Nat)):((List.range owner.size).filterMap fun j=>(owner.getD j none).map fun x=>(j,x)).map (·.2)=owner.toList.filterMap id:=by
  obtain ⟨L⟩:=owner
  simp only [List.size_toArray]
  have h:∀ (L:List (Option Nat)) (pre:List (Option Nat)),((List.range' pre.length L.length).filterMap fun j=>(((pre++L)[j]?).getD none).map fun x=>(j,x)).map (·.2)=L.filterMap id:=by
    intro L
    induction L with
    | nil=>intro pre; rfl
    | cons a L ih =>
      intro pre
      rw [List.length_cons,List.range'_succ,List.filterMap_cons]
      have e:((pre++a::L)[pre.length]?).getD none=a:=by simp
      have ih':=ih (pre++[a])
      rw [List.length_append,List.length_singleton,List.append_assoc,List.singleton_append] at ih'
      cases a with
      | none =>
        simp only [e,Option.map_none,List.filterMap_cons_none,id]
        exact ih'
      | some b =>
        simp only [e,Option.map_some,List.map_cons,List.filterMap_cons_some,id]
        rw [ih']
        simp
  have:=h L []
  rw [List.length_nil,← List.range_eq_range',List.nil_append] at this
  rw [← this]
  congr 1
  congr 1
  funext j
  rw [Array.getD_eq_getD_getElem?]
  simp
theorem laid_ok {mask finger moves:Nat} {led plain:Bool} (g:goodM (mask+1)) (hs:Array Int) (hl:hs.size≤mask):∃ (t:SetTable) (order:Array Nat),SetTable.laid mask finger moves led plain hs=some (t,order)∧order.toList.Perm (List.range hs.size)∧t.fits hs.size=true∧t.led=led:=by
  obtain ⟨o,h1,h2,h3⟩:=layClean_ok g hs hl
  have e:SetTable.laid mask finger moves led plain hs=some ({ mask:=mask,place:=(((List.range (mask+1)).filterMap fun j=>(o.getD j none).map fun x=>(j,x)).map (·.1)).toArray,dummies:=#[],finger:=finger,led:=led,moves:=moves,plain:=plain },
      (((List.range (mask+1)).filterMap fun j=>(o.getD j none).map fun x=>(j,x)).map (·.2)).toArray):=by
    unfold SetTable.laid
    rw [h1]
    rfl
  have lo:=live_order o
  rw [h2] at lo
  have len:((List.range (mask+1)).filterMap fun j=>(o.getD j none).map fun x=>(j,x)).length=hs.size:=by
    have:=congrArg List.length lo
    rw [List.length_map,h3.length_eq,List.length_range] at this
    exact this
  refine ⟨_,_,e,by rw [List.toList_toArray,lo]; exact h3,?_,rfl⟩
  simp only [SetTable.fits,SetTable.fill,List.size_toArray,List.length_map,len,Bool.and_eq_true,beq_self_eq_true,true_and,decide_eq_true_eq]
  show hs.size+0≤mask
  omega
theorem picked {α:Type} (es:Array α) {order:Array Nat} (p:order.toList.Perm (List.range es.size)):(order.filterMap (es[·]?)).toList.Perm es.toList∧(order.filterMap (es[·]?)).size=es.size:=by
  have e:(order.filterMap (es[·]?)).toList.Perm es.toList:=by
    rw [Array.toList_filterMap]
    have:=p.filterMap (es[·]?)
    rw [filterMap_getElem?_range] at this
    exact this
  exact ⟨e,by rw [← Array.length_toList,e.length_eq,Array.length_toList]⟩
theorem sizeAbove_good {n:Nat} (h:n<256):∃ m,SetTable.sizeAbove n=m+1∧goodM (m+1)∧n≤m:=by
  have key:∀ k:Fin 256,(SetTable.sizeAbove k.1 == 8 && decide (k.1<8)) || (SetTable.sizeAbove k.1 == 16 && decide (k.1<16)) || (SetTable.sizeAbove k.1 == 32 && decide (k.1<32)) || (SetTable.sizeAbove k.1 == 64 && decide (k.1<64)) || (SetTable.sizeAbove k.1 == 128 && decide (k.1<128)) || (SetTable.sizeAbove k.1 == 256 && decide (k.1<256))=true:=by decide +kernel
  have q:=key ⟨n,h⟩
  simp only [Bool.or_eq_true,Bool.and_eq_true,beq_iff_eq,decide_eq_true_eq] at q
  rcases q with ((((q | q) | q) | q) | q) | q
  · exact ⟨7,q.1,good8,by omega⟩
  · exact ⟨15,q.1,good16,by omega⟩
  · exact ⟨31,q.1,good32,by omega⟩
  · exact ⟨63,q.1,good64,by omega⟩
  · exact ⟨127,q.1,good128,by omega⟩
  · exact ⟨255,q.1,good256,by omega⟩
end NdS
namespace NdS
open PySem
abbrev Rise (p:Array Nat):Prop:=p.toList.Pairwise (· < ·)
theorem rise_lt {p:Array Nat} (r:Rise p) {i j:Nat} (h:i<j) (hj:j<p.size):p[i]'(by omega)<p[j]:=by
  have:=List.pairwise_iff_getElem.mp r i j (by rw [Array.length_toList]; omega) (by rw [Array.length_toList]; exact hj) h
  simpa using this
structure Below (p:Array Nat) (j b:Nat):Prop where
  le:b≤p.size
  lo:∀ i (h:i<p.size),i<b→p[i]<j
  hi:∀ i (h:i<p.size),b≤i→j≤p[i]
theorem below_go {p:Array Nat} {j:Nat} (r:Rise p):∀ (fuel lo hi:Nat),hi≤p.size→lo≤hi→hi - lo≤fuel→(∀ i (h:i<p.size),i<lo→p[i]<j)→(∀ i (h:i<p.size),hi≤i→j≤p[i])→Below p j (SetTable.below.go p j fuel lo hi)
  | 0,lo,hi,h1,h2,h3,h4,h5=>by
    unfold SetTable.below.go
    have e:lo=hi:=by omega
    exact ⟨by omega,fun i h hl=>h4 i h hl,fun i h hl=>h5 i h (by omega)⟩
  | fuel+1,lo,hi,h1,h2,h3,h4,h5=>by
    unfold SetTable.below.go
    split
    · rename_i hl
      have hm:(lo+hi) / 2<p.size:=by omega
      have e:p.getD ((lo+hi) / 2) j=p[(lo+hi) / 2]:=by simp [Array.getD,hm]
      dsimp only
      rw [e]
      split
      · rename_i hc
        refine below_go r fuel _ hi h1 (by omega) (by omega) (fun i h hi'=>?_) h5
        by_cases z:i=(lo+hi) / 2
        · subst z; exact hc
        · exact Nat.lt_trans (rise_lt r (show i<(lo+hi) / 2 by omega) hm) hc
      · rename_i hc
        refine below_go r fuel lo _ (by omega) (by omega) (by omega) h4 (fun i h hi'=>?_)
        by_cases z:i=(lo+hi) / 2
        · subst z; omega
        · exact Nat.le_trans (by omega) (Nat.le_of_lt (rise_lt r (show (lo+hi) / 2<i by omega) h))
    · exact ⟨by omega,fun i h hl=>h4 i h hl,fun i h hl=>h5 i h (by omega)⟩
theorem below_ok {p:Array Nat} (r:Rise p) (j:Nat):Below p j (SetTable.below p j) :=
  below_go r _ _ _ (Nat.le_refl _) (Nat.zero_le _) (by omega) (fun i h hl=>absurd hl (Nat.not_lt_zero _)) (fun i h hl=>absurd hl (by omega))
theorem Below.eq {p:Array Nat} {j b b':Nat} (x:Below p j b) (y:Below p j b'):b=b':=by
  rcases Nat.lt_trichotomy b b' with z | z | z
  · have h:b<p.size:=Nat.lt_of_lt_of_le z y.le
    exact absurd (y.lo b h z) (Nat.not_lt.mpr (x.hi b h (Nat.le_refl _)))
  · exact z
  · have h:b'<p.size:=Nat.lt_of_lt_of_le z x.le
    exact absurd (x.lo b' h z) (Nat.not_lt.mpr (y.hi b' h (Nat.le_refl _)))
theorem below_first {p:Array Nat} (r:Rise p):SetTable.below p 0=0 :=
  (below_ok r 0).eq ⟨Nat.zero_le _,fun i h hl=>absurd hl (Nat.not_lt_zero _),fun i h _=>Nat.zero_le _⟩
theorem below_next {p:Array Nat} (r:Rise p) {i:Nat} (h:i<p.size):SetTable.below p (p[i]+1)=i+1 :=
  (below_ok r _).eq ⟨h,fun k hk hl=>by
    by_cases z:k=i
    · subst z; exact Nat.lt_succ_self _
    · exact Nat.lt_succ_of_lt (rise_lt r (show k<i by omega) h),fun k hk hl=>rise_lt r (show i<k by omega) hk⟩
structure TabOk (n:Nat) (t:SetTable):Prop where
  good:goodM (t.mask+1)
  dum:t.dummies=#[]
  plain:t.plain=true
  rise:Rise t.place
  top:∀ j∈t.place.toList,j≤t.mask
  size:t.place.size=n
structure Tab (n:Nat) (t:SetTable):Prop extends TabOk n t where
  room:n * 5<t.mask * 3
theorem mask_ge {t:SetTable} {n:Nat} (x:Tab n t):n+1≤t.mask:=by have:=x.room; omega
theorem TabOk.fits {t:SetTable} {n:Nat} (x:TabOk n t) (h:n≤t.mask):t.fits n=true:=by
  simp only [SetTable.fits,SetTable.fill,x.dum,x.size,Bool.and_eq_true,beq_self_eq_true,true_and,decide_eq_true_eq]
  show n+0≤t.mask
  omega
theorem Tab.fits {t:SetTable} {n:Nat} (x:Tab n t):t.fits n=true:=x.toTabOk.fits (by have:=mask_ge x; omega)
theorem slot_empty {t:SetTable} {n j:Nat} (x:TabOk n t):t.slot j=.empty↔j∉t.place.toList:=by
  have nd:SetTable.has t.dummies j=false:=by rw [x.dum]; rfl
  unfold SetTable.slot
  dsimp only
  rw [nd]
  constructor
  · intro h hm
    obtain ⟨i,hi,e⟩:=List.mem_iff_getElem.mp hm
    rw [Array.length_toList] at hi
    have e':t.place[i]=j:=by simpa using e
    have b:SetTable.below t.place j=i:=(below_ok x.rise j).eq ⟨Nat.le_of_lt hi,fun k hk hl=>by rw [← e']; exact rise_lt x.rise hl hi,fun k hk hl=>by
      by_cases z:i=k
      · subst z; exact Nat.le_of_eq e'.symm
      · rw [← e']; exact Nat.le_of_lt (rise_lt x.rise (show i<k by omega) hk)⟩
    rw [b,Array.getElem?_eq_getElem hi,e',if_pos (by simp)] at h
    cases h
  · intro h
    rw [if_neg (fun z=>h ?_)]
    · rfl
    · have z':t.place[SetTable.below t.place j]? = some j:=by simpa using z
      have:=Array.mem_of_getElem? z'
      exact Array.mem_def.mp this
theorem slot_not_dummy {t:SetTable} {n j:Nat} (x:TabOk n t):t.slot j≠.dummy:=by
  have nd:SetTable.has t.dummies j=false:=by rw [x.dum]; rfl
  unfold SetTable.slot
  dsimp only
  rw [nd]
  split
  · intro h; cases h
  · intro h; cases h
theorem runEnd_le {mask i:Nat} (h:i≤mask):SetTable.runEnd mask i≤mask:=by unfold SetTable.runEnd; split <;> omega
theorem run_short (mask i:Nat):SetTable.runEnd mask i - i≤9:=by unfold SetTable.runEnd; split <;> omega
theorem leap_eq (mask i p:Nat):SetTable.leap mask i p=((i * 5+1+p / 32) % (mask+1),p / 32):=rfl
theorem probe_go {t:SetTable} {n:Nat} {h:Int} (x:TabOk n t):∀ (fuel u:Nat) (p:SetTable.Probe),p.more≤9→p.j+p.more≤t.mask→p.dummy=none→p.more+2+10 * u≤fuel→t.slot (lp (t.mask+1) (u+1) p.i p.perturb).1=.empty→∃ j,SetTable.probe.go t (fun _=>h+1) h fuel p=some (.empty j none)∧t.slot j=.empty∧j≤t.mask
  | 0,u,p,_,_,_,h3,_=>absurd h3 (by omega)
  | fuel+1,u,p,h1,h2,hd,h3,h4=>by
    unfold SetTable.probe.go
    split
    · rename_i hs
      exact ⟨p.j,by rw [hd],hs,by omega⟩
    · rename_i hs
      exact absurd hs (slot_not_dummy x)
    · rw [if_neg (by simp; omega)]
      unfold SetTable.advance
      split
      · rename_i hm
        exact probe_go x fuel u _ (by dsimp only; omega) (by dsimp only; omega) hd (by dsimp only; omega) h4
      · rename_i hm
        rw [leap_eq]
        dsimp only
        have hi:(p.i * 5+1+p.perturb / 32) % (t.mask+1)≤t.mask:=Nat.lt_succ_iff.mp (Nat.mod_lt _ (Nat.succ_pos _))
        cases u with
        | zero =>
          cases fuel with
          | zero=>omega
          | succ fuel =>
            unfold SetTable.probe.go
            dsimp only
            have h4':t.slot ((p.i * 5+1+p.perturb / 32) % (t.mask+1))=.empty:=h4
            rw [h4']
            exact ⟨_,by rw [hd],h4',hi⟩
        | succ u =>
          refine probe_go x fuel u _ (run_short _ _) ?_ hd ?_ h4
          · dsimp only
            have:=runEnd_le hi
            have:=runEnd_ge t.mask ((p.i * 5+1+p.perturb / 32) % (t.mask+1))
            omega
          · dsimp only
            have:=run_short t.mask ((p.i * 5+1+p.perturb / 32) % (t.mask+1))
            omega
theorem len_le:∀ {l1 l2:List Nat},l1.Nodup→(∀ e∈l1,e∈l2)→l1.length≤l2.length
  | [],_,_,_=>Nat.zero_le _
  | a::l1,l2,nd,h=>by
    have nd':=List.nodup_cons.mp nd
    have ha:=h a (List.mem_cons_self ..)
    have:=len_le (l2:=l2.erase a) nd'.2 fun e he=>(List.mem_erase_of_ne (show e≠a from fun z=>nd'.1 (by rw [← z]; exact he))).mpr (h e (List.mem_cons_of_mem _ he))
    rw [List.length_erase_of_mem ha] at this
    have p:0<l2.length:=List.length_pos_of_mem ha
    rw [List.length_cons]
    omega
theorem not_all {m:Nat} {l:List Nat} (nd:l.Pairwise (· < ·)) (h:l.length<m):∃ e,e<m∧e∉l:=by
  refine Classical.byContradiction fun z=>?_
  have all:∀ e,e∈List.range m→e∈l:=fun e he=>Classical.byContradiction fun q=>z ⟨e,List.mem_range.mp he,q⟩
  have:=len_le List.nodup_range all
  rw [List.length_range] at this
  omega
theorem freeSlot_ok {t:SetTable} {n:Nat} (x:Tab n t) (h:Int):∃ j,t.freeSlot h=some (j,false)∧j∉t.place.toList∧j≤t.mask:=by
  have hm:=mask_ge x
  obtain ⟨e,he,hn⟩:=not_all (m:=t.mask+1) x.rise (by rw [Array.length_toList,x.size]; omega)
  obtain ⟨u,hu,eu⟩:=lp_cover x.good (i:=SetTable.bits h % (t.mask+1)) (p:=SetTable.bits h) (e:=e) (Nat.mod_lt _ (Nat.succ_pos _)) (bits_lt h) he
  have hi:SetTable.bits h % (t.mask+1)≤t.mask:=Nat.lt_succ_iff.mp (Nat.mod_lt _ (Nat.succ_pos _))
  have key:∃ j,t.probe (fun _=>h+1) h (t.probeStart h)=some (.empty j none)∧t.slot j=.empty∧j≤t.mask:=by
    unfold SetTable.probe
    cases u with
    | zero =>
      have e0:t.slot (SetTable.bits h % (t.mask+1))=.empty:=(slot_empty x.toTabOk).mpr (by rw [show SetTable.bits h % (t.mask+1)=e from eu]; exact hn)
      obtain ⟨f,hf⟩ : ∃ f,10 * SetTable.turns t.mask=f+1:=⟨10 * SetTable.turns t.mask - 1,by unfold SetTable.turns; omega⟩
      rw [hf]
      unfold SetTable.probe.go
      have e0':t.slot (t.probeStart h).j=.empty:=e0
      rw [e0']
      exact ⟨_,rfl,e0',hi⟩
    | succ u =>
      refine probe_go x.toTabOk _ u (t.probeStart h) (run_short _ _) ?_ rfl ?_ ?_
      · have:=runEnd_le hi
        have:=runEnd_ge t.mask (SetTable.bits h % (t.mask+1))
        show SetTable.bits h % (t.mask+1)+(SetTable.runEnd t.mask (SetTable.bits h % (t.mask+1)) - SetTable.bits h % (t.mask+1))≤t.mask
        omega
      · have:=run_short t.mask (SetTable.bits h % (t.mask+1))
        show SetTable.runEnd t.mask (SetTable.bits h % (t.mask+1)) - SetTable.bits h % (t.mask+1)+2+10 * u≤10 * SetTable.turns t.mask
        unfold SetTable.turns
        omega
      · exact (slot_empty x.toTabOk).mpr (by rw [show (lp (t.mask+1) (u+1) (t.probeStart h).i (t.probeStart h).perturb).1=e from eu]; exact hn)
  obtain ⟨j,h1,h2,h3⟩:=key
  refine ⟨j,?_,(slot_empty x.toTabOk).mp h2,h3⟩
  unfold SetTable.freeSlot
  rw [h1]
  rfl
theorem rise_insert {p:Array Nat} (r:Rise p) {j:Nat} (h:j∉p.toList):Rise (SetTable.insertAt p (SetTable.below p j) j):=by
  have b:=below_ok r j
  show (SetTable.insertAt p (SetTable.below p j) j).toList.Pairwise (· < ·)
  rw [SetTable.toList_insertAt]
  have r1:(p.toList.take (SetTable.below p j)).Pairwise (· < ·):=r.sublist (List.take_sublist _ _)
  have r2:(p.toList.drop (SetTable.below p j)).Pairwise (· < ·):=r.sublist (List.drop_sublist _ _)
  have lo:∀ e∈p.toList.take (SetTable.below p j),e<j:=fun e he=>by
    obtain ⟨i,hi,ei⟩:=List.mem_take_iff_getElem.mp he
    rw [Array.length_toList] at hi
    have:=b.lo i (by omega) (by omega)
    rw [← ei]
    simpa using this
  have hi:∀ e∈p.toList.drop (SetTable.below p j),j<e:=fun e he=>by
    have hm:e∈p.toList:=List.mem_of_mem_drop he
    obtain ⟨i,hi,ei⟩:=List.mem_drop_iff_getElem.mp he
    rw [Array.length_toList] at hi
    have:=b.hi (i+SetTable.below p j) (by omega) (by omega)
    have e1:j≤e:=by
      rw [← ei]
      simpa [Nat.add_comm] using this
    exact Nat.lt_of_le_of_ne e1 fun z=>h (by rw [z]; exact hm)
  simp only [List.pairwise_append,List.pairwise_cons,List.mem_cons,List.mem_append]
  first
    | exact ⟨r1,⟨hi,r2⟩,fun a ha c hc=>by
        rcases hc with z | z
        · rw [z]; exact lo a ha
        · exact Nat.lt_trans (lo a ha) (hi c z)⟩
    | (refine ⟨⟨r1,⟨by simp,List.Pairwise.nil⟩,fun a ha c hc=>?_⟩,r2,fun a ha c hc=>?_⟩
       · have z:c=j:=by simpa using hc
         rw [z]; exact lo a ha
       · rcases ha with z | z | z
         · exact Nat.lt_trans (lo a z) (hi c hc)
         · rw [z]; exact hi c hc
         · cases z)
theorem new_ok {t:SetTable} {es:Array (Int×Value)} (x:Tab es.size t) (h:Int) (v:Value):∃ (es1:Array (Int×Value)) (t1:SetTable),layNew t es h v=(es1,t1,false,false)∧es1.toList.Perm (es.toList++[(h,v)])∧es1.size=es.size+1∧TabOk es1.size t1∧t1.mask=t.mask∧t1.led=t.led:=by
  obtain ⟨j,h1,h2,h3⟩:=freeSlot_ok x h
  have hm:=mask_ge x
  have perm:=SetTable.insertAt_perm es (SetTable.below t.place j) (h,v)
  rw [Array.toList_push] at perm
  have size:(SetTable.insertAt es (SetTable.below t.place j) (h,v)).size=es.size+1:=by
    rw [← Array.length_toList,perm.length_eq,List.length_append,Array.length_toList]
    rfl
  have p2:=SetTable.insertAt_perm t.place (SetTable.below t.place j) j
  rw [Array.toList_push] at p2
  have size2:(SetTable.insertAt t.place (SetTable.below t.place j) j).size=es.size+1:=by
    rw [← Array.length_toList,p2.length_eq,List.length_append,Array.length_toList,x.size]
    rfl
  have nd:SetTable.has t.dummies j=false:=by rw [x.dum]; rfl
  have ok:TabOk (es.size+1) { t with place:=SetTable.insertAt t.place (SetTable.below t.place j) j } :=
    ⟨x.good,x.dum,x.plain,rise_insert x.rise h2,fun e he=>by
      rcases List.mem_append.mp (p2.mem_iff.mp he) with z | z
      · exact x.top e z
      · rw [List.mem_singleton.mp z]; exact h3,size2⟩
  refine ⟨_,{ t with place:=SetTable.insertAt t.place (SetTable.below t.place j) j },?_,perm,size,by rw [size]; exact ok,rfl,rfl⟩
  have f:({ t with place:=SetTable.insertAt t.place (SetTable.below t.place j) j }:SetTable).fits (SetTable.insertAt es (SetTable.below t.place j) (h,v)).size=true:=by
    rw [size]
    exact ok.fits (by omega)
  unfold layNew
  rw [h1]
  simp only [SetTable.put,nd,Bool.false_eq_true,if_false,SetTable.orStandIn,f,if_true,Bool.not_true]
theorem laid_rise {mask finger moves:Nat} {led plain:Bool} {hs:Array Int} {t:SetTable} {order:Array Nat} (h:SetTable.laid mask finger moves led plain hs=some (t,order)):Rise t.place∧(∀ j∈t.place.toList,j≤mask):=by
  unfold SetTable.laid at h
  cases hl:SetTable.layClean mask hs with
  | none=>rw [hl] at h; cases h
  | some owner =>
    rw [hl] at h
    cases h
    have sub:∀ (l:List Nat),l.Pairwise (· < ·)→(((l.filterMap fun j=>(owner.getD j none).map fun x=>(j,x)).map (·.1)).Pairwise (· < ·))∧∀ j∈((l.filterMap fun j=>(owner.getD j none).map fun x=>(j,x)).map (·.1)),j∈l:=by
      intro l hl
      have m:∀ j∈((l.filterMap fun j=>(owner.getD j none).map fun x=>(j,x)).map (·.1)),j∈l:=fun j hj=>by
        obtain ⟨q,hq,rfl⟩:=List.mem_map.mp hj
        obtain ⟨k,hk,ek⟩:=List.mem_filterMap.mp hq
        cases hg:owner.getD k none with
        | none=>rw [hg] at ek; cases ek
        | some v=>rw [hg] at ek; cases ek; exact hk
      refine ⟨?_,m⟩
      clear m
      induction l with
      | nil=>exact List.Pairwise.nil
      | cons a l ih =>
        have hl':=List.pairwise_cons.mp hl
        have ih':=ih hl'.2
        rw [List.filterMap_cons]
        cases hg:owner.getD a none with
        | none=>simpa [hg] using ih'
        | some v =>
          simp only [Option.map_some,List.map_cons,List.pairwise_cons]
          refine ⟨fun j hj=>?_,ih'⟩
          obtain ⟨q,hq,rfl⟩:=List.mem_map.mp hj
          obtain ⟨k,hk,ek⟩:=List.mem_filterMap.mp hq
          cases hg2:owner.getD k none with
          | none=>rw [hg2] at ek; cases ek
          | some v2=>rw [hg2] at ek; cases ek; exact hl'.1 k hk
    obtain ⟨s1,s2⟩:=sub (List.range (mask+1)) List.pairwise_lt_range
    exact ⟨s1,fun j hj=>Nat.lt_succ_iff.mp (List.mem_range.mp (s2 j hj))⟩
theorem laid_tab {mask finger moves:Nat} {led:Bool} (g:goodM (mask+1)) (hs:Array Int) (hl:hs.size * 5<mask * 3):∃ (t:SetTable) (order:Array Nat),SetTable.laid mask finger moves led true hs=some (t,order)∧order.toList.Perm (List.range hs.size)∧Tab hs.size t∧t.led=led:=by
  obtain ⟨t,order,h1,h2,h3,h4⟩:=laid_ok (finger:=finger) (moves:=moves) (led:=led) (plain:=true) g hs (by omega)
  obtain ⟨l1,l2,l3,l4⟩:=laid_led h1
  obtain ⟨r1,r2⟩:=laid_rise h1
  have sz:t.place.size=hs.size:=by
    have:=h3
    simp only [SetTable.fits,Bool.and_eq_true,beq_iff_eq] at this
    exact this.1
  exact ⟨t,order,h1,h2,⟨⟨by rw [l2]; exact g,l4,l3,r1,by rw [l2]; exact r2,sz⟩,by rw [l2]; exact hl⟩,l1⟩
theorem relay_ok {t:SetTable} {es:Array (Int×Value)} {wanted:Nat} (hp:t.plain=true) (hw:wanted<256) (h2:es.size * 2≤wanted):∃ (t':SetTable) (order:Array Nat),t.relaid (es.map (·.1)) wanted=some (t',order)∧order.toList.Perm (List.range es.size)∧Tab es.size t'∧t'.led=t.led:=by
  obtain ⟨m,e1,g,hm⟩:=sizeAbove_good hw
  have sz:(es.map (·.1)).size=es.size:=Array.size_map ..
  have m7:7≤m:=by
    have : 8≤SetTable.sizeAbove wanted:=by
      have key:∀ k:Fin 256,decide (8≤SetTable.sizeAbove k.1)=true:=by decide +kernel
      exact of_decide_eq_true (key ⟨wanted,hw⟩)
    omega
  obtain ⟨t',order,q1,q2,q3,q4⟩:=laid_tab (mask:=m) (finger:=t.finger) (moves:=t.movedTo m) (led:=t.led) g (es.map (·.1)) (by rw [sz]; omega)
  rw [sz] at q2 q3
  refine ⟨t',order,?_,q2,q3,q4⟩
  unfold SetTable.relaid
  rw [e1,Nat.add_sub_cancel,hp]
  exact q1
theorem relayAll_ok {t:SetTable} {es:Array (Int×Value)} (hp:t.plain=true) (hn:es.size<64):∃ (es':Array (Int×Value)) (t':SetTable),relayAll t es (SetTable.grown es.size)=(es',t',false)∧es'.toList.Perm es.toList∧es'.size=es.size∧Tab es'.size t'∧t'.led=t.led:=by
  have gr:SetTable.grown es.size=es.size * 4:=by unfold SetTable.grown; rw [if_neg (by omega)]
  obtain ⟨t',order,q1,q2,q3,q4⟩:=relay_ok (t:=t) (es:=es) (wanted:=es.size * 4) hp (by omega) (by omega)
  obtain ⟨p1,p2⟩:=picked es q2
  refine ⟨order.filterMap (es[·]?),t',?_,p1,p2,by rw [p2]; exact q3,q4⟩
  unfold relayAll
  rw [gr,q1]
  dsimp only
  have c:coversAll order es.size=true:=by
    unfold coversAll
    exact List.isPerm_iff.mpr q2
  have f:t'.fits (order.filterMap (es[·]?)).size=true:=by rw [p2]; exact q3.fits
  rw [c,f]
  rfl
end NdS
namespace NdS
open PySem
abbrev bt (w:World):Bool:=w.params.followText "set-order"
def keyOf:Int×Value→Int
  | (_,.int k _)=>k
  | _=>0
def isEnt (e:Int×Value):Prop:=∃ k tk,e=(hashInt k,Value.int k tk)
abbrev keys (es:Array (Int×Value)):List Int:=es.toList.map keyOf
abbrev setObj (es:Array (Int×Value)) (ep:Nat) (t:SetTable):Obj:={ cls:=.type "set",dict:=none,data:=.set es ep t }
structure SetS (w:World) (h:Heap) (a:Addr) (es:Array (Int×Value)) (ep:Nat) (t:SetTable):Prop where
  obj:h.get? a=some (setObj es ep t)
  ent:∀ e∈es.toList,isEnt e
  nd:(keys es).Nodup
  tab:Tab es.size t
  led:bt w=false→t.led=true
  few:es.size<64
theorem SetS.keep {w:World} {h h':Heap} {a:Addr} {es:Array (Int×Value)} {ep:Nat} {t:SetTable} (S:SetS w h a es ep t) (k:∀ o,h.get? a=some o→h'.get? a=some o):SetS w h' a es ep t :=
  ⟨k _ S.obj,S.ent,S.nd,S.tab,S.led,S.few⟩
def ins (k:Int) (l:List Int):List Int:=if k∈l then l else k::l
theorem elems {prog:Program} {w:World} {h:Heap} {a:Addr} {es:Array (Int×Value)} {ep:Nat} {t:SetTable} (S:SetS w h a es ep t):ElemsOf (intKind prog w) es.toList:=fun e he=>by
  obtain ⟨k,tk,rfl⟩:=S.ent e he
  exact ⟨⟨k,intKind_is _ _ _ _,rfl⟩,rfl⟩
theorem is_iff {prog:Program} {w:World} {e:Int×Value} (h:isEnt e) (k:Int):(intKind prog w).is k e.2=true↔keyOf e=k:=by
  obtain ⟨k',tk,rfl⟩:=h
  show Value.isInt k (.int k' tk)=true↔k'=k
  simp [Value.isInt]
  try exact eq_comm
theorem small {n:Nat} (h:n<64):n≤sizeLine:=by rw [sizeLine_eq]; omega
theorem put_obj {es:Array (Int×Value)} {ep:Nat} {t:SetTable} (es':Array (Int×Value)) (t':SetTable):Obj.putSet es' t' (setObj es ep t)=setObj es' (ep+1) t':=putSet_of es' t' rfl
theorem put_get {h:Heap} {a:Addr} {es:Array (Int×Value)} {ep:Nat} {t:SetTable} (ho:h.get? a=some (setObj es ep t)) (es':Array (Int×Value)) (t':SetTable):(h.update a (Obj.putSet es' t')).get? a=some (setObj es' (ep+1) t'):=by
  have:=Heap.get?_update_self (Obj.putSet es' t') ho (by rw [put_obj]; rfl)
  rw [put_obj] at this
  exact this
section
variable {prog:Program} {w:World} {A:Around} {E:Value→Shared→Prop} {s:Shared}
theorem state_ok {a:Addr} {es:Array (Int×Value)} {ep:Nat} {t:SetTable} {Q:(Array (Int×Value)×Nat×SetTable)→Shared→Prop} (S:SetS w s.heap a es ep t) (h:Q (es,ep,t) s):wpAny (model prog w) A (setState a) Q E s :=
  wpAny_setState_of S.obj rfl S.tab.fits h
theorem store_set {a:Addr} {es es':Array (Int×Value)} {ep:Nat} {t t':SetTable} {Q:Unit→Shared→Prop} (S:SetS w s.heap a es ep t) (he:∀ e∈es'.toList,isEnt e) (nd:(keys es').Nodup) (tab:Tab es'.size t') (led:bt w=false→t'.led=true) (few:es'.size<64) (h:∀ h',Heap.SameBut a s.heap h'→SetS w h' a es' (ep+1) t'→Q () { s with heap:=h' }):wpAny (model prog w) A (storeSet a es' t') Q E s :=
  wpAny_storeSet_of S.obj rfl (h _ (Heap.SameBut.update ..) ⟨put_get S.obj es' t',he,nd,tab,led,few⟩) (small few)
theorem find_none {es:Array (Int×Value)} {k:Int} (he:∀ e∈es.toList,isEnt e):es.toList.findIdx? (fun e=>(intKind prog w).is k e.2)=none↔k∉keys es:=by
  rw [List.findIdx?_eq_none_iff]
  constructor
  · intro h hm
    obtain ⟨e,hm',rfl⟩:=List.mem_map.mp hm
    have:=h e hm'
    rw [(is_iff (he e hm') _).mpr rfl] at this
    cases this
  · intro h e hm
    cases q:(intKind prog w).is k e.2 with
    | false=>rfl
    | true=>exact absurd (List.mem_map.mpr ⟨e,hm,(is_iff (he e hm) k).mp q⟩) h
theorem add_ok {a:Addr} {es:Array (Int×Value)} {ep:Nat} {t:SetTable} {k:Int} {tk:Tok} {Q:Bool→Shared→Prop} (S:SetS w s.heap a es ep t) (hn:es.size<63) (h:∀ b es' ep' t' h',Heap.SameBut a s.heap h'→SetS w h' a es' ep' t'→(keys es').Perm (ins k (keys es))→Q b { s with heap:=h' }):wpAny (model prog w) A (setAddHashed a (.int k tk) (hashInt k)) Q E s:=by
  unfold setAddHashed setAddHashedIn
  refine wpAny_holding (wpAny_bind (state_ok S ?_))
  dsimp only
  rw [byScan_of (knd:=intKind prog w) (x:=.int k tk) rfl (Nat.lt_trans S.few (by decide)) (elems S),if_pos rfl]
  unfold setAddByScan
  refine wpAny_bind (wpAny_bind (wpAny_rule (wpAny_bind ?_)))
  refine wpAny_setScan_of (knd:=intKind prog w) (k:=k) (intKind_is _ _ _ _) S.obj rfl S.tab.fits (elems S) ?_
  cases hr:es.toList.findIdx? (fun e=>(intKind prog w).is k e.2) with
  | some j =>
    dsimp only
    have hk:k∈keys es:=Classical.byContradiction fun z=>by
      rw [(find_none (prog:=prog) (w:=w) S.ent).mpr z] at hr
      cases hr
    refine wpAny_pure (wpAny_pure ?_)
    have:=h false es ep t s.heap (Heap.SameBut.refl a s.heap) S (by unfold ins; rw [if_pos hk])
    exact this
  | none =>
    dsimp only
    have hk:k∉keys es:=(find_none (prog:=prog) (w:=w) S.ent).mp hr
    obtain ⟨es1,t1,e1,p1,z1,ok1,m1,l1⟩:=new_ok S.tab (hashInt k) (.int k tk)
    rw [e1]
    dsimp only
    have ent1:∀ e∈es1.toList,isEnt e:=fun e he=>by
      rcases List.mem_append.mp (p1.mem_iff.mp he) with z | z
      · exact S.ent e z
      · rw [List.mem_singleton.mp z]; exact ⟨k,tk,rfl⟩
    have pk1:(keys es1).Perm (k::keys es):=by
      have:=p1.map keyOf
      rw [List.map_append] at this
      exact this.trans List.perm_append_comm
    have nd1:(keys es1).Nodup:=pk1.nodup_iff.mpr (List.nodup_cons.mpr ⟨hk,S.nd⟩)
    have few1:es1.size<64:=by omega
    have led1:bt w=false→t1.led=true:=fun z=>by rw [l1]; exact S.led z
    refine wpAny_bind (m:=(pure ():Sem Unit)) (wpAny_pure ?_)
    rw [ok1.plain,if_pos rfl]
    refine wpAny_bind (m:=hashByValue 8 (.int k tk)) (wpAny_pure ?_)
    simp only [if_true]
    by_cases tf:t1.tooFull=true
    · obtain ⟨es2,t2,e2,p2,z2,tab2,l2⟩:=relayAll_ok (es:=es1) ok1.plain few1
      have ent2:∀ e∈es2.toList,isEnt e:=fun e he=>ent1 e (p2.mem_iff.mp he)
      have pk2:(keys es2).Perm (k::keys es):=(p2.map keyOf).trans pk1
      refine wpAny_bind (wpAny_storeSet_of S.obj rfl ?_ (small few1))
      rw [tf,if_pos (by decide),e2]
      dsimp only
      refine wpAny_bind (m:=(pure ():Sem Unit)) (wpAny_pure ?_)
      have o1:=put_get S.obj es1 t1
      refine wpAny_bind (wpAny_storeSet_of o1 rfl (wpAny_pure ?_) (small (by omega)))
      dsimp only
      refine wpAny_pure (h true es2 (ep+1+1) t2 _ ((Heap.SameBut.update s.heap a _).trans (Heap.SameBut.update _ a _)) ⟨put_get o1 es2 t2,ent2,pk2.nodup_iff.mpr (List.nodup_cons.mpr ⟨hk,S.nd⟩),tab2,fun z=>by rw [l2,l1]; exact S.led z,by omega⟩ ?_)
      unfold ins
      rw [if_neg hk]
      exact pk2
    · have room:es1.size * 5<t1.mask * 3:=by
        have : ¬ (t1.fill * 5 ≥ t1.mask * 3):=fun z=>tf (by unfold SetTable.tooFull; exact decide_eq_true z)
        have e:t1.fill=es1.size:=by
          unfold SetTable.fill
          rw [ok1.dum,ok1.size]
          rfl
        omega
      refine wpAny_bind (wpAny_storeSet_of S.obj rfl ?_ (small few1))
      rw [Bool.not_eq_true] at tf
      rw [tf]
      simp only [Bool.and_false,Bool.false_eq_true,if_false]
      refine wpAny_pure ?_
      dsimp only
      refine wpAny_pure (h true es1 (ep+1) t1 _ (Heap.SameBut.update s.heap a _) ⟨put_get S.obj es1 t1,ent1,nd1,⟨ok1,room⟩,led1,few1⟩ ?_)
      unfold ins
      rw [if_neg hk]
      exact pk1
end
end NdS
namespace NdS
open PySem
theorem erase_perm {α:Type}:∀ {l:List α} {i:Nat} (h:i<l.length),(l[i]::l.eraseIdx i).Perm l
  | [],_,h=>absurd h (Nat.not_lt_zero _)
  | a::l,0,h=>List.Perm.refl _
  | a::l,i+1,h=>by
    have:=erase_perm (l:=l) (i:=i) (by simpa using h)
    exact (List.Perm.swap a _ _).trans (List.Perm.cons a this)
theorem pick_go {α:Type} (next:Nat→Nat):∀ (fuel k:Nat) (left:List α) (out:Array α),left.length=fuel→(pickOrder.go next fuel k left out).toList.Perm (out.toList++left)
  | 0,k,left,out,h=>by
    unfold pickOrder.go
    have : left=[]:=List.eq_nil_of_length_eq_zero h
    subst this
    simp
  | fuel+1,k,left,out,h=>by
    unfold pickOrder.go
    have hi:next k % left.length<left.length:=Nat.mod_lt _ (by omega)
    rw [List.getElem?_eq_getElem hi]
    dsimp only
    refine (pick_go next fuel (k+1) _ _ (by rw [List.length_eraseIdx,if_pos hi]; omega)).trans ?_
    rw [Array.toList_push,List.append_assoc]
    exact List.Perm.append_left _ (erase_perm hi)
theorem pick_perm {α:Type} (next:Nat→Nat) (xs:Array α):(pickOrder next xs).toList.Perm xs.toList:=by
  unfold pickOrder
  simpa using pick_go next xs.size 0 xs.toList #[] (by simp)
section
variable {prog:Program} {w:World} {A:Around} {E:Value→Shared→Prop} {s:Shared}
theorem byText_ok {Q:Bool→Shared→Prop} (h:Q (bt w) s):wpAny (model prog w) A setsByText Q E s:=by
  unfold setsByText
  exact wpAny_bind (wpAny_askSetting (wpAny_pure h))
theorem walk_ok {a:Addr} {es:Array (Int×Value)} {ep:Nat} {t:SetTable} {Q:Array (Int×Value)→Shared→Prop} (S:SetS w s.heap a es ep t) (h:Q (if bt w then pickOrder (w.params.setOrder a ep) es else es) s):wpAny (model prog w) A (setWalk a) Q E s:=by
  unfold setWalk
  refine wpAny_bind (state_ok S ?_)
  dsimp only
  refine wpAny_bind (byText_ok ?_)
  cases hb:bt w with
  | true =>
    rw [hb] at h
    rw [if_pos rfl] at h ⊢
    exact wpAny_bind (wpAny_askSetting (wpAny_pure h))
  | false =>
    have hl:=S.led hb
    have hp:=S.tab.plain
    rw [hb] at h
    obtain ⟨mask,place,dummies,finger,led,moves,plain⟩:=t
    have hl':led=true:=hl
    have hp':plain=true:=hp
    subst hl' hp'
    exact wpAny_bind (m:=(pure ():Sem Unit)) (wpAny_pure (wpAny_pure h))
theorem walk_perm {a:Addr} {es:Array (Int×Value)} {ep:Nat}:(if bt w then pickOrder (w.params.setOrder a ep) es else es).toList.Perm es.toList:=by
  cases bt w with
  | true=>exact pick_perm _ _
  | false=>exact List.Perm.refl _
theorem unseen_ok {a:Addr} {others:List Addr} {filled:Option Addr} {es:Array (Int×Value)} {ep:Nat} {t:SetTable} {Q:Array (Int×Value)→Shared→Prop} (S:SetS w s.heap a es ep t) (h:Q (if bt w then pickOrder (w.params.setOrder a ep) es else es) s) :
    wpAny (model prog w) A (setWalkUnseen a others filled) Q E s:=by
  unfold setWalkUnseen
  refine wpAny_bind (state_ok S ?_)
  dsimp only
  refine wpAny_bind (byText_ok ?_)
  have c:(bt w || (t.led && t.plain) || decide (es.size≤1))=true:=by
    cases hb:bt w with
    | true=>rfl
    | false=>rw [S.led hb,S.tab.plain]; rfl
  rw [if_pos c]
  exact walk_ok S h
theorem relay_set {a:Addr} {es:Array (Int×Value)} {ep:Nat} {t:SetTable} {wanted:Nat} {Q:Unit→Shared→Prop} (S:SetS w s.heap a es ep t) (hw:wanted<256) (h2:es.size * 2≤wanted) (h:∀ es' t' h',Heap.SameBut a s.heap h'→SetS w h' a es' (ep+1) t'→(keys es').Perm (keys es)→wanted≤t'.mask→7≤t'.mask→Q () { s with heap:=h' }):wpAny (model prog w) A (setRelay a wanted) Q E s:=by
  obtain ⟨t',order,q1,q2,q3,q4⟩:=relay_ok (es:=es) S.tab.plain hw h2
  obtain ⟨p1,p2⟩:=picked es q2
  obtain ⟨m,e1,g,hm⟩:=sizeAbove_good hw
  have mk:t'.mask=m:=by
    unfold SetTable.relaid at q1
    rw [(laid_led q1).2.1,e1]
    rfl
  have m7:7≤t'.mask:=by
    have : 8≤SetTable.sizeAbove wanted:=by
      have key:∀ k:Fin 256,decide (8≤SetTable.sizeAbove k.1)=true:=by decide +kernel
      exact of_decide_eq_true (key ⟨wanted,hw⟩)
    omega
  have sz:SetTable.sizeAbove wanted≤256:=by
    have key:∀ k:Fin 256,decide (SetTable.sizeAbove k.1≤256)=true:=by decide +kernel
    exact of_decide_eq_true (key ⟨wanted,hw⟩)
  unfold setRelay
  refine wpAny_bind (state_ok S ?_)
  dsimp only
  rw [if_neg (by rw [sizeLine_eq]; omega),q1]
  refine wpAny_bind ?_
  show wpAny (model prog w) A (do
    if (order.filterMap (es[·]?)).size != es.size then unsupported "internal:set-table-lost-an-element"
    pure (order.filterMap (es[·]?),t')) _ _ _
  rw [if_neg (by rw [p2]; simp)]
  refine wpAny_pure ?_
  dsimp only
  refine store_set S (fun e he=>S.ent e (p1.mem_iff.mp he)) ((p1.map keyOf).nodup_iff.mpr S.nd) (by rw [p2]; exact q3) (fun z=>by rw [q4]; exact S.led z) (by rw [p2]; exact S.few) fun h' sb S'=>?_
  exact h _ _ h' sb S' (p1.map keyOf) (by omega) m7
theorem keys_size {es es':Array (Int×Value)} (p:(keys es').Perm (keys es)):es'.size=es.size:=by
  have:=p.length_eq
  rw [List.length_map,List.length_map,Array.length_toList,Array.length_toList] at this
  exact this
theorem room_ok {a:Addr} {es:Array (Int×Value)} {ep more:Nat} {t:SetTable} {Q:Unit→Shared→Prop} (S:SetS w s.heap a es ep t) (hm:es.size+more<128) (h:∀ es' ep' t' h',Heap.SameBut a s.heap h'→SetS w h' a es' ep' t'→(keys es').Perm (keys es)→(es.size+more) * 5<t'.mask * 3→Q () { s with heap:=h' }):wpAny (model prog w) A (setRoomFor a more) Q E s:=by
  have fl:t.fill=es.size:=by
    unfold SetTable.fill
    rw [S.tab.dum,S.tab.size]
    rfl
  unfold setRoomFor
  refine wpAny_bind (state_ok S ?_)
  dsimp only
  unfold SetTable.roomFor
  rw [fl,S.tab.size]
  by_cases c:(es.size+more) * 5 ≥ t.mask * 3
  · rw [if_pos c]
    dsimp only
    refine relay_set S (by omega) (by omega) fun es' t' h' sb S' p m1 m7=>h es' _ t' h' sb S' p ?_
    omega
  · rw [if_neg c]
    dsimp only
    exact wpAny_pure (h es ep t s.heap (Heap.SameBut.refl _ _) S (List.Perm.refl _) (by omega))
end
def Among (U:List Int) (l:List Int):Prop:=∀ x∈l,x∈U
theorem len_leI:∀ {l1 l2:List Int},l1.Nodup→(∀ e∈l1,e∈l2)→l1.length≤l2.length
  | [],_,_,_=>Nat.zero_le _
  | a::l1,l2,nd,h=>by
    have nd':=List.nodup_cons.mp nd
    have ha:=h a (List.mem_cons_self ..)
    have:=len_leI (l2:=l2.erase a) nd'.2 fun e he=>(List.mem_erase_of_ne (show e≠a from fun z=>nd'.1 (by rw [← z]; exact he))).mpr (h e (List.mem_cons_of_mem _ he))
    rw [List.length_erase_of_mem ha] at this
    have p:0<l2.length:=List.length_pos_of_mem ha
    rw [List.length_cons]
    omega
theorem Among.size {U:List Int} {es:Array (Int×Value)} (h:Among U (keys es)) (nd:(keys es).Nodup):es.size≤U.length:=by
  have:=len_leI nd h
  rw [List.length_map,Array.length_toList] at this
  exact this
theorem mem_ins {x k:Int} {l:List Int}:x∈ins k l↔x=k∨x∈l:=by
  unfold ins
  split
  · rename_i h
    constructor
    · exact .inr
    · rintro (z | z)
      · rw [z]; exact h
      · exact z
  · rw [List.mem_cons]
section
variable {prog:Program} {w:World} {A:Around} {E:Value→Shared→Prop}
theorem merge_loop {U:List Int} (hU:U.length≤62) {a o:Addr} (ao:a≠o) {eo:Array (Int×Value)} {epo:Nat} {to:SetTable} {each:Sem Unit}
    (hE:∀ (s:Shared) (Q:Unit→Shared→Prop),SetS w s.heap o eo epo to→Q () s→wpAny (model prog w) A each Q E s) :
    ∀ (l:List (Int×Value)) (s:Shared) (es:Array (Int×Value)) (ep:Nat) (t:SetTable) (Q:Unit→Shared→Prop),(∀ e∈l,isEnt e)→Among U (l.map keyOf)→Among U (keys es)→SetS w s.heap a es ep t→SetS w s.heap o eo epo to →
      (∀ es' ep' t' h',Heap.SameBut a s.heap h'→SetS w h' a es' ep' t'→(∀ x,x∈keys es'↔x∈keys es∨x∈l.map keyOf)→Q () { s with heap:=h' }) →
      wpAny (model prog w) A (forIn l PUnit.unit fun (x:Int×Value) _=>do
        let _ ← holding [x.2] (setAddHashed a x.2 x.1)
        each
        if (← setState o).2.1 != epo then unsupported "set.changed-during-merge"
        pure (ForInStep.yield PUnit.unit)) Q E s
  | [],s,es,ep,t,Q,_,_,_,S,_,h=>by
    rw [List.forIn_nil]
    exact wpAny_pure (h es ep t s.heap (Heap.SameBut.refl _ _) S (by simp))
  | e::l,s,es,ep,t,Q,he,hl,hk,S,So,h=>by
    obtain ⟨k,tk,rfl⟩:=he e (List.mem_cons_self ..)
    rw [List.forIn_cons]
    have n1:=hk.size S.nd
    refine wpAny_bind (wpAny_bind (wpAny_holding (add_ok S (by omega) fun b es1 ep1 t1 h1 sb1 S1 p1=>?_)))
    have So1:SetS w h1 o eo epo to:=So.keep fun ob q=>(sb1.2 o (Ne.symm ao)).trans q
    refine wpAny_bind (hE { s with heap:=h1 } _ So1 ?_)
    refine wpAny_bind (state_ok (s:={ s with heap:=h1 }) So1 ?_)
    dsimp only
    rw [if_neg (by simp)]
    refine wpAny_pure ?_
    have m1:∀ x,x∈keys es1↔x=k∨x∈keys es:=fun x=>by rw [p1.mem_iff,mem_ins]
    have hk1:Among U (keys es1):=fun x hx=>by
      rcases (m1 x).mp hx with z | z
      · rw [z]; exact hl k (List.mem_cons_self ..)
      · exact hk x z
    refine merge_loop hU ao hE l { s with heap:=h1 } es1 ep1 t1 Q (fun e hm=>he e (List.mem_cons_of_mem _ hm)) (fun x hx=>hl x (List.mem_cons_of_mem _ hx)) hk1 S1 So1 fun es2 ep2 t2 h2 sb2 S2 m2=>?_
    refine h es2 ep2 t2 h2 (sb1.trans sb2) S2 fun x=>?_
    rw [m2,m1,List.map_cons,List.mem_cons]
    show (x=k∨x∈keys es)∨x∈l.map keyOf↔x∈keys es∨x=k∨x∈l.map keyOf
    constructor
    · rintro ((z | z) | z)
      · exact .inr (.inl z)
      · exact .inl z
      · exact .inr (.inr z)
    · rintro (z | z | z)
      · exact .inl (.inr z)
      · exact .inl (.inl z)
      · exact .inr z
end
end NdS
namespace NdS
open PySem
section
variable {prog:Program} {w:World} {A:Around} {E:Value→Shared→Prop} {s:Shared}
theorem merge_ok {U:List Int} (hU:U.length≤62) {a o:Addr} (ao:a≠o) {es eo:Array (Int×Value)} {ep epo:Nat} {t to:SetTable} {each:Sem Unit} {Q:Unit→Shared→Prop} (hE:∀ (s:Shared) (Q:Unit→Shared→Prop),SetS w s.heap o eo epo to→Q () s→wpAny (model prog w) A each Q E s) (S:SetS w s.heap a es ep t) (So:SetS w s.heap o eo epo to) (hk:Among U (keys es)) (ho:Among U (keys eo)) (h:∀ es' ep' t' h',Heap.SameBut a s.heap h'→SetS w h' a es' ep' t'→(∀ x,x∈keys es'↔x∈keys es∨x∈keys eo)→Q () { s with heap:=h' }):wpAny (model prog w) A (setMerge a o each) Q E s:=by
  have n1:=hk.size S.nd
  have n2:=ho.size So.nd
  unfold setMerge
  rw [if_neg (by simpa using ao)]
  refine wpAny_bind (state_ok So ?_)
  dsimp only
  by_cases em:eo.isEmpty=true
  · rw [if_pos em]
    have : eo=#[]:=by simpa using em
    refine wpAny_pure (h es ep t s.heap (Heap.SameBut.refl _ _) S fun x=>?_)
    rw [this]
    simp
  rw [if_neg em]
  refine wpAny_bind (room_ok S (by omega) fun es1 ep1 t1 h1 sb1 S1 p1 r1=>?_)
  have So1:SetS w h1 o eo epo to:=So.keep fun ob q=>(sb1.2 o (Ne.symm ao)).trans q
  refine wpAny_bind (state_ok (s:={ s with heap:=h1 }) S1 ?_)
  dsimp only
  have z1:=keys_size p1
  have fl:t1.fill=es.size:=by
    unfold SetTable.fill
    rw [S1.tab.dum,S1.tab.size]
    exact z1
  have empty:t1.fill=0→∀ x,x∉keys es:=fun z x hx=>by
    have : es.size=0:=by omega
    have e:es=#[]:=Array.eq_empty_of_size_eq_zero this
    rw [e] at hx
    simp at hx
  cases hr:t1.road to with
  | slotForSlot =>
    unfold SetTable.road at hr
    split at hr
    · cases hr
    · rename_i hf
      have hf':t1.fill=0:=by simpa using hf
      split at hr
      · rename_i hm
        simp only [Bool.and_eq_true,beq_iff_eq] at hm
        refine store_set S1 So1.ent So1.nd (t':={ to with finger:=t1.finger,led:=t1.led && to.led,moves:=t1.moves,plain:=t1.plain && to.plain }) ⟨⟨So1.tab.good,So1.tab.dum,by show (t1.plain && to.plain)=true; rw [S1.tab.plain,So1.tab.plain]; rfl,So1.tab.rise,So1.tab.top,So1.tab.size⟩,So1.tab.room⟩
          (fun z=>by show (t1.led && to.led)=true; rw [S1.led z,So1.led z]; rfl) So1.few fun h2 sb2 S2=>?_
        refine h eo _ _ h2 (sb1.trans sb2) S2 fun x=>⟨.inr,fun z=>z.elim (fun q=>absurd q (empty hf' x)) id⟩
      · cases hr
  | clean =>
    have hf':t1.fill=0:=by
      unfold SetTable.road at hr
      split at hr
      · cases hr
      · rename_i hf
        simpa using hf
    have sz:(eo.map (·.1)).size=eo.size:=Array.size_map ..
    obtain ⟨t2,order,q1,q2,q3,q4⟩:=laid_tab (mask:=t1.mask) (finger:=t1.finger) (moves:=t1.moves) (led:=t1.led && to.led) S1.tab.good (eo.map (·.1)) (by rw [sz]; omega)
    rw [sz] at q2 q3
    obtain ⟨pk,ps⟩:=picked eo q2
    dsimp only
    have pl:(t1.plain && to.plain)=true:=by rw [S1.tab.plain,So1.tab.plain]; rfl
    rw [pl,q1]
    refine wpAny_bind ?_
    show wpAny (model prog w) A (do
      if (order.filterMap (eo[·]?)).size != eo.size then unsupported "internal:set-table-lost-an-element"
      pure (order.filterMap (eo[·]?),t2)) _ _ _
    rw [if_neg (by rw [ps]; simp)]
    refine wpAny_pure ?_
    dsimp only
    refine store_set S1 (fun e he=>So1.ent e (pk.mem_iff.mp he)) ((pk.map keyOf).nodup_iff.mpr So1.nd) (by rw [ps]; exact q3) (fun z=>by rw [q4,S1.led z,So1.led z]; rfl) (by rw [ps]; exact So1.few) fun h2 sb2 S2=>?_
    refine h _ _ _ h2 (sb1.trans sb2) S2 fun x=>?_
    rw [(pk.map keyOf).mem_iff]
    exact ⟨.inr,fun z=>z.elim (fun q=>absurd q (empty hf' x)) id⟩
  | oneByOne =>
    dsimp only
    refine wpAny_bind (unseen_ok (s:={ s with heap:=h1 }) So1 ?_)
    have wp:=walk_perm (w:=w) (a:=o) (es:=eo) (ep:=epo)
    generalize (if bt w then pickOrder (w.params.setOrder o epo) eo else eo)=arr at wp
    rw [← Array.forIn_toList]
    refine wpAny_bind (merge_loop hU ao hE arr.toList { s with heap:=h1 } es1 ep1 t1 _ (fun e he=>So1.ent e (wp.mem_iff.mp he)) (fun x hx=>ho x ((wp.map keyOf).mem_iff.mp hx)) (fun x hx=>hk x (p1.mem_iff.mp hx)) S1 So1 fun es2 ep2 t2 h2 sb2 S2 m2=>wpAny_pure ?_)
    refine h es2 ep2 t2 h2 (sb1.trans sb2) S2 fun x=>?_
    rw [m2,p1.mem_iff,(wp.map keyOf).mem_iff]
end
end NdS
namespace NdS
open PySem
theorem entry_set_or:entryFor table "set.__or__" = some Builtin.«frozenset.__or__» :=
  entryFor_alias (id' := "frozenset.__or__") (by kernel_rfl) (by first | rfl | decide +kernel) (by decide +kernel) (by kernel_rfl)
theorem sub_set_set:isSubtype (.type "set") (.type "set")=pure true:=by rw [isSubtype_type]; kernel_rfl
section
variable {prog:Program} {w:World} {A:Around} {E:Value→Shared→Prop} {s:Shared}
theorem SetS.ty {a:Addr} {es:Array (Int×Value)} {ep:Nat} {t:SetTable} (S:SetS w s.heap a es ep t):s.TypeIs (.ref a) "set" := ⟨_,S.obj,rfl⟩
theorem fresh_set {h:Heap}:SetS w (h.push (setObj #[] 0 (.fresh 0 0 (!bt w)))) h.objs.size #[] 0 (.fresh 0 0 (!bt w)) :=
  ⟨Heap.get?_push_size _ rfl,(fun e he=>by simp at he),List.Pairwise.nil,⟨⟨good8,rfl,rfl,List.Pairwise.nil,(fun j hj=>by simp [SetTable.fresh] at hj),rfl⟩,by show 0 * 5<7 * 3; decide⟩,(fun z=>by show (!bt w)=true; rw [z]; rfl),by decide⟩
theorem newSet_ok {Q:Value→Shared→Prop} (h:Q (.ref s.heap.objs.size) { s with heap:=s.heap.push (setObj #[] 0 (.fresh 0 0 (!bt w))) }):wpAny (model prog w) A (newSet (.type "set")) Q E s:=by
  unfold newSet
  refine wpAny_bind (byText_ok ?_)
  dsimp only
  simp only [newObj]
  exact wpAny_bind (wpAny_alloc (wpAny_pure h))
theorem anySet_ok {a:Addr} {Q:Bool→Shared→Prop} (T:s.TypeIs (.ref a) "set") (h:Q true s):wpAny (model prog w) A (Builtin.Frozenset.isAnySet (.ref a)) Q E s:=by
  unfold Builtin.Frozenset.isAnySet
  exact wpAny_bind (wpAny_isInstance T sub_set_set (wpAny_pure h))
theorem base_ok {a:Addr} {Q:Value→Shared→Prop} (T:s.TypeIs (.ref a) "set") (h:Q (.type "set") s):wpAny (model prog w) A (Builtin.Frozenset.baseOf a) Q E s:=by
  unfold Builtin.Frozenset.baseOf
  exact wpAny_bind (wpAny_isInstance T sub_set_set (wpAny_pure h))
theorem keep_of {h h' h2:Heap} {a:Addr} (k:∀ b o,h.get? b=some o→h'.get? b=some o) (n:h.get? a=none) (sb:Heap.SameBut a h' h2):∀ b o,h.get? b=some o→h2.get? b=some o:=fun b o e =>
  (sb.2 b (fun z=>by rw [z,n] at e; cases e)).trans (k b o e)
theorem copy_ok {U:List Int} (hU:U.length≤62) {a:Addr} {es:Array (Int×Value)} {ep:Nat} {t:SetTable} {Q:Value→Shared→Prop} (S:SetS w s.heap a es ep t) (hk:Among U (keys es)) (h:∀ es' ep' t' h',(∀ b o,s.heap.get? b=some o→h'.get? b=some o)→SetS w h' s.heap.objs.size es' ep' t'→(∀ x,x∈keys es'↔x∈keys es)→Q (.ref s.heap.objs.size) { s with heap:=h' }):wpAny (model prog w) A (Builtin.Frozenset.copyOf a) Q E s:=by
  have lt:=Heap.lt_size S.obj
  have ne:s.heap.objs.size≠a:=Nat.ne_of_gt lt
  unfold Builtin.Frozenset.copyOf
  refine wpAny_bind (base_ok S.ty (wpAny_bind (newSet_ok ?_)))
  refine wpAny_bind (m:=Builtin.Frozenset.addrOf (.ref s.heap.objs.size)) (wpAny_pure ?_)
  refine wpAny_bind (merge_ok (s:={ s with heap:=s.heap.push (setObj #[] 0 (.fresh 0 0 (!bt w))) }) hU ne (each:=pure ()) (fun s' Q' _ q=>wpAny_pure q) fresh_set (S.keep fun o q=>Heap.get?_push_of_some _ q) (fun x hx=>by simp at hx) hk fun es' ep' t' h' sb S' m=>wpAny_pure ?_)
  exact h es' ep' t' h' (keep_of (fun b o e=>Heap.get?_push_of_some _ e) (Heap.get?_none_of_le (Nat.le_refl _)) sb) S' fun x=>by rw [m]; simp
theorem or_ok {U:List Int} (hU:U.length≤62) {a b:Addr} (ab:a≠b) {ea eb:Array (Int×Value)} {epa epb:Nat} {ta tb:SetTable} {Q:Value→Shared→Prop} (Sa:SetS w s.heap a ea epa ta) (Sb:SetS w s.heap b eb epb tb) (ka:Among U (keys ea)) (kb:Among U (keys eb)) (h:∀ es' ep' t' h',(∀ c o,s.heap.get? c=some o→h'.get? c=some o)→SetS w h' s.heap.objs.size es' ep' t'→(∀ x,x∈keys es'↔x∈keys ea∨x∈keys eb)→Q (.ref s.heap.objs.size) { s with heap:=h' }):wpAny (model prog w) A (binaryOp .BitOr (.ref a) (.ref b)) Q E s:=by
  refine wpAny_binaryOp_same (id := "set.__or__") Sa.ty Sb.ty PySem.F.fills_set_or PySem.F.slot_set_or (wpAny_call_entry PySem.F.slot_set_or Sa.ty entry_set_or ?_ (PySem.F.args_set_or_2 _ _))
  show wpAny (model prog w) _ (do
    let (self,other) ← Builtin.Frozenset.slot1 "__or__" ⟨[.ref a,.ref b],[]⟩
    let (l,r):=(self,other)
    if !(← Builtin.Frozenset.isAnySet l <&&> Builtin.Frozenset.isAnySet r) then rule s!"frozenset.{"__or__"}.declined"; return ← ret .notImplemented
    ret (← (do
      let result ← Builtin.Frozenset.copyOf (← Builtin.Frozenset.addrOf l)
      if r != .ref (← Builtin.Frozenset.addrOf l) then holding [result] (Builtin.Frozenset.updateFrom s!"frozenset.{"__or__"}" (← Builtin.Frozenset.addrOf result) r)
      return result))) _ _ _
  refine wpAny_bind (m:=Builtin.Frozenset.slot1 "__or__" ⟨[.ref a,.ref b],[]⟩) (wpAny_of_eq (a:=(Value.ref a,Value.ref b)) rfl ?_)
  dsimp only
  refine wpAny_bind (wpAny_bind (anySet_ok Sa.ty ?_))
  refine anySet_ok Sb.ty ?_
  simp only [Bool.not_true,Bool.false_eq_true,if_false]
  refine wpAny_bind (wpAny_bind (m:=Builtin.Frozenset.addrOf (.ref a)) (wpAny_pure (wpAny_bind (copy_ok hU Sa ka fun e1 p1 t1 h1 k1 S1 m1=>?_))))
  have ne:s.heap.objs.size≠b:=Nat.ne_of_gt (Heap.lt_size Sb.obj)
  have nr:s.heap.get? s.heap.objs.size=none:=Heap.get?_none_of_le (Nat.le_refl _)
  have Sb1:SetS w h1 b eb epb tb:=Sb.keep fun o q=>k1 b o q
  refine wpAny_bind (m:=Builtin.Frozenset.addrOf (.ref a)) (wpAny_pure ?_)
  rw [if_pos (show (Value.ref b != Value.ref a)=true by simpa using Ne.symm ab)]
  refine wpAny_bind (m:=Builtin.Frozenset.addrOf (.ref s.heap.objs.size)) (wpAny_pure (wpAny_bind (wpAny_holding ?_)))
  unfold Builtin.Frozenset.updateFrom
  refine wpAny_bind (anySet_ok (s:={ s with heap:=h1 }) (w:=w) Sb1.ty ?_)
  rw [if_pos rfl]
  refine wpAny_bind (m:=Builtin.Frozenset.addrOf (.ref b)) (wpAny_pure ?_)
  unfold Builtin.Frozenset.merge setEpoch
  refine wpAny_bind (wpAny_bind (state_ok (s:={ s with heap:=h1 }) Sb1 (wpAny_pure ?_)))
  refine merge_ok (s:={ s with heap:=h1 }) hU ne (fun s' Q' So' q'=>?_) S1 Sb1 (fun x hx=>ka x ((m1 x).mp hx)) kb fun e2 p2 t2 h2 sb2 S2 m2=>?_
  · unfold Builtin.Frozenset.unchanged setEpoch
    refine wpAny_bind (wpAny_bind (state_ok So' (wpAny_pure ?_)))
    dsimp only
    rw [if_neg (by simp)]
    exact wpAny_pure q'
  · refine wpAny_pure (wpAny_pure ⟨_,rfl,(fun z=>nomatch z),h e2 p2 t2 h2 (keep_of k1 nr sb2) S2 fun x=>by rw [m2,m1]⟩)
end
end NdS
namespace NdS
open PySem PyProof.Rows
section
variable {prog:Program} {w:World} {A:Around} {R:Result→Shared→Prop}
theorem upd_loop {U:List Int} (hU:U.length≤62) {a it l:Addr} (n1:a≠it) (n2:a≠l) (n3:l≠it) {items:Array Value} {ns:List Int} (hI:IntsAre items.toList ns) (hN:Among U ns) (hh:A.in1.handled=none):∀ (k i:Nat) (s:Shared) (es:Array (Int×Value)) (ep:Nat) (t:SetTable),items.size - i=k→i≤items.size→s.heap.IsTupleIter it l i→s.heap.IsTuple l items→SetS w s.heap a es ep t→Among U (keys es)→(∀ es' ep' t' h' tk,(∀ b o,b≠a→b≠it→s.heap.get? b=some o→h'.get? b=some o)→SetS w h' a es' ep' t'→(∀ x,x∈keys es'↔x∈keys es∨x∈ns.drop i)→R (.ok (.ret .none)) { s with heap:=h',toks:=tk })→codeAny (model prog w) A (.builtin "set.update.loop" ⟨[.ref a,.ref it],[]⟩) R s:=by
  have len:ns.length=items.size:=by rw [← hI.length,Array.length_toList]
  intro k
  induction k with
  | zero =>
    intro i s es ep t hk hi hit hl S hu hR
    have e:i=items.size:=by omega
    refine codeAny_builtin PyProof.Rows.F.entry_set_update_loop ?_
    rw [Around.under_plainId PyProof.Rows.F.plain_set_update_loop _]
    show wpAny _ A.in1 (pyNext (.ref it) >>= _) _ _ s
    refine wpAny_bind (wpAny_pyNext_tuple_end hh hit hl (by rw [e]; simp) fun h' x=>?_)
    refine wpAny_pure (hR es ep t h' s.toks (fun b o _ q e=>x b o q e) (S.keep fun o q=>x a o n1 q) fun x=>?_)
    rw [e,← len,List.drop_length]
    simp
  | succ k ih =>
    intro i s es ep t hk hi hit hl S hu hR
    have lt:i<items.size:=by omega
    have lt':i<ns.length:=by omega
    obtain ⟨tk,ev⟩:=IntsAre.int_at hI i items[i] (by simp [lt])
    have eg:ns.getD i 0=ns[i]:=by simp [List.getD,lt']
    rw [eg] at ev
    refine codeAny_builtin PyProof.Rows.F.entry_set_update_loop ?_
    rw [Around.under_plainId PyProof.Rows.F.plain_set_update_loop _]
    show wpAny _ A.in1 (pyNext (.ref it) >>= _) _ _ s
    refine wpAny_bind (wpAny_pyNext_tuple_item hit hl (x:=items[i]) (by simp [lt]) fun h1 hit1 sb1=>?_)
    rw [ev]
    show wpAny _ A.in1 (holding [Value.int ns[i] tk] (setAdd a (.int ns[i] tk)) >>= _) _ _ _
    refine wpAny_bind (wpAny_holding ?_)
    unfold setAdd
    refine wpAny_holding (wpAny_bind ((intKind prog w).pyHash (k:=ns[i]) (intKind_is _ _ _ _) ?_))
    have S1:SetS w h1 a es ep t:=S.keep fun o q=>(sb1.2 a n1).trans q
    have z:=hu.size S1.nd
    refine add_ok (s:={ s with heap:=h1,toks:=s.toks+1 }) S1 (by omega) fun b es2 ep2 t2 h2 sb2 S2 p2=>?_
    have m2:∀ x,x∈keys es2↔x=ns[i]∨x∈keys es:=fun x=>by rw [p2.mem_iff,mem_ins]
    refine wpAny_pure ⟨plainId_quiet PyProof.Rows.F.plain_set_update_loop _,?_⟩
    refine ih (i+1) { s with heap:=h2,toks:=s.toks+1 } es2 ep2 t2 (by omega) lt ?_ ?_ S2 (fun x hx=>?_) fun es3 ep3 t3 h3 tk3 k3 S3 m3=>?_
    · obtain ⟨o,ho,r⟩:=hit1
      exact ⟨o,(sb2.2 it (Ne.symm n1)).trans ho,r⟩
    · obtain ⟨o,ho,r⟩:=hl
      exact ⟨o,(sb2.2 l (Ne.symm n2)).trans ((sb1.2 l n3).trans ho),r⟩
    · rcases (m2 x).mp hx with q | q
      · rw [q]; exact hN _ (List.getElem_mem lt')
      · exact hu x q
    · refine hR es3 ep3 t3 h3 tk3 (fun b o q1 q2 e=>k3 b o q1 q2 ((sb2.2 b q1).trans ((sb1.2 b q2).trans e))) S3 fun x=>?_
      rw [m3,m2,List.drop_eq_getElem_cons lt',List.mem_cons]
      constructor
      · rintro ((q | q) | q)
        · exact .inr (.inl q)
        · exact .inl q
        · exact .inr (.inr q)
      · rintro (q | q | q)
        · exact .inl (.inr q)
        · exact .inl (.inl q)
        · exact .inr q
end
section
variable {prog:Program} {w:World} {A:Around} {E:Value→Shared→Prop} {s:Shared}
theorem new_code (v:Value) {Q:Value→Shared→Prop} (h:Q (.ref s.heap.objs.size) { s with heap:=s.heap.push (setObj #[] 0 (.fresh 0 0 (!bt w))) }):codeAny (model prog w) A (.call (.builtin "set.__new__") ⟨[.type "set",v],[]⟩) (wants Q E) s:=by
  have sub:=sub_set_set
  obtain ⟨hp,g,d,tk,os⟩:=s
  refine codeAny_of_tree (show wpAny _ A.in1 (do checkBuiltinCall "set.__new__" ⟨[.type "set",v],[]⟩; again (.builtin "set.__new__" ⟨[.type "set",v],[]⟩)) _ _ _ from ?_)
  refine wpAny_bind (wpAny_of_eq (PySem.F.newCall_set_1 v) (wpAny_pure ⟨plainId_quiet PySem.F.plain_set_new _,codeAny_builtin PySem.F.entry_set_new ?_⟩))
  rw [Around.under_plainId PySem.F.plain_set_new _]
  unfold Builtin.«set.__new__» Builtin.Frozenset.newClass
  dsimp only
  wp_walk
  refine wpAny_askSetting (wpAny_pure ?_)
  dsimp only
  simp only [newObj]
  exact wpAny_bind (wpAny_alloc (wpAny_pure (wpAny_pure h)))
theorem set_tup {U:List Int} (hU:U.length≤62) {l:Addr} {items:Array Value} {ns:List Int} {Q:Value→Shared→Prop} (hh:A.handled=none) (hl:s.heap.IsTuple l items) (hI:IntsAre items.toList ns) (hN:Among U ns) (h:∀ es ep t h' tk,(∀ b o,s.heap.get? b=some o→h'.get? b=some o)→SetS w h' s.heap.objs.size es ep t→(∀ x,x∈keys es↔x∈ns)→Q (.ref s.heap.objs.size) { s with heap:=h',toks:=tk }):wpAny (model prog w) A (call (.type "set") [.ref l]) Q E s:=by
  obtain ⟨c,tl,hmro⟩:=PySem.F.called_set.mro
  have hmade:=PySem.F.called_set.made
  have hsub:=PySem.F.called_set.sub
  have h1:=PySem.F.called_set.notType
  have h2:=PySem.F.called_set.canCreate
  have hct:=PySem.F.typeCall_set_1 (.ref l)
  refine wpAny_call (codeAny_of_tree (show wpAny _ _ (callAny (.type "set") _) _ _ _ from ?_))
  refine wpAny_pure ⟨Code.quiet_builtin _ (by decide +kernel),codeAny_builtin PySem.F.entry_type_call ?_⟩
  rw [Around.under_plain (weight_type_call_type "set" [.ref l] []) rfl]
  repeat (any_goals (first | assumption | wp_step))
  refine codeAny_mono (new_code (.ref l) (E:=E) (Q:=fun v s1=>v=.ref s.heap.objs.size∧s1={ s with heap:=s.heap.push (setObj #[] 0 (.fresh 0 0 (!bt w))) }) ⟨rfl,rfl⟩) fun r s1 hr=>?_
  rcases r with e | (_ | _ | _ | v)
  · exact hr
  · exact hr.elim
  · exact hr.elim
  · exact hr.elim
  obtain ⟨rfl,rfl⟩:=hr
  have S0:=fresh_set (w:=w) (h:=s.heap)
  have T0:Shared.TypeIs { s with heap:=s.heap.push (setObj #[] 0 (.fresh 0 0 (!bt w))) } (.ref s.heap.objs.size) "set" := ⟨_,S0.obj,rfl⟩
  have hli:=PySem.F.called_set.init.lookup
  have hbi:=PySem.F.called_set.init.bind (.ref s.heap.objs.size)
  repeat (any_goals (first | assumption | wp_step))
  refine codeAny_mono (codeAny_call_builtin (R:=wants (fun r s2=>r=.none∧∃ es ep t h' tk,s2={ s with heap:=h',toks:=tk }∧(∀ b o,s.heap.get? b=some o→h'.get? b=some o)∧SetS w h' s.heap.objs.size es ep t∧∀ x,x∈keys es↔x∈ns) E)
    PySem.F.called_set.init.plain PySem.F.entry_set_init (check_set_init_1 T0 ?_)) fun r s2 hr=>?_
  · obtain ⟨⟨oc,od,odt,osl⟩,ho,hc,n,hd⟩:=id hl
    have hc':oc=.type "tuple" := hc
    have hd':odt=.seq items n:=hd
    subst hc' hd'
    have ho':=Heap.get?_push_of_some (setObj #[] 0 (.fresh 0 0 (!bt w))) ho
    have hl1:(s.heap.push (setObj #[] 0 (.fresh 0 0 (!bt w)))).IsTuple l items:=⟨_,ho',rfl,n,rfl⟩
    have f1:=PySem.F.sub_tuple_set
    have f2:=PySem.F.sub_tuple_frozenset
    have f3:(Value.type "tuple" == Value.type "dict")=false:=by decide
    have lt:=Heap.lt_size ho
    unfold Builtin.«set.__init__» noKeywords Builtin.Frozenset.updateFrom
    generalize hPI:pyIter=PI
    wp_walk
    subst hPI
    refine wpAny_pyIter_tuple hl1 (wpAny_bind (wpAny_runValue ?_))
    have sz:(s.heap.push (setObj #[] 0 (.fresh 0 0 (!bt w)))).objs.size=s.heap.objs.size+1:=Heap.size_push _ _
    have g1:((s.heap.push (setObj #[] 0 (.fresh 0 0 (!bt w)))).push { cls:=.type "tuple_iterator",data:=.fields #[.ref l,.int 0 0] }).get? (s.heap.push (setObj #[] 0 (.fresh 0 0 (!bt w)))).objs.size=some { cls:=.type "tuple_iterator",data:=.fields #[.ref l,.int 0 0] }:=Heap.get?_push_size _ rfl
    refine upd_loop hU (by rw [sz]; exact Nat.ne_of_lt (Nat.lt_succ_self _)) (Nat.ne_of_gt lt) (by rw [sz]; exact Nat.ne_of_lt (Nat.lt_succ_of_lt lt)) hI hN (by simp [hh]) (items.size - 0) 0 _ #[] 0 (.fresh 0 0 (!bt w)) rfl (Nat.zero_le _) ⟨_,g1,rfl,rfl⟩ ⟨_,Heap.get?_push_of_some _ ho',rfl,n,rfl⟩
      (S0.keep fun o q=>Heap.get?_push_of_some _ q) (fun x hx=>by simp at hx) fun es ep t h' tk k' S' m'=>?_
    refine wpAny_pure (wpAny_pure ⟨rfl,es,ep,t,h',tk,rfl,fun b o e=>?_,S',fun x=>?_⟩)
    · have lb:=Heap.lt_size e
      exact k' b o (Nat.ne_of_lt lb) (by rw [sz]; exact Nat.ne_of_lt (Nat.lt_succ_of_lt lb)) (Heap.get?_push_of_some _ (Heap.get?_push_of_some _ e))
    · rw [m',List.drop_zero]
      simp
  · rcases r with e | (_ | _ | _ | v)
    · exact hr
    · exact hr.elim
    · exact hr.elim
    · exact hr.elim
    obtain ⟨rfl,es,ep,t,h',tk,rfl,k',S',m'⟩:=hr
    repeat (any_goals (first | assumption | wp_step))
    exact h es ep t h' tk k' S' m'
end
end NdS
namespace NdS
open PySem PyProof.Rows
theorem slot_next:Slot "set_iterator" "__next__" "set_iterator.__next__" :=
  .of (owner := "set_iterator") (n := "__next__") (by rw [typeLookup_type,builtinLookup_eq_fast]; kernel_rfl) (by decide +kernel) (by decide +kernel) (by decide +kernel) (by first | exact .inl (by decide +kernel) | exact .inr (by decide +kernel)) (by rw [isSubtype_type]; kernel_rfl)
theorem entry_next:entryFor table "set_iterator.__next__" = some Builtin.«set_iterator.__next__»:=entryFor_of_tree (by kernel_rfl)
theorem args_next (a:Value):argsOk "set_iterator.__next__" ⟨[a],[]⟩:=by unfold argsOk; kernel_rfl
theorem entry_iter:entryFor table "set.__iter__" = some Builtin.«frozenset.__iter__» :=
  entryFor_alias (id' := "frozenset.__iter__") (by kernel_rfl) (by first | rfl | decide +kernel) (by decide +kernel) (by kernel_rfl)
abbrev itObj (f i:Nat) (a:Addr) (n ep:Nat):Obj:={ cls:=.type "set_iterator",data:=.fields #[rawInt f,rawInt i,.ref a,rawInt n,rawInt ep] }
def arrOf (w:World) (a:Addr) (ep:Nat) (es:Array (Int×Value)):Array (Int×Value):=if bt w then pickOrder (w.params.setOrder a ep) es else es
theorem arr_perm {w:World} {a:Addr} {ep:Nat} {es:Array (Int×Value)}:(arrOf w a ep es).toList.Perm es.toList:=walk_perm
theorem arr_size {w:World} {a:Addr} {ep:Nat} {es:Array (Int×Value)}:(arrOf w a ep es).size=es.size:=by
  have:=(arr_perm (w:=w) (a:=a) (ep:=ep) (es:=es)).length_eq
  rw [Array.length_toList,Array.length_toList] at this
  exact this
def Stand (w:World) (I a:Addr) (es:Array (Int×Value)) (ep:Nat) (t:SetTable) (i:Nat) (h:Heap):Prop :=
  (∃ f,h.get? I=some (itObj f i a es.size ep)∧(bt w=false→SetTable.below t.place f=i))∧SetS w h a es ep t
section
variable {prog:Program} {w:World} {A:Around} {E:Value→Shared→Prop} {s:Shared}
theorem iter_ok {a:Addr} {es:Array (Int×Value)} {ep:Nat} {t:SetTable} {Q:Value→Shared→Prop} (S:SetS w s.heap a es ep t) (h:Q (.ref s.heap.objs.size) { s with heap:=s.heap.push (itObj 0 0 a es.size ep) }):wpAny (model prog w) A (pyIter (.ref a)) Q E s:=by
  refine wpAny_pyIter_slot S.ty PySem.F.slot_set_iter (wpAny_call_entry PySem.F.slot_set_iter S.ty entry_iter ?_ (PySem.F.args_set_iter_1 _))
  unfold Builtin.«frozenset.__iter__»
  refine wpAny_bind (m:=Builtin.Frozenset.slot0 "__iter__" ⟨[.ref a],[]⟩) (wpAny_of_eq (a:=a) rfl ?_)
  unfold Builtin.Frozenset.sizeOf setEntries setDrawn setEpoch
  refine wpAny_bind (wpAny_bind (wpAny_bind (state_ok S (wpAny_pure (wpAny_pure ?_)))))
  refine wpAny_bind (wpAny_bind (state_ok S ?_))
  dsimp only
  refine wpAny_bind (byText_ok (wpAny_pure ?_))
  have hp:=S.tab.plain
  have tail:wpAny (model prog w) A.in1 (do
      let first ← (pure (rawInt 0):Sem Value)
      ret (← newFields "set_iterator" [first,rawInt 0,.ref a,rawInt es.size,rawInt (← (do return (← setState a).2.1))])) (fun fin s'=>∃ v,fin=.done (.ret v)∧∃ T' r,s'.TypeIs v T'∧typeLookup (.type T') "__next__" = pure (some r)∧Q v s') E s:=by
    refine wpAny_bind (wpAny_pure ?_)
    refine wpAny_bind (wpAny_bind (state_ok S (wpAny_pure ?_)))
    refine wpAny_bind (wpAny_newObj_type (wpAny_pure ⟨_,rfl, "set_iterator",_,⟨_,Heap.get?_push_size _ rfl,rfl⟩,slot_next.lookup,h⟩))
  obtain ⟨mask,place,dummies,finger,led,moves,plain⟩:=t
  have hp':plain=true:=hp
  subst hp'
  cases hb:bt w with
  | true=>exact tail
  | false=>exact tail
theorem setNext_at {a:Addr} {es:Array (Int×Value)} {ep f i:Nat} {t:SetTable} {Q:Option (Value×Nat)→Shared→Prop} (S:SetS w s.heap a es ep t) (hf:bt w=false→SetTable.below t.place f=i) (h1:∀ (hi:i<es.size) f',(bt w=false→SetTable.below t.place f'=i+1)→Q (some (((arrOf w a ep es)[i]'(by rw [arr_size]; exact hi)).2,f')) s) (h2:es.size≤i→Q none s):wpAny (model prog w) A (setNext a f i ep) Q E s:=by
  unfold setNext
  refine wpAny_bind (state_ok S ?_)
  dsimp only
  refine wpAny_bind (byText_ok ?_)
  cases hb:bt w with
  | true =>
    rw [if_pos rfl,if_neg (by simp)]
    refine wpAny_bind (walk_ok S (wpAny_pure ?_))
    show Q (((arrOf w a ep es)[i]?).map fun e=>(e.2,f)) s
    by_cases hi:i<es.size
    · rw [Array.getElem?_eq_getElem (by rw [arr_size]; exact hi)]
      exact h1 hi f (fun z=>by rw [hb] at z; cases z)
    · rw [Array.getElem?_eq_none (by rw [arr_size]; omega)]
      exact h2 (by omega)
  | false =>
    have hl:=S.led hb
    have hp:=S.tab.plain
    have tail:wpAny (model prog w) A (pure (match es[SetTable.below t.place f]?,t.place[SetTable.below t.place f]? with
        | some (_,x),some j=>some (x,j+1)
        | _,_=>none):Sem (Option (Value×Nat))) Q E s:=by
      rw [hf hb]
      by_cases hi:i<es.size
      · have hi2:i<t.place.size:=by rw [S.tab.size]; exact hi
        rw [Array.getElem?_eq_getElem hi,Array.getElem?_eq_getElem hi2]
        refine wpAny_pure ?_
        have:=h1 hi (t.place[i]+1) (fun _=>below_next S.tab.rise hi2)
        have e:arrOf w a ep es=es:=by unfold arrOf; rw [hb]; rfl
        simp only [e] at this
        exact this
      · rw [Array.getElem?_eq_none (by omega)]
        exact wpAny_pure (h2 (by omega))
    obtain ⟨mask,place,dummies,finger,led,moves,plain⟩:=t
    have hl':led=true:=hl
    have hp':plain=true:=hp
    subst hl' hp'
    exact wpAny_bind (m:=(pure ():Sem Unit)) (wpAny_pure tail)
theorem next_item {I a:Addr} {es:Array (Int×Value)} {ep:Nat} {t:SetTable} {i:Nat} {Q:Option Value→Shared→Prop} (st:Stand w I a es ep t i s.heap) (ne:a≠I) (hi:i<es.size) (h:∀ h',Stand w I a es ep t (i+1) h'→Heap.SameBut I s.heap h'→Q (some ((arrOf w a ep es)[i]'(by rw [arr_size]; exact hi)).2) { s with heap:=h' }):wpAny (model prog w) A (pyNext (.ref I)) Q E s:=by
  obtain ⟨⟨f,ho,hf⟩,S⟩:=st
  have T:s.TypeIs (.ref I) "set_iterator" := ⟨_,ho,rfl⟩
  unfold pyNext
  refine wpAny_bind (wpAny_attempt (wpAny_callSpecial?_slot (name:=Str.ofString "__next__") T slot_next (wpAny_call_entry slot_next T entry_next ?_ (args_next _))))
  unfold Builtin.«set_iterator.__next__»
  refine wpAny_bind (m:=slotArgs "__next__" 0 ⟨[.ref I],[]⟩) (wpAny_of_eq (a:=(Value.ref I,[])) rfl ?_)
  dsimp only
  refine wpAny_bind (wpAny_fieldsOf ho rfl ?_)
  show wpAny (model prog w) A.in1 (do
    if (((← setEntries a).size:Nat):Int) != (es.size:Int) then
      rule "set_iterator.__next__.size-changed"
      setField (.ref I) 3 (rawInt (-1))
      raiseError "RuntimeError" "Set changed size during iteration"
    match ← setNext a (f:Int).toNat (i:Int).toNat (ep:Int).toNat with
    | some (x,next) =>
      setField (.ref I) 0 (rawInt next)
      setField (.ref I) 1 (rawInt ((i:Int)+1))
      ret x
    | none=>setField (.ref I) 2 .none; raiseNew (← newExc (.type "StopIteration") [])) _ _ _
  unfold setEntries
  refine wpAny_bind (wpAny_bind (state_ok S (wpAny_pure ?_)))
  rw [if_neg (by simp)]
  simp only [Int.toNat_natCast]
  refine wpAny_bind (setNext_at S hf (fun _ f' hf'=>?_) (fun z=>absurd hi (by omega)))
  dsimp only
  refine wpAny_bind (wpAny_setField ho rfl (by simp) ?_)
  have g1:(s.heap.update I (Obj.mapFields (·.setIfInBounds 0 (rawInt f')))).get? I=some (itObj f' i a es.size ep):=Heap.get?_update_self _ ho rfl
  refine wpAny_bind (wpAny_setField g1 rfl (by simp) (wpAny_pure ⟨_,rfl,wpAny_pure (h _ ⟨⟨f',?_,hf'⟩,?_⟩ ((Heap.SameBut.update ..).trans (Heap.SameBut.update ..)))⟩))
  · exact Heap.get?_update_self _ g1 rfl
  · refine S.keep fun o q=>?_
    exact ((Heap.SameBut.update _ _ _).2 a ne).trans (((Heap.SameBut.update _ _ _).2 a ne).trans q)
theorem next_end {I a:Addr} {es:Array (Int×Value)} {ep:Nat} {t:SetTable} {Q:Option Value→Shared→Prop} (hh:A.handled=none) (st:Stand w I a es ep t es.size s.heap) (h:∀ h',Heap.ExtBut I s.heap h'→Q none { s with heap:=h' }):wpAny (model prog w) A (pyNext (.ref I)) Q E s:=by
  obtain ⟨⟨f,ho,hf⟩,S⟩:=st
  have T:s.TypeIs (.ref I) "set_iterator" := ⟨_,ho,rfl⟩
  unfold pyNext
  refine wpAny_bind (wpAny_attempt (wpAny_callSpecial?_slot (name:=Str.ofString "__next__") T slot_next (wpAny_call_entry slot_next T entry_next ?_ (args_next _))))
  unfold Builtin.«set_iterator.__next__»
  refine wpAny_bind (m:=slotArgs "__next__" 0 ⟨[.ref I],[]⟩) (wpAny_of_eq (a:=(Value.ref I,[])) rfl ?_)
  dsimp only
  refine wpAny_bind (wpAny_fieldsOf ho rfl ?_)
  show wpAny (model prog w) A.in1 (do
    if (((← setEntries a).size:Nat):Int) != (es.size:Int) then
      rule "set_iterator.__next__.size-changed"
      setField (.ref I) 3 (rawInt (-1))
      raiseError "RuntimeError" "Set changed size during iteration"
    match ← setNext a (f:Int).toNat (es.size:Int).toNat (ep:Int).toNat with
    | some (x,next) =>
      setField (.ref I) 0 (rawInt next)
      setField (.ref I) 1 (rawInt ((es.size:Int)+1))
      ret x
    | none=>setField (.ref I) 2 .none; raiseNew (← newExc (.type "StopIteration") [])) _ _ _
  unfold setEntries
  refine wpAny_bind (wpAny_bind (state_ok S (wpAny_pure ?_)))
  rw [if_neg (by simp)]
  simp only [Int.toNat_natCast]
  refine wpAny_bind (setNext_at S hf (fun z _ _=>absurd z (Nat.lt_irrefl _)) (fun _=>?_))
  dsimp only
  refine wpAny_bind (wpAny_setField ho rfl (by simp) (wpAny_bind ?_))
  simp only [newExc,newTuple]
  refine wpAny_bind (wpAny_newObj_type ?_ (by size_fits))
  refine wpAny_bind (m:=firstArgMember _ _) (wpAny_of_eq (a:=Value.none) (by first | rfl | (simp only [firstArgMember]; rfl)) (wpAny_newObj_type ?_ (by size_fits)))
  simp only [raiseNew]
  refine wpAny_bind (wpAny_handled ?_)
  rw [show A.in1.handled=none from hh]
  refine wpAny_bind (wpAny_pure (wpAny_throw ?_))
  refine wpAny_bind (wpAny_isInstance (T := "StopIteration") (b:=true) ⟨_,Heap.get?_push_size _ rfl,rfl⟩ isSubtype_stop ?_)
  exact wpAny_pure (h _ (((Heap.SameBut.update ..).extBut.push _).push _))
end
end NdS
namespace NdS
open PySem PyProof.Rows
theorem slot_self:Slot "set_iterator" "__iter__" "set_iterator.__iter__" :=
  .of (owner := "set_iterator") (n := "__iter__") (by rw [typeLookup_type,builtinLookup_eq_fast]; kernel_rfl) (by decide +kernel) (by decide +kernel) (by decide +kernel) (by first | exact .inl (by decide +kernel) | exact .inr (by decide +kernel)) (by rw [isSubtype_type]; kernel_rfl)
theorem entry_self:entryFor table "set_iterator.__iter__" = some Builtin.«dict_keyiterator.__iter__» :=
  entryFor_alias (id' := "dict_keyiterator.__iter__") (by kernel_rfl) (by first | rfl | decide +kernel) (by decide +kernel) (by kernel_rfl)
theorem args_self (a:Value):argsOk "set_iterator.__iter__" ⟨[a],[]⟩:=by unfold argsOk; kernel_rfl
section
variable {prog:Program} {w:World} {A:Around} {E:Value→Shared→Prop} {s:Shared}
theorem walks_set (hh:A.handled=none) {I a:Addr} (ne:a≠I) (es:Array (Int×Value)) (ep:Nat) (t:SetTable):Walks prog w A I [I,a] [I] es.size (fun i v=>∃ e,(arrOf w a ep es)[i]? = some e∧v=e.2) (fun i h=>Stand w I a es ep t i h) where
  sub:=fun b hb=>by simp at hb; simp [hb]
  frame:=fun i h h' ⟨⟨f,ho,hf⟩,S⟩ hk=>⟨⟨f,hk I (by simp) _ ho,hf⟩,S.keep fun o q=>hk a (by simp) o q⟩
  item:=fun i s Q E hi st hQ=>next_item st ne hi fun h' st' sb=>hQ _ h' s.toks ⟨_,Array.getElem?_eq_getElem (by rw [arr_size]; exact hi),rfl⟩ st' fun b o hb e=>(sb.2 b (fun z=>hb (by simp [z]))).trans e
  done:=fun s Q E st hQ=>next_end hh st fun h' x=>hQ h' s.toks fun b o hb e=>x b o (fun z=>hb (by simp [z])) e
  self:=fun i s Q E st hQ=>by
    obtain ⟨⟨f,ho,hf⟩,S⟩:=st
    have T:s.TypeIs (.ref I) "set_iterator" := ⟨_,ho,rfl⟩
    refine wpAny_pyIter_slot T slot_self (wpAny_call_entry slot_self T entry_self ?_ (args_self _))
    exact wpAny_pure ⟨_,rfl, "set_iterator",_,T,slot_next.lookup,hQ⟩
theorem hint_set {r:Addr} {Q:Bool→Shared→Prop} (hT:s.TypeIs (.ref r) "set") (h:Q false s):wpAny (model prog w) A (Builtin.List.listLengthHint (.ref r)) Q E s:=by
  unfold Builtin.List.listLengthHint
  refine wpAny_bind (wpAny_specialOf hT PySem.F.slot_set_len.lookup ?_)
  generalize hid:("set.__len__" : String)=id0
  wp_delta
  rw [show splitId id0=some ("set", "__len__") from by subst hid; decide +kernel]
  subst hid
  refine wpAny_bind (wpAny_isInstance (T := "set") (b:=true) hT sub_set_set ?_)
  refine wpAny_ite_split (fun z=>absurd z (by decide)) (fun _=>wpAny_ite_split (fun _=>?_) (fun z=>absurd (by decide +kernel) z))
  exact wpAny_bind (wpAny_typeOf hT (wpAny_pure h))
theorem src_set (a:Addr) (es:Array (Int×Value)) (ep:Nat) (t:SetTable):PySem.W.KdlSrc prog w "set" a a es.size (fun i v=>∃ e,(arrOf w a ep es)[i]? = some e∧v=e.2) (fun h=>SetS w h a es ep t) where
  type:=fun s S=>S.ty
  there:=fun h S=>⟨Heap.lt_size S.obj,Heap.lt_size S.obj⟩
  keep:=fun h h' S k=>S.keep fun o q=>k a (.inl rfl) o q
  notList:=by decide
  notTuple:=by decide
  hint:=fun A E s Q S h=>hint_set S.ty h
  iter:=fun A s hh S=>by
    have lt:=Heap.lt_size S.obj
    refine ⟨itObj 0 0 a es.size ep,fun i h=>Stand w s.heap.objs.size a es ep t i h,fun E Q h=>iter_ok S h,?_,⟨⟨0,Heap.get?_push_size _ rfl,fun _=>below_first S.tab.rise⟩,S.keep fun o q=>Heap.get?_push_of_some _ q⟩⟩
    exact walks_set hh (Nat.ne_of_lt lt) es ep t
theorem ints_of_items {arr:Array (Int×Value)} (he:∀ e∈arr.toList,isEnt e) {acc:Array Value} (h:ItemsOf (fun i v=>∃ e,arr[i]? = some e∧v=e.2) acc arr.size):IntsAre acc.toList (arr.toList.map keyOf):=by
  have key:∀ (l:List (Int×Value)) (vs:List Value),(∀ e∈l,isEnt e)→vs.length=l.length→(∀ (j:Nat) v,vs[j]? = some v→∃ e,l[j]? = some e∧v=e.2)→IntsAre vs (l.map keyOf):=by
    intro l
    induction l with
    | nil =>
      intro vs _ hl _
      cases vs with
      | nil=>exact .nil
      | cons v vs=>cases hl
    | cons e l ih =>
      intro vs he hl hv
      cases vs with
      | nil=>cases hl
      | cons v vs =>
        obtain ⟨k,tk,rfl⟩:=he e (List.mem_cons_self ..)
        obtain ⟨e',h1,h2⟩:=hv 0 v rfl
        cases h1
        subst h2
        exact .cons k tk (ih vs (fun e hm=>he e (List.mem_cons_of_mem _ hm)) (by simpa using hl) fun j u hj=>hv (j+1) u (by simpa using hj))
  refine key arr.toList acc.toList he (by rw [Array.length_toList,Array.length_toList]; exact h.1) fun j v hj=>?_
  obtain ⟨e,h1,h2⟩:=h.2 j v (by rw [← Array.getElem?_toList]; exact hj)
  exact ⟨e,by rw [Array.getElem?_toList]; exact h1,h2⟩
theorem sorted_set {a:Addr} {es:Array (Int×Value)} {ep:Nat} {t:SetTable} {Q:Value→Shared→Prop} (hh:A.handled=none) (S:SetS w s.heap a es ep t) (h:∀ (p:Addr) (out:Array Value) (ns:List Int) (n:Nat) (h1 h':Heap) (tk:Nat),IntsAre out.toList ns→ns.Perm (keys es)→ns.Pairwise (·≤·)→(∀ b o,s.heap.get? b=some o→h1.get? b=some o)→h1.objs.size≤p→(∀ b o,h1.get? b=some o→h'.get? b=some o)→h'.get? p=some (seqObj "list" out n)→Q (.ref p) { s with heap:=h',toks:=tk }):wpAny (model prog w) A (call (.builtin "sorted") [.ref a]) Q E s:=by
  refine Calls.call_function_entry kind_sorted plain_sorted entry_sorted (args_sorted1 _) ?_
  unfold Builtin.«sorted»
  refine wpAny_bind (m:=checkCount "sorted" 1 1 _) (wpAny_pure (wpAny_bind (PySem.W.kdu_collect (A:=A.in1) (src_set a es ep t) hh S (small S.few) fun h1 tk acc k1 hacc=>?_)))
  have hacc':ItemsOf (fun i v=>∃ e,(arrOf w a ep es)[i]? = some e∧v=e.2) acc (arrOf w a ep es).size:=by rw [arr_size]; exact hacc
  have hI:=ints_of_items (fun e he=>S.ent e (arr_perm.mem_iff.mp he)) hacc'
  have len:acc.toList.length<64:=by rw [Array.length_toList,hacc.1]; exact S.few
  refine wpAny_bind (wpAny_newList ?_ (Nat.le_trans (Nat.le_of_lt len) (by rw [sizeLine_eq]; decide)))
  have g1:(h1.push (seqObj "list" acc.toList.toArray 0)).get? h1.objs.size=some (seqObj "list" acc.toList.toArray 0):=Heap.get?_push_size _ rfl
  refine wpAny_bind (wpAny_holding (wpAny_call_entry slot_list_sort ⟨_,g1,rfl⟩ entry_list_sort (list_sort_tree (s:={ s with heap:=h1.push (seqObj "list" acc.toList.toArray 0),toks:=tk }) g1 hI len fun out ns' a1 a2 a3=>⟨_,rfl,?_⟩) (args_list_sort _)))
  refine wpAny_pure ⟨_,rfl,?_⟩
  have g2:=get?_update_seq g1 (fun _=>#[])
  have g3:=Heap.get?_push_of_some (seqObj "list" #[] 0) (Heap.get?_push_of_some (seqObj "tuple" acc.toList.toArray 0) g2)
  have g4:=get?_update_seq g3 (fun _=>out)
  refine h h1.objs.size out ns' _ h1 _ tk a1 (a2.trans (arr_perm.map keyOf)) a3 k1 (Nat.le_refl _) (fun b o e=>?_) g4
  have nb:b≠h1.objs.size:=Nat.ne_of_lt (Heap.lt_size e)
  exact ((Heap.SameBut.update _ _ _).2 b nb).trans (Heap.get?_push_of_some _ (Heap.get?_push_of_some _ (((Heap.SameBut.update _ _ _).2 b nb).trans (Heap.get?_push_of_some _ e))))
end
end NdS
namespace Nd
open PySem PySem.Spec PyProof.Rows L2 NdS
def IsSet (w:World) (a:Addr) (ks:List Int) (h:Heap):Prop:=∃ es ep t,SetS w h a es ep t∧∀ x,x∈keys es↔x∈ks
abbrev SetO (w:World) (a:Addr) (ks:List Int):HO:=.ext (IsSet w a ks)
theorem setO_ok {P:Program} {w w':World} {H:Hp} {h:Heap} {a:Addr} {ks:List Int} (e:IsSet w a ks h):ObjOk P w' H h a (SetO w a ks) :=
  ⟨e,let ⟨_,_,_,S,_⟩:=e; ⟨_,S.obj⟩,fun h1 h2 ⟨es,ep,t,S,m⟩ k=>⟨es,ep,t,S.keep fun o q=>k o q,m⟩⟩
theorem isSet_of {P:Program} {w:World} {H:Hp} {h:Heap} {a:Addr} {ks:List Int} (ok:HOk P w H h) (e:H a=some (SetO w a ks)):IsSet w a ks h :=
  (show ObjOk P w H h a (SetO w a ks) from ok a _ e).1
section
variable {X:Cx}
def rSet (w:World) (K:PySem.W.Frag):List V→Hp→VK→Prop:=fun xs H Q=>∃ (a:Addr) (ns U:List Int),xs=[.ref a]∧SqT K H a (ns.map V.int)∧U.length≤62∧Among U ns∧∀ p,H p=none→Q (.ref p) (upd H p (SetO w p ns))
theorem call_set (hc:X.calm=true):CallR X (.type "set") (rSet X.w X.K):=by
  intro pins s σ H xs us Q I r h
  obtain ⟨a,ns,U,rfl,hs,hU,hN,q⟩:=h
  obtain ⟨u,rfl,ru⟩:=vals1 r
  cases ru
  obtain ⟨its,rv,⟨o,e,hcl,n,hd⟩,_⟩:=I.tuple hs
  refine set_tup hU (I.ok.hd hc) ⟨o,e,hcl,n,hd⟩ (by simpa using intsAre_of rv) hN fun es ep t h' tk k S m=>?_
  exact ⟨.ref s.heap.objs.size,_,I.laid k (Nat.le_refl _) (setO_ok ⟨es,ep,t,S,m⟩),rfl,q _ (I.hok.fresh (Nat.le_refl _))⟩
def rOr (w:World):R2:=fun x y H Q=>∃ (a b:Addr) (ks ls U:List Int),x=.ref a∧y=.ref b∧a≠b∧H a=some (SetO w a ks)∧H b=some (SetO w b ls)∧U.length≤62∧Among U ks∧Among U ls∧∀ p,H p=none→Q (.ref p) (upd H p (SetO w p (ks++ls)))
theorem op_setOr:OpR X (binaryOp .BitOr) (rOr X.w):=by
  intro pins s σ H x y v u Q I rx ry h
  obtain ⟨a,b,ks,ls,U,rfl,rfl,ne,ha,hb,hU,h1,h2,q⟩:=h
  cases rx
  cases ry
  obtain ⟨ea,pa,ta,Sa,ma⟩:=isSet_of I.hok ha
  obtain ⟨eb,pb,tb,Sb,mb⟩:=isSet_of I.hok hb
  refine or_ok hU ne Sa Sb (fun x hx=>h1 x ((ma x).mp hx)) (fun x hx=>h2 x ((mb x).mp hx)) fun es ep t h' k S m=>?_
  exact ⟨.ref s.heap.objs.size,_,I.laid (t':=s.toks) k (Nat.le_refl _) (setO_ok ⟨es,ep,t,S,fun x=>by rw [m,ma,mb,List.mem_append]⟩),rfl,q _ (I.hok.fresh (Nat.le_refl _))⟩
theorem vals_of_ints:∀ {vs:List Value} {ns:List Int},IntsAre vs ns→Vals (ns.map V.int) vs
  | _,_,.nil=>.nil
  | _,_,.cons n t h=>.cons ⟨t,rfl⟩ (vals_of_ints h)
def rSorted (w:World):List V→Hp→VK→Prop:=fun xs H Q=>∃ (a:Addr) (ks:List Int),xs=[.ref a]∧H a=some (SetO w a ks)∧∀ (p:Addr) (ns:List Int),H p=none→ns.Nodup→ns.Pairwise (·≤·)→(∀ x,x∈ns↔x∈ks)→Q (.ref p) (upd H p (.lst (ns.map V.int)))
theorem call_sortedS (hc:X.calm=true):CallR X (.builtin "sorted") (rSorted X.w):=by
  intro pins s σ H xs us Q I r h
  obtain ⟨a,ks,rfl,ha,q⟩:=h
  obtain ⟨u,rfl,ru⟩:=vals1 r
  cases ru
  obtain ⟨es,ep,t,S,m⟩:=isSet_of I.hok ha
  refine sorted_set (I.ok.hd hc) S fun p out ns n h1 h' tk hi hp hs k1 hge k2 hg=>?_
  have I1:Inv X pins σ H { s with heap:=h1,toks:=tk }:=I.kept k1
  have nd:ns.Nodup:=hp.nodup_iff.mpr S.nd
  have hl:ns.length<64:=by
    rw [hp.length_eq,List.length_map,Array.length_toList]
    exact S.few
  refine ⟨.ref p,upd H p (.lst (ns.map V.int)),I1.laid (t':=tk) k2 hge ⟨by rw [List.length_map,sizeLine_eq]; omega,out.toList,n,vals_of_ints hi,by simpa using hg⟩,rfl,q p ns (I1.hok.fresh hge) nd hs fun x=>by rw [hp.mem_iff,m]⟩
end
end Nd
namespace Nd
open PySem L2
def SameB (d:Addr) (H H':Hp):Prop:=∀ b o,b≠d→H b=some o→H' b=some o
theorem SameB.trans {d:Addr} {H H1 H2:Hp} (a:SameB d H H1) (b:SameB d H1 H2):SameB d H H2:=fun c o n h=>b c o n (a c o n h)
theorem SameB.upd {d:Addr} {H:Hp} {o:HO}:SameB d H (upd H d o):=fun b o n h=>by rw [upd_ne n]; exact h
theorem Same.tup {K:PySem.W.Frag} {H H':Hp} {a:Addr} {xs:List V} (e:Same H H') (h:SqT K H a xs):SqT K H' a xs:=by
  rcases h with (h | ⟨o,h⟩) | h
  · exact .inl (.inl (e _ _ h))
  · exact .inl (.inr ⟨o,e _ _ h⟩)
  · exact .inr h
theorem small {n:Nat} (h:n≤1000):n≤sizeLine:=Nat.le_of_lt (small1000 h)
theorem sz2 {n:Nat} (h:n≤1000000):n≤sizeLine:=by rw [sizeLine_eq]; omega
theorem emod_in (a b:Int) (h:0<b):0≤a % b∧a % b<b:=⟨Int.emod_nonneg _ (by omega),Int.emod_lt_of_pos _ h⟩
def Rising (h:Int) (ns:List Int):Prop:=ns.Pairwise (· < ·)∧∀ x∈ns,0≤x∧x<h
theorem Rising.nil (h:Int):Rising h []:=⟨List.Pairwise.nil,fun x hx=>by cases hx⟩
theorem Rising.more {h:Int} {ns:List Int} (r:Rising h ns) (h0:0≤h):Rising (h+1) (ns++[h]) :=
  ⟨List.pairwise_append.mpr ⟨r.1,List.pairwise_singleton _ _,fun a ha b hb=>by rw [List.mem_singleton.mp hb]; exact (r.2 a ha).2⟩,fun x hx=>by
    rcases List.mem_append.mp hx with z | z
    · have:=r.2 x z; omega
    · have:=List.mem_singleton.mp z; omega⟩
theorem Rising.up {h h':Int} {ns:List Int} (r:Rising h ns) (l:h≤h'):Rising h' ns:=⟨r.1,fun x hx=>by have:=r.2 x hx; omega⟩
def Draw (H:Hp) (d:Addr) (c k:Int) (f:Bool):Prop:=H d=some (.lst [.int c,.int k,.bl f])
def spNext:Sp:=fun vs H Q _=>∃ (d:Addr) (c k:Int) (f:Bool),vs=[.ref d]∧Draw H d c k f∧0≤k∧k≤1000000∧∀ (r c':Int) (H':Hp),Draw H' d c' (k+1) f→SameB d H H'→Q (.int r) H'
def wordD (ns:List Int):PyData:=.tuple (ns.map PyData.int)
theorem depth_word (ns:List Int):(wordD ns).depth≤1:=by
  have : (wordD ns).depth≤PyData.depthAll (ns.map PyData.int)+1:=by simp [wordD,PyData.depth]
  rw [depth_ints] at this
  exact this
def U60:List Int:=(List.range 60).map fun i:Nat=>(i:Int)
theorem mem_U60 {x:Int} (h0:0≤x) (h1:x<60):x∈U60:=List.mem_map.mpr ⟨x.toNat,List.mem_range.mpr (by omega),by omega⟩
theorem eqD_nil (TD:List PyData):eqD (.list TD) (.list [])=TD.isEmpty:=by cases TD <;> simp [eqD,eqDs]
theorem rising_eq:∀ {l1 l2:List Int},l1.Pairwise (· < ·)→l2.Pairwise (· < ·)→(∀ x,x∈l1↔x∈l2)→l1=l2
  | [],[],_,_,_=>rfl
  | [],b::l,_,_,h=>by have:=(h b).mpr List.mem_cons_self; cases this
  | a::l,[],_,_,h=>by have:=(h a).mp List.mem_cons_self; cases this
  | a::l1,b::l2,p1,p2,h=>by
    obtain ⟨h1,q1⟩:=List.pairwise_cons.mp p1
    obtain ⟨h2,q2⟩:=List.pairwise_cons.mp p2
    have e:a=b:=by
      rcases List.mem_cons.mp ((h a).mp List.mem_cons_self) with z | z
      · exact z
      · rcases List.mem_cons.mp ((h b).mpr List.mem_cons_self) with y | y
        · exact y.symm
        · have:=h1 b y; have:=h2 a z; omega
    subst e
    rw [rising_eq q1 q2 fun x=>⟨fun hx=>?_,fun hx=>?_⟩]
    · rcases List.mem_cons.mp ((h x).mp (List.mem_cons_of_mem _ hx)) with z | z
      · have:=h1 x hx; omega
      · exact z
    · rcases List.mem_cons.mp ((h x).mpr (List.mem_cons_of_mem _ hx)) with z | z
      · have:=h2 x hx; omega
      · exact z
theorem among {ns:List Int} (r:Rising 60 ns):NdS.Among U60 ns:=fun x hx=>mem_U60 (r.2 x hx).1 (r.2 x hx).2
def spTog (K:PySem.W.Frag):Sp:=fun vs H Q _=>∃ (a b:Addr) (ns ms:List Int),vs=[.ref a,.ref b]∧SqT K H a (ns.map V.int)∧SqT K H b (ms.map V.int)∧Rising 60 ns∧Rising 60 ms ∧
  ∀ (r:Addr) (ts:List Int) (H':Hp),H r=none→H' r=some (.tup (ts.map V.int))→ts.Nodup→ts.Pairwise (·≤·)→(∀ x,x∈ts↔x∈ns++ms)→Same H H'→Q (.ref r) H'
def order {α:Type} (a b:α) (l:List α):Option Bool→List α
  | none=>l
  | some true=>[a,b]
  | some false=>[b,a]
structure TD (K:PySem.W.Frag) (H:Hp) (x:V) (d:PyData) (n m:Nat):Prop where
  rd:RdV K H x d
  fits:Fits 22 d
  nd:nodes d≤n
  dp:d.depth≤m
end Nd
namespace Nd
open PySem L2
abbrev rLstC (K:PySem.W.Frag):List V→Hp→VK→Prop:=fun xs H Q=>∃ p ys,xs=[V.ref p]∧(SqL K H p ys∨SqT K H p ys)∧∀ l,H l=none→Q (.ref l) (upd H l (.lst ys))
theorem list_ok {X:Cx}:CallR X (.type "list") (rLstC X.K):=call_list_of
abbrev rTupC (K:PySem.W.Frag):List V→Hp→VK→Prop:=fun xs H Q=>∃ p ys,xs=[V.ref p]∧((SqL K H p ys∧∀ l,H l=none→Q (.ref l) (upd H l (.tup ys)))∨(SqT K H p ys∧Q (.ref p) H))
theorem tuple_ok {X:Cx}:CallR X (.type "tuple") (rTupC X.K):=call_tuple_of
end Nd
namespace DL
open PySem L2 Nd
def KL (K:PySem.W.Frag) (H:Hp) (a:Addr) (xs:List V):Prop :=
  (∃ o,H a=some (.frz o (.lst xs)))∨∃ (its:Array Value) (n:Nat),K.lookup a=some { cls:=.type "list",data:=.seq its n }∧its.size≤sizeLine∧Vals xs its.toList
def deepD:Nat→PyData
  | 0=>.none
  | n+1=>.tuple [deepD n]
def dkv (ks:List (List Int×PyData)):List (PyData×PyData):=(deepD 100,.none)::ks.map fun p=>(wordD p.1,p.2)
def keyI (w:List Int):List Key:=w.map Sum.inl
mutual
inductive RdF (K:PySem.W.Frag) (H:Hp):V→PyData→List Addr→Prop
  | non:RdF K H .non .none []
  | bl (b:Bool):RdF K H (.bl b) (.bool b) []
  | int (i:Int):RdF K H (.int i) (.int i) []
  | str (x:Str):RdF K H (.str x) (.str x) []
  | lst {a:Addr} {xs:List V} {ds:List PyData} {F:List Addr}:H a=some (.lst xs)→ds.length≤sizeLine→RdFs K H xs ds F→RdF K H (.ref a) (.list ds) (a::F)
  | tup {a:Addr} {xs:List V} {ds:List PyData} {F:List Addr}:H a=some (.tup xs)→ds.length≤sizeLine→RdFs K H xs ds F→RdF K H (.ref a) (.tuple ds) F
  | dic {a:Addr} {kv:List (List Key×V)} {ks:List (List Int×PyData)}:H a=some (.dT kv)→kv.map (·.1)=ks.map (fun p=>keyI p.1)→RdFs K H (kv.map (·.2)) (ks.map (·.2)) []→RdF K H (.ref a) (.dict (dkv ks)) [a]
inductive RdFs (K:PySem.W.Frag) (H:Hp):List V→List PyData→List Addr→Prop
  | nil:RdFs K H [] [] []
  | cons {x:V} {d:PyData} {xs:List V} {ds:List PyData} {F G:List Addr}:RdF K H x d F→RdFs K H xs ds G→RdFs K H (x::xs) (d::ds) (F++G)
end
def Stb (o:HO):Prop:=(∃ xs,o=.tup xs)∨∃ ob u,o=.frz ob u
def Kp (F:List Addr) (H H':Hp):Prop:=∀ b o,H b=some o→(b∈F∨Stb o)→H' b=some o
theorem Kp.of {F:List Addr} {H H':Hp} (s:Same H H'):Kp F H H':=fun b o e _=>s b o e
theorem Kp.sub {F G:List Addr} {H H':Hp} (k:Kp F H H') (h:∀ a∈G,a∈F):Kp G H H':=fun b o e z=>k b o e (z.imp (h b) id)
section
variable {K:PySem.W.Frag} {H H':Hp}
theorem KL.kp {a:Addr} {xs:List V} {F:List Addr} (h:KL K H a xs) (k:Kp F H H'):KL K H' a xs:=by
  rcases h with ⟨o,h⟩ | h
  · exact .inl ⟨o,k _ _ h (.inr (.inr ⟨_,_,rfl⟩))⟩
  · exact .inr h
theorem KL.sq {a:Addr} {xs:List V} (h:KL K H a xs):SqL K H a xs:=by
  rcases h with ⟨o,h⟩ | ⟨its,n,h,hz,r⟩
  · exact .inl (.inr ⟨o,h⟩)
  · exact .inr ⟨_,its,n,h,rfl,rfl,rfl,hz,r⟩
mutual
theorem RdF.kp:∀ {v:V} {d:PyData} {F:List Addr},RdF K H v d F→Kp F H H'→RdF K H' v d F
  | _,_,_,.non,_=>.non
  | _,_,_,.bl b,_=>.bl b
  | _,_,_,.int i,_=>.int i
  | _,_,_,.str x,_=>.str x
  | _,_,_,.lst h l hs,k=>.lst (k _ _ h (.inl List.mem_cons_self)) l (RdFs.kp hs (k.sub fun _ z=>List.mem_cons_of_mem _ z))
  | _,_,_,.tup h l hs,k=>.tup (k _ _ h (.inr (.inl ⟨_,rfl⟩))) l (RdFs.kp hs k)
  | _,_,_,.dic h e hs,k=>.dic (k _ _ h (.inl List.mem_cons_self)) e (RdFs.kp hs (k.sub fun _ z=>nomatch z))
theorem RdFs.kp:∀ {v:List V} {d:List PyData} {F:List Addr},RdFs K H v d F→Kp F H H'→RdFs K H' v d F
  | _,_,_,.nil,_=>.nil
  | _,_,_,.cons h hs,k=>.cons (RdF.kp h (k.sub fun _ z=>List.mem_append_left _ z)) (RdFs.kp hs (k.sub fun _ z=>List.mem_append_right _ z))
end
theorem deepD_depth:∀ n,(deepD n).depth=n
  | 0=>by simp [deepD,PyData.depth]
  | n+1=>by
    have:=deepD_depth n
    simp only [deepD,PyData.depth,PyData.depthAll,this]
    omega
theorem dkv_deep {ks:List (List Int×PyData)}:100≤(PyData.dict (dkv ks)).depth:=by
  have:=deepD_depth 100
  simp only [dkv,PyData.depth,PyData.depthKv,this]
  omega
mutual
theorem RdF.rd:∀ {v:V} {d:PyData} {F:List Addr},RdF K H v d F→d.depth≤90→RdV K H v d
  | _,_,_,.non,_=>.non
  | _,_,_,.bl b,_=>.bl b
  | _,_,_,.int i,_=>.int i
  | _,_,_,.str x,_=>.str x
  | _,_,_,.lst h l hs,z=>.lst (SqL.of h) (RdFs.rd hs (by simp only [PyData.depth] at z; omega))
  | _,_,_,.tup h l hs,z=>.tup (SqT.of h) (RdFs.rd hs (by simp only [PyData.depth] at z; omega))
  | _,_,_,.dic h e hs,z=>absurd (Nat.le_trans dkv_deep z) (by decide)
theorem RdFs.rd:∀ {v:List V} {d:List PyData} {F:List Addr},RdFs K H v d F→PyData.depthAll d≤90→RdVs K H v d
  | _,_,_,.nil,_=>.nil
  | _,_,_,.cons h hs,z=>.cons (RdF.rd h (by simp only [PyData.depthAll] at z; omega)) (RdFs.rd hs (by simp only [PyData.depthAll] at z; omega))
end
mutual
theorem RdF.dom:∀ {v:V} {d:PyData} {F:List Addr},RdF K H v d F→∀ a∈F,∃ o,H a=some o
  | _,_,_,.non,_,z=>nomatch z
  | _,_,_,.bl b,_,z=>nomatch z
  | _,_,_,.int i,_,z=>nomatch z
  | _,_,_,.str x,_,z=>nomatch z
  | _,_,_,.lst h l hs,b,z=>by
    rcases List.mem_cons.mp z with rfl | z
    · exact ⟨_,h⟩
    · exact RdFs.dom hs b z
  | _,_,_,.tup h l hs,b,z=>RdFs.dom hs b z
  | _,_,_,.dic h e hs,b,z=>⟨_,List.mem_singleton.mp z▸h⟩
theorem RdFs.dom:∀ {v:List V} {d:List PyData} {F:List Addr},RdFs K H v d F→∀ a∈F,∃ o,H a=some o
  | _,_,_,.nil,_,z=>nomatch z
  | _,_,_,.cons h hs,b,z=>by
    rcases List.mem_append.mp z with z | z
    · exact RdF.dom h b z
    · exact RdFs.dom hs b z
end
theorem RdFs.len:∀ {v:List V} {d:List PyData} {F:List Addr},RdFs K H v d F→v.length=d.length
  | _,_,_,.nil=>rfl
  | _,_,_,.cons _ t=>by rw [List.length_cons,List.length_cons,RdFs.len t]
theorem RdFs.get:∀ {v:List V} {d:List PyData} {F:List Addr} {i:Nat} {e:PyData},RdFs K H v d F→d[i]? = some e→∃ x G,v[i]? = some x∧RdF K H x e G∧G.Sublist F
  | _,_,_,_,_,.nil,z=>by simp at z
  | _,_,_,0,_,.cons h _,z=>by
    simp at z
    subst z
    exact ⟨_,_,rfl,h,List.sublist_append_left _ _⟩
  | _,_,_,i+1,e,.cons _ t,z=>by
    obtain ⟨x,G,h1,h2,h3⟩:=RdFs.get (i:=i) (e:=e) t (by simpa using z)
    exact ⟨x,G,by simpa using h1,h2,h3.trans (List.sublist_append_right _ _)⟩
theorem RdFs.app:∀ {v w:List V} {d e:List PyData} {F G:List Addr},RdFs K H v d F→RdFs K H w e G→RdFs K H (v++w) (d++e) (F++G)
  | _,_,_,_,_,_,.nil,h=>h
  | _,_,_,_,_,_,.cons a t,h=>by
    rw [List.append_assoc]
    exact .cons a (RdFs.app t h)
theorem RdFs.snoc {v:List V} {d:List PyData} {F G:List Addr} {x:V} {e:PyData} (t:RdFs K H v d F) (h:RdF K H x e G):RdFs K H (v++[x]) (d++[e]) (F++G):=by
  have:=t.app (.cons h .nil)
  rw [List.append_nil] at this
  exact this
end
mutual
def imm:PyData→Bool
  | .list _=>false
  | .dict _=>false
  | .tuple xs=>immAll xs
  | _=>true
def immAll:List PyData→Bool
  | []=>true
  | x::xs=>imm x && immAll xs
end
theorem immAll_iff:∀ {xs:List PyData},immAll xs=true↔∀ x∈xs,imm x=true
  | []=>by simp [immAll]
  | x::xs=>by simp [immAll,immAll_iff (xs:=xs)]
theorem immAll_map {α:Type} {f:α→PyData} (h:∀ a,imm (f a)=true) (l:List α):immAll (l.map f)=true:=immAll_iff.mpr fun x hx=>by
  obtain ⟨a,_,rfl⟩:=List.mem_map.mp hx
  exact h a
theorem imm_word (ns:List Int):imm (wordD ns)=true:=by
  unfold wordD
  rw [imm]
  exact immAll_map (fun _=>by simp [imm]) ns
section
variable {K:PySem.W.Frag} {H H':Hp}
mutual
theorem RdF.imm:∀ {v:V} {d:PyData} {F:List Addr},RdF K H v d F→DL.imm d=true→F=[]
  | _,_,_,.non,_=>rfl
  | _,_,_,.bl b,_=>rfl
  | _,_,_,.int i,_=>rfl
  | _,_,_,.str x,_=>rfl
  | _,_,_,.lst h l hs,k=>by simp [DL.imm] at k
  | _,_,_,.tup h l hs,k=>RdFs.imm hs (by simpa [DL.imm] using k)
  | _,_,_,.dic h e hs,k=>by simp [DL.imm] at k
theorem RdFs.imm:∀ {v:List V} {d:List PyData} {F:List Addr},RdFs K H v d F→immAll d=true→F=[]
  | _,_,_,.nil,_=>rfl
  | _,_,_,.cons h hs,k=>by
    rw [immAll,Bool.and_eq_true] at k
    rw [RdF.imm h k.1,RdFs.imm hs k.2]
    rfl
end
end
inductive Md where
  | pk | sh | tp | ow
  deriving DecidableEq
inductive DV where
  | un
  | dat (m:Md) (d:PyData)
  | drw
  | dT (kvs:List (List Key×PyData))
  | val (v:V)
  | scr (ns:List Int)
  | acc (ds:List PyData)
  | grd (Hc:Hp)
structure DS where
  sl:List DV
  n:Nat
structure Ent where
  v:Option V
  x:DV
  F:List Addr
def isPk:DV→Bool
  | .dat .pk _=>true
  | _=>false
def isDr:DV→Bool
  | .drw=>true
  | _=>false
def hard:DV→Bool
  | .drw=>true
  | .acc _=>true
  | .dT _=>true
  | .grd _=>true
  | _=>false
def cells (e:Ent):List Addr:=match e.x with
  | .dat .ow _=>e.F
  | .dat .tp _=>e.F.take 1
  | .drw=>e.F
  | .dT _=>e.F
  | .acc _=>e.F.take 1
  | .grd _=>e.F
  | _=>[]
theorem cells_sub (e:Ent):∀ a∈cells e,a∈e.F:=by
  obtain ⟨v,x,F⟩:=e
  intro a h
  cases x with
  | un=>exact nomatch h
  | val _=>exact nomatch h
  | scr _=>exact nomatch h
  | drw=>exact h
  | dT _=>exact h
  | grd _=>exact h
  | acc _=>exact (List.take_sublist _ _).subset h
  | dat m d =>
    cases m with
    | pk=>exact nomatch h
    | sh=>exact nomatch h
    | tp=>exact (List.take_sublist _ _).subset h
    | ow=>exact h
def SepR (e f:Ent):Prop:=((isPk f.x=false∨hard e.x=true)→∀ a∈cells e,a∉f.F)∧((isPk e.x=false∨hard f.x=true)→∀ a∈cells f,a∉e.F)
theorem SepR.symm {e f:Ent} (h:SepR e f):SepR f e:=⟨h.2,h.1⟩
def EntOk (K:PySem.W.Frag) (H:Hp) (n:Nat) (e:Ent):Prop:=match e.x with
  | .un=>e.F=[]
  | .dat m d=>∃ v,e.v=some v∧RdF K H v d e.F∧(m=.ow→e.F.Nodup)∧(m=.tp→∀ a l,e.F=a::l→a∉l)
  | .drw=>∃ dr c k f,e.v=some (.ref dr)∧e.F=[dr]∧Draw H dr c k f∧0≤k∧k≤(n:Int)
  | .dT kvs=>∃ a ks,e.v=some (.ref a)∧e.F=[a]∧H a=some (.dT ks)∧ks.map (·.1)=kvs.map (·.1)∧RdFs K H (ks.map (·.2)) (kvs.map (·.2)) []
  | .val v=>e.v=some v∧e.F=[]
  | .scr ns=>∃ a,e.v=some (.ref a)∧e.F=[]∧KL K H a (ns.map V.int)∧ns.length≤63
  | .acc ds=>∃ a xs G,e.v=some (.ref a)∧e.F=a::G∧H a=some (.lst xs)∧RdFs K H xs ds G∧ds.length≤sizeLine∧a∉G
  | .grd Hc=>∀ a∈e.F,∃ o,Hc a=some o∧H a=some o
structure At (K:PySem.W.Frag) (H0:Hp) (X:Addr→Prop) (n:Nat) (E:List Ent) (H:Hp):Prop where
  ok:∀ e∈E,EntOk K H n e
  sep:E.Pairwise SepR
  new:∀ e∈E,∀ a∈cells e,H0 a=none∨(X a∧isDr e.x=true)
  same:∀ b o,¬ X b→H0 b=some o→H b=some o
  dom:∀ b o,H0 b=some o→∃ o',H b=some o'
  xd:∀ b,X b→H0 b≠none∧∃ c k f,Draw H b c k f∧0≤k∧k≤(n:Int)
section
variable {K:PySem.W.Frag} {H0 H H':Hp} {X:Addr→Prop} {n n':Nat} {E E' S T:List Ent} {e f:Ent}
theorem At.perm (h:At K H0 X n E H) (p:E.Perm E'):At K H0 X n E' H :=
  ⟨fun e he=>h.ok e (p.mem_iff.mpr he),(p.pairwise_iff fun {a b}=>SepR.symm).mp h.sep,fun e he=>h.new e (p.mem_iff.mpr he),h.same,h.dom,h.xd⟩
theorem At.sub (h:At K H0 X n E H) (p:E'.Sublist E):At K H0 X n E' H :=
  ⟨fun e he=>h.ok e (p.subset he),h.sep.sublist p,fun e he=>h.new e (p.subset he),h.same,h.dom,h.xd⟩
theorem At.drop (h:At K H0 X n (S++e::T) H):At K H0 X n (S++T) H:=h.sub ((List.Sublist.refl S).append (List.sublist_cons_self _ _))
theorem perm_mid:(S++e::T).Perm (e::(S++T)):=List.perm_middle
theorem At.mid (h:At K H0 X n (S++e::T) H):At K H0 X n (e::(S++T)) H:=h.perm perm_mid
theorem At.tomid (h:At K H0 X n (e::(S++T)) H):At K H0 X n (S++e::T) H:=h.perm perm_mid.symm
theorem EntOk.dom (h:EntOk K H n e):∀ a∈e.F,∃ o,H a=some o:=by
  obtain ⟨v,x,F⟩:=e
  intro a ha
  cases x with
  | un=>rw [show F=[] from h] at ha; cases ha
  | val _=>rw [show F=[] from h.2] at ha; cases ha
  | scr _ =>
    obtain ⟨_,_,hF,_⟩:=h
    rw [show F=[] from hF] at ha; cases ha
  | dat m d =>
    obtain ⟨w,_,h,_⟩:=h
    obtain ⟨xs,z⟩:=h.dom a ha
    exact ⟨_,z⟩
  | drw =>
    obtain ⟨dr,c,k,f,_,hF,h,_⟩:=h
    rw [show F=[dr] from hF] at ha
    rw [List.mem_singleton.mp ha]
    exact ⟨_,h⟩
  | grd Hc =>
    obtain ⟨o,_,z⟩:=h a ha
    exact ⟨o,z⟩
  | dT kvs =>
    obtain ⟨b,ks,_,hF,h,_⟩:=h
    rw [show F=[b] from hF] at ha
    rw [List.mem_singleton.mp ha]
    exact ⟨_,h⟩
  | acc ds =>
    obtain ⟨b,ks,G,_,hF,h,hr,_⟩:=h
    rw [show F=b::G from hF] at ha
    rcases List.mem_cons.mp ha with rfl | ha
    · exact ⟨_,h⟩
    · obtain ⟨xs,z⟩:=hr.dom a ha
      exact ⟨_,z⟩
theorem EntOk.kp (h:EntOk K H n e) (k:Kp e.F H H') (hn:n≤n'):EntOk K H' n' e:=by
  obtain ⟨v,x,F⟩:=e
  cases x with
  | un=>exact h
  | val _=>exact h
  | scr _ =>
    obtain ⟨a,h1,h2,h3,h4⟩:=h
    exact ⟨a,h1,h2,h3.kp k,h4⟩
  | dat m d =>
    obtain ⟨w,h1,h2,h3⟩:=h
    exact ⟨w,h1,h2.kp k,h3⟩
  | drw =>
    obtain ⟨dr,c,kk,f,h1,hF,h2,h3,h4⟩:=h
    have hF':F=[dr]:=hF
    subst hF'
    exact ⟨dr,c,kk,f,h1,rfl,k _ _ h2 (.inl List.mem_cons_self),h3,by omega⟩
  | grd Hc =>
    intro a ha
    obtain ⟨o,h1,h2⟩:=h a ha
    exact ⟨o,h1,k _ _ h2 (.inl ha)⟩
  | dT kvs =>
    obtain ⟨b,ks,h1,hF,h2,h3,h4⟩:=h
    have hF':F=[b]:=hF
    subst hF'
    exact ⟨b,ks,h1,rfl,k _ _ h2 (.inl List.mem_cons_self),h3,h4.kp (k.sub fun _ z=>nomatch z)⟩
  | acc ds =>
    obtain ⟨b,ks,G,h1,hF,h2,h3,h4⟩:=h
    have hF':F=b::G:=hF
    subst hF'
    exact ⟨b,ks,G,h1,rfl,k _ _ h2 (.inl List.mem_cons_self),h3.kp (k.sub fun _ z=>List.mem_cons_of_mem _ z),h4⟩
theorem At.grow (h:At K H0 X n E H) (s:Same H H') (hn:n≤n'):At K H0 X n' E H' :=
  ⟨fun e he=>(h.ok e he).kp (Kp.of s) hn,h.sep,h.new,fun b o nx e=>s _ _ (h.same b o nx e),fun b o e=>let ⟨o',q⟩:=h.dom b o e; ⟨o',s _ _ q⟩,fun b hb=>let ⟨z,c,k,f,h1,h2,h3⟩:=h.xd b hb; ⟨z,c,k,f,s _ _ h1,h2,by omega⟩⟩
theorem At.free (h:At K H0 X n E H) {a:Addr} (ha:H a=none):∀ e∈E,a∉e.F:=fun e he z=>by
  obtain ⟨o,q⟩:=(h.ok e he).dom a z
  rw [ha] at q; cases q
theorem At.push (h:At K H0 X n E H) (ok:EntOk K H n e) (sep:∀ f∈E,SepR e f) (new:∀ a∈cells e,H0 a=none∨(X a∧isDr e.x=true)):At K H0 X n (e::E) H :=
  ⟨fun g hg=>by
    rcases List.mem_cons.mp hg with rfl | hg
    · exact ok
    · exact h.ok g hg,List.pairwise_cons.mpr ⟨sep,h.sep⟩,fun g hg=>by
    rcases List.mem_cons.mp hg with rfl | hg
    · exact new
    · exact h.new g hg,h.same,h.dom,h.xd⟩
theorem At.new0 (h:At K H0 X n E H) {p:Addr} (hp:H p=none):H0 p=none:=by
  cases q:H0 p with
  | none=>rfl
  | some o =>
    obtain ⟨o',z⟩:=h.dom p o q
    rw [hp] at z; cases z
theorem sep_nil {v:Option V} {m:Md} {d:PyData}:SepR ⟨v,.dat m d,[]⟩ f:=by
  refine ⟨fun _ a ha=>?_,fun _ a _=>List.not_mem_nil⟩
  have:=cells_sub _ a ha
  cases this
theorem At.pushI (h:At K H0 X n (S++T) H) {v:V} {m:Md} {d:PyData} (r:RdF K H v d []):At K H0 X n (S++⟨some v,.dat m d,[]⟩::T) H :=
  (h.push (e:=⟨some v,.dat m d,[]⟩) ⟨v,rfl,r,fun _=>List.nodup_nil,fun _ a l z=>nomatch z⟩ (fun f _=>sep_nil) (fun a ha=>nomatch cells_sub _ a ha)).tomid
def wk:Md→Md→Bool
  | _,.pk=>true
  | .pk,_=>false
  | _,.sh=>true
  | .sh,_=>false
  | _,.tp=>true
  | .tp,.ow=>false
  | .ow,.ow=>true
theorem cells_wk {v:Option V} {m m':Md} {d:PyData} {F:List Addr} (w:wk m m'=true):∀ a∈cells ⟨v,.dat m' d,F⟩,a∈cells ⟨v,.dat m d,F⟩:=by
  intro a ha
  cases m <;> cases m' <;> first | exact absurd w (by decide) | exact ha | exact absurd ha List.not_mem_nil | exact (List.take_sublist 1 F).subset ha
theorem nodup_top {α:Type} {F:List α} (h:F.Nodup):∀ a l,F=a::l→a∉l:=fun a l e=>by
  subst e
  exact (List.nodup_cons.mp h).1
theorem EntOk.wk {v:Option V} {m m':Md} {d:PyData} {F:List Addr} (w:wk m m'=true) (h:EntOk K H n ⟨v,.dat m d,F⟩):EntOk K H n ⟨v,.dat m' d,F⟩:=by
  obtain ⟨u,h1,h2,h3,h4⟩:=h
  refine ⟨u,h1,h2,fun e=>?_,fun e=>?_⟩
  · subst e
    cases m <;> first | exact absurd w (by decide) | exact h3 rfl
  · subst e
    cases m <;> first | exact absurd w (by decide) | exact h4 rfl | exact nodup_top (h3 rfl)
theorem SepR.wk {v:Option V} {m m':Md} {d:PyData} {F:List Addr} (w:wk m m'=true) (h:SepR ⟨v,.dat m d,F⟩ f):SepR ⟨v,.dat m' d,F⟩ f:=by
  refine ⟨fun hp a ha=>?_,fun hp a ha=>?_⟩
  · rcases hp with hp | hp
    · exact h.1 (.inl hp) a (cells_wk w a ha)
    · cases hp
  · rcases hp with hp | hp
    · refine h.2 (.inl ?_) a ha
      cases m <;> cases m' <;> first | rfl | exact absurd w (by decide) | exact absurd hp (by show ¬ (true=false); decide)
    · exact h.2 (.inr hp) a ha
theorem At.wk {v:Option V} {m m':Md} {d:PyData} {F:List Addr} (w:wk m m'=true) (h:At K H0 X n (⟨v,.dat m d,F⟩::E) H):At K H0 X n (⟨v,.dat m' d,F⟩::E) H:=by
  have hs:=List.pairwise_cons.mp h.sep
  refine (h.sub (List.sublist_cons_self _ _)).push ((h.ok _ List.mem_cons_self).wk w) (fun f hf=>(hs.1 f hf).wk w) fun a ha=>?_
  rcases h.new _ List.mem_cons_self a (cells_wk w a ha) with z | z
  · exact .inl z
  · cases z.2
end
end DL
namespace DL
open PySem L2 Nd
abbrev DE:=DS→(DV→DS→Prop)→Prop
abbrev DT:=DS→(Bool→DS→Prop)→Prop
abbrev DA:=DS→(List DV→DS→Prop)→Prop
structure DEnds where
  nx:DS→Prop
  rt:DV→DS→Prop
  bk:DS→Prop:=fun _=>False
  ct:DS→Prop:=fun _=>False
abbrev DB:=DEnds→DS→Prop
abbrev DG:=DV→DS→(DS→Prop)→Prop
def vs (S:List Ent):L2.St:=S.map Ent.v
def Sl (S:List Ent) (δ:DS):Prop:=S.map Ent.x=δ.sl
section
variable (K:PySem.W.Frag)
def LE (de:DE):TE:=fun σ H Q=>∃ (H0:Hp) (X:Addr→Prop) (S T:List Ent) (δ:DS) (P:DV→DS→Prop),vs S=σ∧Sl S δ∧At K H0 X δ.n (S++T) H∧de δ P ∧
  ∀ x δ' v F S' H',vs S'=σ→Sl S' δ'→At K H0 X δ'.n (S'++⟨some v,x,F⟩::T) H'→P x δ'→Q v H'
def LT (dt:DT):TT:=fun σ H Q=>∃ (H0:Hp) (X:Addr→Prop) (S T:List Ent) (δ:DS) (P:Bool→DS→Prop),vs S=σ∧Sl S δ∧At K H0 X δ.n (S++T) H∧dt δ P ∧
  ∀ b δ' S' H',vs S'=σ→Sl S' δ'→At K H0 X δ'.n (S'++T) H'→P b δ'→Q b H'
def LA (da:DA):TA:=fun σ H Q=>∃ (H0:Hp) (X:Addr→Prop) (S T:List Ent) (δ:DS) (P:List DV→DS→Prop),vs S=σ∧Sl S δ∧At K H0 X δ.n (S++T) H∧da δ P ∧
  ∀ xs δ' As us S' H',vs S'=σ→Sl S' δ'→As.map Ent.x=xs→As.map Ent.v=us.map some→At K H0 X δ'.n (S'++(As++T)) H'→P xs δ'→Q us H'
def LS (db:DB):TS:=fun D σ H=>∃ (H0:Hp) (X:Addr→Prop) (S T:List Ent) (δ:DS) (P:DEnds),vs S=σ∧Sl S δ∧(∀ e∈T,isPk e.x=false)∧At K H0 X δ.n (S++T) H∧db P δ ∧
  (∀ δ' S' H',Sl S' δ'→At K H0 X δ'.n (S'++T) H'→P.nx δ'→D.nx (vs S') H') ∧
  (∀ x δ' v F S' H',Sl S' δ'→At K H0 X δ'.n (S'++⟨some v,x,F⟩::T) H'→P.rt x δ'→D.rt v H') ∧
  (∀ δ' S' H',Sl S' δ'→At K H0 X δ'.n (S'++T) H'→P.bk δ'→D.bk (vs S') H') ∧
  (∀ δ' S' H',Sl S' δ'→At K H0 X δ'.n (S'++T) H'→P.ct δ'→D.ct (vs S') H')
def LG (dg:DG):TG:=fun v σ H Q=>∃ (H0:Hp) (X:Addr→Prop) (S T:List Ent) (δ:DS) (x:DV) (F:List Addr) (P:DS→Prop),vs S=σ∧Sl S δ∧At K H0 X δ.n (S++⟨some v,x,F⟩::T) H∧dg x δ P ∧
  ∀ δ' S' H',Sl S' δ'→At K H0 X δ'.n (S'++T) H'→P δ'→Q (vs S') H'
end
abbrev PED (X:Cx) (e:Expr) (de:DE):Prop:=PE X e (LE X.K de)
abbrev PTD (X:Cx) (e:Expr) (dt:DT):Prop:=PT X e (LT X.K dt)
abbrev PWD (X:Cx) (e:Expr) (dt:DT):Prop:=PW X e (LT X.K dt)
abbrev PAD (X:Cx) (es:List Expr) (da:DA):Prop:=PA X es (LA X.K da)
abbrev PSD (X:Cx) (st:Stmt) (db:DB):Prop:=PS X st (LS X.K db)
abbrev PSsD (X:Cx) (st:List Stmt) (db:DB):Prop:=PSs X st (LS X.K db)
abbrev PGD (X:Cx) (tg:Expr) (dg:DG):Prop:=PG X tg (LG X.K dg)
theorem PE.imp {X:Cx} {e:Expr} {t t':TE} (h:PE X e t) (k:∀ σ H Q,t' σ H Q→t σ H Q):PE X e t':=fun pins s σ H Q I q=>h pins s σ H Q I (k σ H Q q)
theorem PT.imp {X:Cx} {e:Expr} {t t':TT} (h:PT X e t) (k:∀ σ H Q,t' σ H Q→t σ H Q):PT X e t':=fun pins s σ H Q I q=>h pins s σ H Q I (k σ H Q q)
theorem PW.imp {X:Cx} {e:Expr} {t t':TT} (h:PW X e t) (k:∀ σ H Q,t' σ H Q→t σ H Q):PW X e t':=fun wh pins s σ H Q I q=>h wh pins s σ H Q I (k σ H Q q)
theorem PA.imp {X:Cx} {e:List Expr} {t t':TA} (h:PA X e t) (k:∀ σ H Q,t' σ H Q→t σ H Q):PA X e t':=fun pos pins s σ H Q I q=>h pos pins s σ H Q I (k σ H Q q)
theorem PG.imp {X:Cx} {e:Expr} {t t':TG} (h:PG X e t) (k:∀ v σ H Q,t' v σ H Q→t v σ H Q):PG X e t':=fun pins s σ H v u Q I r q=>h pins s σ H v u Q I r (k v σ H Q q)
section
variable {K:PySem.W.Frag} {H:Hp} {v:V} {F:List Addr}
theorem RdF.int_inv {i:Int} (h:RdF K H v (.int i) F):v=.int i∧F=[]:=by cases h; exact ⟨rfl,rfl⟩
theorem RdF.bl_inv {i:Bool} (h:RdF K H v (.bool i) F):v=.bl i∧F=[]:=by cases h; exact ⟨rfl,rfl⟩
theorem RdF.str_inv {i:Str} (h:RdF K H v (.str i) F):v=.str i∧F=[]:=by cases h; exact ⟨rfl,rfl⟩
theorem RdF.list_inv {ds:List PyData} (h:RdF K H v (.list ds) F):∃ a xs G,v=.ref a∧H a=some (.lst xs)∧RdFs K H xs ds G∧F=a::G∧ds.length≤sizeLine:=by
  cases h with
  | lst h l hs=>exact ⟨_,_,_,rfl,h,hs,rfl,l⟩
theorem RdF.tup_inv {ds:List PyData} (h:RdF K H v (.tuple ds) F):∃ a xs,v=.ref a∧H a=some (.tup xs)∧RdFs K H xs ds F∧ds.length≤sizeLine:=by
  cases h with
  | tup h l hs=>exact ⟨_,_,rfl,h,hs,l⟩
end
section
variable {K:PySem.W.Frag} {H0 H H':Hp} {X:Addr→Prop} {n:Nat} {E S T:List Ent} {v:V} {m:Md} {d:PyData} {F:List Addr}
theorem At.told (h:At K H0 X n E H) (he:⟨some v,.dat m d,F⟩∈E):RdF K H v d F:=by
  obtain ⟨w,e1,h1,_⟩:=h.ok _ he
  cases e1
  exact h1
theorem mem_mid {e:Ent}:e∈S++e::T:=List.mem_append_right _ List.mem_cons_self
theorem mem_mid2 {e f:Ent}:f∈S++e::f::T:=List.mem_append_right _ (List.mem_cons_of_mem _ List.mem_cons_self)
theorem At.drop2 {e f:Ent} (h:At K H0 X n (S++e::f::T) H):At K H0 X n (S++T) H:=h.drop.drop
theorem At.dropL {As:List Ent} (h:At K H0 X n (S++(As++T)) H):At K H0 X n (S++T) H:=h.sub ((List.Sublist.refl S).append (List.sublist_append_right As T))
end
def pkOf:Md→Md
  | .ow=>.pk
  | .tp=>.pk
  | m=>m
def dVar (i:Nat):DE:=fun δ P=>match δ.sl[i]? with
  | some (.dat m d)=>P (.dat (pkOf m) d) δ
  | _=>False
def dC (d:PyData):DE:=fun δ P=>P (.dat .ow d) δ
theorem slot_of {S:List Ent} {δ:DS} {i:Nat} {x:DV} (h:Sl S δ) (e:δ.sl[i]? = some x):∃ ent,S[i]? = some ent∧ent.x=x:=by
  unfold Sl at h
  rw [← h,List.getElem?_map] at e
  cases q:S[i]? with
  | none=>rw [q] at e; cases e
  | some ent=>rw [q] at e; exact ⟨ent,rfl,Option.some.inj e⟩
theorem vs_at {S:List Ent} {i:Nat} {e:Ent} (h:S[i]? = some e):(vs S)[i]? = some e.v:=by
  unfold vs
  rw [List.getElem?_map,h]
  rfl
theorem At.look {K:PySem.W.Frag} {H0 H:Hp} {X:Addr→Prop} {n:Nat} {S T:List Ent} {u:Option V} {v:V} {m:Md} {d:PyData} {F:List Addr} (h:At K H0 X n (S++T) H) (he:⟨u,.dat m d,F⟩∈S) (hu:u=some v):At K H0 X n (S++⟨some v,.dat (pkOf m) d,F⟩::T) H:=by
  subst hu
  obtain ⟨S1,S2,rfl⟩:=List.append_of_mem he
  have hp:((S1++⟨some v,.dat m d,F⟩::S2)++T).Perm (⟨some v,.dat m d,F⟩::(S1++(S2++T))):=by
    rw [List.append_assoc,List.cons_append]
    exact List.perm_middle
  have h2:=h.perm hp
  have hs:=List.pairwise_cons.mp h2.sep
  refine (h.push (e:=⟨some v,.dat (pkOf m) d,F⟩) ?_ (fun f hf=>?_) fun a ha=>?_).tomid
  · obtain ⟨w,e1,h1,_⟩:=h2.ok _ List.mem_cons_self
    refine ⟨w,e1,h1,fun z=>?_,fun z=>?_⟩ <;> cases m <;> cases z
  · refine ⟨fun _ a ha=>?_,fun hq a ha=>?_⟩
    · cases m <;> exact nomatch ha
    · rcases List.mem_cons.mp (hp.mem_iff.mp hf) with rfl | hf
      · rcases hq with hq | hq
        · cases m <;> first | cases hq; done | exact nomatch ha
        · cases hq
      · refine (hs.1 f hf).2 ?_ a ha
        rcases hq with hq | hq
        · refine .inl ?_
          cases m <;> first | rfl | exact hq
        · exact .inr hq
  · cases m <;> exact nomatch ha
section
variable {X:Cx} {e:Expr}
theorem dp_var {i:Nat} (h:PE X e (tVar i)):PED X e (dVar i):=by
  refine PE.imp h fun σ H Q h=>?_
  obtain ⟨H0,Y,S,T,δ,P,rfl,hS,hA,hd,k⟩:=h
  unfold dVar at hd
  split at hd
  · rename_i m d e1
    obtain ⟨ent,e2,e3⟩:=slot_of hS e1
    have hm:ent∈S:=List.mem_of_getElem? e2
    obtain ⟨u,x,F⟩:=ent
    subst e3
    obtain ⟨v,hv,_⟩:=hA.ok _ (List.mem_append_left _ hm)
    refine ⟨v,by rw [vs_at e2]; exact congrArg some hv,k _ δ v F S H rfl hS (hA.look hm hv) hd⟩
  · exact hd.elim
theorem dp_con {v:V} {d:PyData} (h:PE X e (tC v)) (r:∀ H,RdF X.K H v d []):PED X e (dC d):=by
  refine PE.imp h fun σ H Q h=>?_
  obtain ⟨H0,Y,S,T,δ,P,rfl,hS,hA,hd,k⟩:=h
  exact k _ δ v [] S H rfl hS (hA.pushI (r H)) hd
theorem dp_int {i j pos}:PED X (.Constant (.int i) j pos) (dC (.int i)):=dp_con pe_int fun _=>.int i
theorem dp_bl {i j pos}:PED X (.Constant (.bool i) j pos) (dC (.bool i)):=dp_con pe_bl fun _=>.bl i
theorem dp_non {j pos}:PED X (.Constant .none j pos) (dC .none):=dp_con pe_non fun _=>.non
end
def dImm (de:DE):DE:=fun δ P=>de δ fun x δ'=>match x with
  | .dat _ d=>imm d=true∧P (.dat .ow d) δ'
  | _=>False
theorem dp_imm {X:Cx} {e:Expr} {de:DE} (h:PED X e de):PED X e (dImm de):=by
  refine PE.imp h fun σ H Q h=>?_
  obtain ⟨H0,Y,S,T,δ,P,rfl,hS,hA,hd,k⟩:=h
  refine ⟨H0,Y,S,T,δ,_,rfl,hS,hA,hd,fun x δ' v F S' H' e1 e2 hA' p=>?_⟩
  cases x with
  | dat m d =>
    have r:=hA'.told mem_mid
    obtain rfl:=r.imm p.1
    exact k _ δ' v [] S' H' e1 e2 (hA'.drop.pushI r) p.2
  | _=>exact p.elim
def dTake (i:Nat):DE:=fun δ P=>match δ.sl[i]? with
  | some (.dat m d)=>P (.dat m d) ⟨δ.sl.set i .un,δ.n⟩
  | _=>False
theorem set_perm {α:Type}:∀ {l:List α} {i:Nat} {x y:α},l[i]? = some x→(y::l).Perm (x::l.set i y)
  | [],i,x,y,h=>by simp at h
  | z::l,0,x,y,h=>by
    simp at h
    subst h
    exact List.Perm.swap _ _ _
  | z::l,i+1,x,y,h=>by
    have ih:=set_perm (l:=l) (i:=i) (x:=x) (y:=y) (by simpa using h)
    rw [List.set_cons_succ]
    exact (List.Perm.swap z y l).trans ((ih.cons z).trans (List.Perm.swap x z _))
theorem dp_take {X:Cx} {e:Expr} {i:Nat} (h:PE X e (tVar i)):PED X e (dTake i):=by
  refine PE.imp h fun σ H Q h=>?_
  obtain ⟨H0,Y,S,T,δ,P,rfl,hS,hA,hd,k⟩:=h
  unfold dTake at hd
  split at hd
  · rename_i m d e1
    obtain ⟨ent,e2,e3⟩:=slot_of hS e1
    have hm:ent∈S:=List.mem_of_getElem? e2
    obtain ⟨u,x,F⟩:=ent
    subst e3
    obtain ⟨v,hv,hv2⟩:=hA.ok _ (List.mem_append_left _ hm)
    have hv':u=some v:=hv
    subst hv'
    refine ⟨v,by rw [vs_at e2],k _ _ v F (S.set i ⟨some v,.un,[]⟩) H ?_ ?_ ?_ hd⟩
    · unfold vs
      rw [List.map_set]
      apply List.ext_getElem?
      intro j
      rw [List.getElem?_set]
      split
      · rename_i hij
        subst hij
        rw [List.getElem?_map,e2]
        split
        · rfl
        · rename_i hj
          rw [List.length_map] at hj
          exact absurd (List.getElem?_eq_some_iff.mp e2).1 hj
      · rfl
    · unfold Sl at hS ⊢
      rw [List.map_set,hS]
    · have hp:=hA.push (e:=⟨some v,.un,[]⟩) (show EntOk X.K H δ.n ⟨some v,.un,[]⟩ from rfl) (fun f _=>⟨fun _ a ha=>(nomatch ha),fun _ a _=>List.not_mem_nil⟩) (fun a ha=>(nomatch ha))
      have p1:(⟨some v,.un,[]⟩::(S++T)).Perm ((S.set i ⟨some v,.un,[]⟩)++⟨some v,.dat m d,F⟩::T):=by
        rw [← List.cons_append]
        exact ((set_perm (y:=(⟨some v,.un,[]⟩ : Ent)) e2).append_right T).trans (by rw [List.cons_append]; exact List.perm_middle.symm)
      exact hp.perm p1
  · exact hd.elim
end DL
namespace DL
open PySem L2 Nd
abbrev D2:=DV→DV→(DV→Prop)→Prop
def OpS (K:PySem.W.Frag) (r:R2) (rd:D2):Prop:=∀ (H0:Hp) (X:Addr→Prop) (n:Nat) (S T:List Ent) (x y:DV) (v w:V) (F G:List Addr) (H:Hp) (Q:VK) (P:DV→Prop),
  At K H0 X n (S++⟨some w,y,G⟩::⟨some v,x,F⟩::T) H→rd x y P→(∀ z u F' H',At K H0 X n (S++⟨some u,z,F'⟩::T) H'→P z→Q u H')→r v w H Q
def dOp (rd:D2) (da db:DE):DE:=fun δ P=>da δ fun x δ1=>db δ1 fun y δ2=>rd x y fun z=>P z δ2
theorem op_le {K:PySem.W.Frag} {r:R2} {rd:D2} {da db:DE} (o:OpS K r rd):∀ σ H Q,LE K (dOp rd da db) σ H Q→tOp r (LE K da) (LE K db) σ H Q:=by
  intro σ H Q h
  obtain ⟨H0,Y,S,T,δ,P,rfl,hS,hA,hd,k⟩:=h
  refine ⟨H0,Y,S,T,δ,_,rfl,hS,hA,hd,fun x δ1 v F S1 H1 e1 e2 hA1 p1=>?_⟩
  refine ⟨H0,Y,S1,⟨some v,x,F⟩::T,δ1,_,e1,e2,hA1,p1,fun y δ2 w G S2 H2 e3 e4 hA2 p2=>?_⟩
  exact o H0 Y δ2.n S2 T x y v w F G H2 Q _ hA2 p2 fun z u F' H' hA3 p3=>k z δ2 u F' S2 H' e3 e4 hA3 p3
section
variable {X:Cx} {a b:Expr} {da db:DE} {pos:Pos} {r:R2} {rd:D2}
theorem dp_op {op:Operator} (ho:OpR X (binaryOp op) r) (o:OpS X.K r rd) (ha:PED X a da) (hb:PED X b db):PED X (.BinOp a op b pos) (dOp rd da db):=PE.imp (pe_op ho ha hb) (op_le o)
theorem dp_cmp {op:CmpOp} (ho:OpR X (compareOp op) r) (o:OpS X.K r rd) (ha:PED X a da) (hb:PED X b db) (hm:behindInMarks op b=false):PED X (.Compare a [op] [b] pos) (dOp rd da db):=PE.imp (pe_cmpR ho ha hb hm) (op_le o)
theorem dp_ix (ho:IxR X r) (o:OpS X.K r rd) (ha:PED X a da) (hb:PED X b db) (hs:PlainIx b):PED X (.Subscript a b pos) (dOp rd da db):=PE.imp (pe_ix ho ha hb hs) (op_le o)
end
def rdI (C:Int→Int→Prop) (g:Int→Int→PyData):D2:=fun x y P=>match x,y with
  | .dat _ (.int i),.dat _ (.int j)=>C i j∧P (.dat .ow (g i j))
  | _,_=>False
def rdI0 (g:Int→Int→PyData):D2:=fun x y P=>match x,y with
  | .dat _ (.int i),.dat _ (.int j)=>P (.dat .ow (g i j))
  | _,_=>False
section
variable {K:PySem.W.Frag}
theorem os_I {C:Int→Int→Prop} {g:Int→Int→V} {g':Int→Int→PyData} (h:∀ i j H,RdF K H (g i j) (g' i j) []):OpS K (rI C g) (rdI C g'):=by
  intro H0 X n S T x y v w F G H Q P hA hd k
  unfold rdI at hd
  split at hd
  · obtain ⟨rfl,_⟩:=(hA.told mem_mid2).int_inv
    obtain ⟨rfl,_⟩:=(hA.told mem_mid).int_inv
    exact ⟨_,_,rfl,rfl,hd.1,k _ _ [] H (hA.drop2.pushI (h _ _ H)) hd.2⟩
  · exact hd.elim
theorem os_I0 {g:Int→Int→V} {g':Int→Int→PyData} (h:∀ i j H,RdF K H (g i j) (g' i j) []):OpS K (rI0 g) (rdI0 g'):=by
  intro H0 X n S T x y v w F G H Q P hA hd k
  unfold rdI0 at hd
  split at hd
  · obtain ⟨rfl,_⟩:=(hA.told mem_mid2).int_inv
    obtain ⟨rfl,_⟩:=(hA.told mem_mid).int_inv
    exact ⟨_,_,rfl,rfl,k _ _ [] H (hA.drop2.pushI (h _ _ H)) hd⟩
  · exact hd.elim
end
abbrev rdAdd:D2:=rdI0 fun i j=>.int (i+j)
abbrev rdMul:D2:=rdI CMul fun i j=>.int (i * j)
abbrev rdDiv:D2:=rdI CDiv fun i j=>.int (i / j)
abbrev rdMod:D2:=rdI (fun _ j=>0<j) fun i j=>.int (i % j)
abbrev rdGt:D2:=rdI0 fun i j=>.bool (decide (j<i))
section
variable {X:Cx} {a b:Expr} {da db:DE} {pos:Pos}
theorem dp_add (ha:PED X a da) (hb:PED X b db):PED X (.BinOp a .Add b pos) (dOp rdAdd da db):=dp_op op_add (os_I0 fun _ _ _=>.int _) ha hb
theorem dp_mul (ha:PED X a da) (hb:PED X b db):PED X (.BinOp a .Mult b pos) (dOp rdMul da db):=dp_op op_mul (os_I fun _ _ _=>.int _) ha hb
theorem dp_div (ha:PED X a da) (hb:PED X b db):PED X (.BinOp a .FloorDiv b pos) (dOp rdDiv da db):=dp_op op_fdiv (os_I fun _ _ _=>.int _) ha hb
theorem dp_mod (ha:PED X a da) (hb:PED X b db):PED X (.BinOp a .Mod b pos) (dOp rdMod da db):=dp_op op_mod (os_I fun _ _ _=>.int _) ha hb
theorem dp_gt (ha:PED X a da) (hb:PED X b db):PED X (.Compare a [.Gt] [b] pos) (dOp rdGt da db):=dp_cmp op_gt (os_I0 fun _ _ _=>.bl _) ha hb (nomark _)
end
def rdEq (ne:Bool):D2:=fun x y P=>match x,y with
  | .dat _ d,.dat _ e=>d.depth≤60∧e.depth≤60∧P (.dat .ow (.bool (match ne with | true=>!eqD d e | false=>eqD d e)))
  | _,_=>False
def rdIn (ne:Bool):D2:=fun x y P=>match x,y with
  | .dat _ d,.dat _ (.list es)=>PyData.depthAll es≤60∧d.depth≤60∧P (.dat .ow (.bool (match ne with | true=>!(es.any fun e=>eqD e d) | false=>es.any fun e=>eqD e d)))
  | .dat _ d,.dat _ (.tuple es)=>PyData.depthAll es≤60∧d.depth≤60∧P (.dat .ow (.bool (match ne with | true=>!(es.any fun e=>eqD e d) | false=>es.any fun e=>eqD e d)))
  | _,_=>False
section
variable {K:PySem.W.Frag}
theorem os_eq:OpS K (rEqD K) (rdEq false):=by
  intro H0 X n S T x y v w F G H Q P hA hd k
  unfold rdEq at hd
  split at hd
  · exact ⟨_,_,(hA.told mem_mid2).rd (Nat.le_trans hd.1 (by decide)),(hA.told mem_mid).rd (Nat.le_trans hd.2.1 (by decide)),hd.1,k _ _ [] H (hA.drop2.pushI (.bl _)) hd.2.2⟩
  · exact hd.elim
theorem os_ne:OpS K (rNeD K) (rdEq true):=by
  intro H0 X n S T x y v w F G H Q P hA hd k
  unfold rdEq at hd
  split at hd
  · exact ⟨_,_,(hA.told mem_mid2).rd (Nat.le_trans hd.1 (by decide)),(hA.told mem_mid).rd (Nat.le_trans hd.2.1 (by decide)),hd.1,k _ _ [] H (hA.drop2.pushI (.bl _)) hd.2.2⟩
  · exact hd.elim
theorem os_in {ne:Bool}:OpS K (rInD K ne) (rdIn ne):=by
  intro H0 X n S T x y v w F G H Q P hA hd k
  unfold rdIn at hd
  split at hd
  · obtain ⟨a,xs,G',rfl,hq,hs,_,_⟩:=(hA.told mem_mid).list_inv
    refine ⟨a,xs,_,_,rfl,.inl (SqL.of hq),(hA.told mem_mid2).rd (Nat.le_trans hd.2.1 (by decide)),hs.rd (Nat.le_trans hd.1 (by decide)),hd.1,?_⟩
    cases ne with
    | true=>exact k _ _ [] H (hA.drop2.pushI (.bl _)) hd.2.2
    | false=>exact k _ _ [] H (hA.drop2.pushI (.bl _)) hd.2.2
  · obtain ⟨a,xs,rfl,hq,hs,_⟩:=(hA.told mem_mid).tup_inv
    refine ⟨a,xs,_,_,rfl,.inr (SqT.of hq),(hA.told mem_mid2).rd (Nat.le_trans hd.2.1 (by decide)),hs.rd (Nat.le_trans hd.1 (by decide)),hd.1,?_⟩
    cases ne with
    | true=>exact k _ _ [] H (hA.drop2.pushI (.bl _)) hd.2.2
    | false=>exact k _ _ [] H (hA.drop2.pushI (.bl _)) hd.2.2
  · exact hd.elim
end
section
variable {X:Cx} {a b:Expr} {da db:DE} {pos:Pos}
theorem dp_eq (hu:X.A.units+64<cLine) (ha:PED X a da) (hb:PED X b db):PED X (.Compare a [.Eq] [b] pos) (dOp (rdEq false) da db):=dp_cmp (op_eqD hu) os_eq ha hb (nomark _)
end
def mdIn:Md→Md
  | .ow=>.ow
  | .tp=>.sh
  | m=>m
theorem At.part {K:PySem.W.Frag} {H0 H:Hp} {X:Addr→Prop} {n:Nat} {S T:List Ent} {v w:V} {m:Md} {d e:PyData} {F G:List Addr} (h:At K H0 X n (S++⟨some v,.dat m d,F⟩::T) H) (r:RdF K H w e G) (hG:G.Sublist F):At K H0 X n (S++⟨some w,.dat (mdIn m) e,G⟩::T) H:=by
  have h2:=h.mid
  have hs:=List.pairwise_cons.mp h2.sep
  obtain ⟨v',e1,h1,hn,ht⟩:=h2.ok _ List.mem_cons_self
  have cs:∀ a∈cells ⟨some w,.dat (mdIn m) e,G⟩,a∈cells ⟨some v,.dat m d,F⟩:=fun a ha=>by
    cases m with
    | ow=>exact hG.subset ha
    | tp=>exact nomatch ha
    | sh=>exact nomatch ha
    | pk=>exact nomatch ha
  refine (h.drop.push (e:=⟨some w,.dat (mdIn m) e,G⟩) ⟨w,rfl,r,fun z=>?_,fun z=>?_⟩ (fun f hf=>?_) fun a ha=>?_).tomid
  · cases m with
    | ow=>exact (hn rfl).sublist hG
    | _=>cases z
  · cases m <;> cases z
  · refine ⟨fun hp a ha=>(hs.1 f hf).1 ?_ a (cs a ha),fun hp a ha z=>(hs.1 f hf).2 ?_ a ha (hG.subset z)⟩
    · rcases hp with hp | hp
      · exact .inl hp
      · cases hp
    · rcases hp with hp | hp
      · refine .inl ?_
        cases m <;> first | rfl | exact hp
      · exact .inr hp
  · rcases h2.new _ List.mem_cons_self a (cs a ha) with z | z
    · exact .inl z
    · cases z.2
def rdIx:D2:=fun x y P=>match x,y with
  | .dat m (.list ds),.dat _ (.int i)=>∃ d,atI ds i=some d∧P (.dat (mdIn m) d)
  | .dat m (.tuple ds),.dat _ (.int i)=>∃ d,atI ds i=some d∧P (.dat (mdIn m) d)
  | .dat _ (.str z),.dat _ (.int i)=>z.length≤sizeLine∧∃ c,atI z.cps.toList i=some c∧P (.dat .ow (.str ⟨#[c]⟩))
  | _,_=>False
theorem atI_rd {K:PySem.W.Frag} {H:Hp} {xs:List V} {ds:List PyData} {F:List Addr} {i:Int} {d:PyData} (r:RdFs K H xs ds F) (h:atI ds i=some d):∃ x G,atI xs i=some x∧RdF K H x d G∧G.Sublist F:=by
  unfold atI at h ⊢
  rw [r.len]
  cases e:ixN ds.length i with
  | none=>rw [e] at h; cases h
  | some j =>
    rw [e] at h
    exact r.get h
theorem os_ix {K:PySem.W.Frag}:OpS K (rIx K) rdIx:=by
  intro H0 X n S T x y v w F G H Q P hA hd k
  unfold rdIx at hd
  split at hd
  · obtain ⟨d,hi,p⟩:=hd
    obtain ⟨rfl,_⟩:=(hA.told mem_mid).int_inv
    have r:=hA.told mem_mid2
    have hA':=hA.drop
    obtain ⟨a,xs,G0,rfl,hq,hs,hG,_⟩:=r.list_inv
    obtain ⟨x,G',h1,h2,h3⟩:=atI_rd hs hi
    subst hG
    exact .inl ⟨_,_,_,_,rfl,rfl,SqL.of hq,h1,k _ _ G' H (hA'.part h2 (h3.trans (List.sublist_cons_self _ _))) p⟩
  · obtain ⟨d,hi,p⟩:=hd
    obtain ⟨rfl,_⟩:=(hA.told mem_mid).int_inv
    have r:=hA.told mem_mid2
    have hA':=hA.drop
    obtain ⟨a,xs,rfl,hq,hs,_⟩:=r.tup_inv
    obtain ⟨x,G',h1,h2,h3⟩:=atI_rd hs hi
    exact .inr (.inl ⟨_,_,_,_,rfl,rfl,SqT.of hq,h1,k _ _ G' H (hA'.part h2 h3) p⟩)
  · obtain ⟨hz,c,hi,p⟩:=hd
    obtain ⟨rfl,_⟩:=(hA.told mem_mid).int_inv
    obtain ⟨rfl,_⟩:=(hA.told mem_mid2).str_inv
    exact .inr (.inr ⟨_,_,_,rfl,rfl,hz,hi,k _ _ [] H (hA.drop2.pushI (.str _)) p⟩)
  · exact hd.elim
theorem dp_ixS {X:Cx} {a b:Expr} {da db:DE} {pos:Pos} (ha:PED X a da) (hb:PED X b db) (hs:PlainIx b:=by intro _ _; rfl):PED X (.Subscript a b pos) (dOp rdIx da db):=dp_ix ix_seq os_ix ha hb hs
def mdNew:Md→Md
  | .ow=>.ow
  | .pk=>.pk
  | _=>.tp
def nlist (i:Bool) (m:Md) (ds:List PyData) (P:DV→Prop):Prop:=match i with
  | true=>immAll ds=true∧P (.dat .ow (.list ds))
  | false=>P (.dat (mdNew m) (.list ds))
def ntup (i:Bool) (m:Md) (ds:List PyData) (P:DV→Prop):Prop:=match i with
  | true=>immAll ds=true∧P (.dat .ow (.tuple ds))
  | false=>P (.dat (mdIn m) (.tuple ds))
section
variable {K:PySem.W.Frag} {H0 H:Hp} {X:Addr→Prop} {n:Nat} {S T:List Ent} {v w:V} {m:Md} {d e:PyData} {F G:List Addr} {p:Addr} {xs:List V} {ds:List PyData} {P:DV→Prop} {i:Bool}
theorem At.newI (h:At K H0 X n (S++T) H) (r:RdFs K H xs ds G) (hi:immAll ds=true) (hz:ds.length≤sizeLine) (hp:H p=none) (m:Md):At K H0 X n (S++⟨some (.ref p),.dat m (.list ds),[p]⟩::T) (upd H p (.lst xs)):=by
  obtain rfl:=r.imm hi
  have s1:=same_new hp (.lst xs)
  have h1:=h.grow (n':=n) s1 (Nat.le_refl _)
  refine (h1.push (e:=⟨some (.ref p),.dat m (.list ds),[p]⟩) ⟨_,rfl,.lst upd_same hz (r.kp (Kp.of s1)),fun _=>List.nodup_cons.mpr ⟨List.not_mem_nil,List.nodup_nil⟩,fun _ a l z=>by cases z; exact List.not_mem_nil⟩ (fun f hf=>?_) fun a ha=>?_).tomid
  · have nf:=h.free hp f hf
    refine ⟨fun _ a ha z=>?_,fun _ a ha z=>?_⟩
    · have:=cells_sub _ a ha
      rw [List.mem_singleton.mp this] at z
      exact nf z
    · rw [List.mem_singleton.mp z] at ha
      exact nf (cells_sub _ _ ha)
  · have:=cells_sub _ a ha
    rw [List.mem_singleton.mp this]
    exact .inl (h.new0 hp)
theorem At.newL (h:At K H0 X n (S++⟨some v,.dat m d,F⟩::T) H) (r:RdFs K H xs ds G) (hG:G.Sublist F) (hz:ds.length≤sizeLine) (hp:H p=none) (q:nlist i m ds P):∃ z F',At K H0 X n (S++⟨some (.ref p),z,F'⟩::T) (upd H p (.lst xs))∧P z:=by
  cases i with
  | true=>exact ⟨_,_,h.drop.newI r q.1 hz hp .ow,q.2⟩
  | false =>
    have q:P (.dat (mdNew m) (.list ds)):=q
    refine ⟨_,p::G,?_,q⟩
    have s1:=same_new hp (.lst xs)
    have h2:=h.mid
    have hs:=List.pairwise_cons.mp h2.sep
    obtain ⟨v',e1,_,hn,_⟩:=h2.ok _ List.mem_cons_self
    have h1:=h.drop.grow (n':=n) s1 (Nat.le_refl _)
    have npF:p∉F:=h2.free hp _ List.mem_cons_self
    have npG:p∉G:=fun z=>npF (hG.subset z)
    have cs:∀ a∈cells ⟨some (.ref p),.dat (mdNew m) (.list ds),p::G⟩,a=p∨(a∈cells ⟨some v,.dat m d,F⟩):=fun a ha=>by
      cases m with
      | ow =>
        rcases List.mem_cons.mp ha with z | z
        · exact .inl z
        · exact .inr (hG.subset z)
      | tp=>exact .inl (List.mem_singleton.mp ha)
      | sh=>exact .inl (List.mem_singleton.mp ha)
      | pk=>exact nomatch ha
    refine (h1.push (e:=⟨some (.ref p),.dat (mdNew m) (.list ds),p::G⟩) ⟨_,rfl,.lst upd_same hz (r.kp (Kp.of s1)),fun z=>?_,fun z a l e=>?_⟩ (fun f hf=>?_) fun a ha=>?_).tomid
    · cases m with
      | ow=>exact List.nodup_cons.mpr ⟨npG,(hn rfl).sublist hG⟩
      | _=>cases z
    · cases e
      exact npG
    · have nf:=h2.free hp f (List.mem_cons_of_mem _ hf)
      refine ⟨fun hq a ha z=>?_,fun hq a ha z=>?_⟩
      · rcases cs a ha with rfl | hc
        · exact nf z
        · refine (hs.1 f hf).1 ?_ a hc z
          rcases hq with hq | hq
          · exact .inl hq
          · cases hq
      · rcases List.mem_cons.mp z with rfl | z
        · exact nf (cells_sub _ _ ha)
        · refine (hs.1 f hf).2 ?_ a ha (hG.subset z)
          rcases hq with hq | hq
          · refine .inl ?_
            cases m <;> first | rfl | exact hq
          · exact .inr hq
    · rcases cs a ha with rfl | hc
      · exact .inl (h2.new0 hp)
      · rcases h2.new _ List.mem_cons_self a hc with z | z
        · exact .inl z
        · cases z.2
theorem At.newT (h:At K H0 X n (S++⟨some v,.dat m d,F⟩::T) H) (r:RdFs K H xs ds G) (hG:G.Sublist F) (hz:ds.length≤sizeLine) (hp:H p=none) (q:ntup i m ds P):∃ z F',At K H0 X n (S++⟨some (.ref p),z,F'⟩::T) (upd H p (.tup xs))∧P z:=by
  have s1:=same_new hp (.tup xs)
  have h1:=h.grow (n':=n) s1 (Nat.le_refl _)
  cases i with
  | true =>
    obtain rfl:=r.imm q.1
    exact ⟨_,[],h1.drop.pushI (.tup upd_same hz (r.kp (Kp.of s1))),q.2⟩
  | false=>exact ⟨_,G,h1.part (.tup upd_same hz (r.kp (Kp.of s1))) hG,q⟩
end
def dNil:DA:=fun δ P=>P [] δ
def dCons (de:DE) (da:DA):DA:=fun δ P=>de δ fun x δ1=>da δ1 fun xs δ2=>P (x::xs) δ2
section
variable {X:Cx} {e:Expr} {es:List Expr} {de:DE} {da:DA}
theorem dpa_nil:PAD X [] dNil:=by
  refine PA.imp pa_nil fun σ H Q h=>?_
  obtain ⟨H0,Y,S,T,δ,P,rfl,hS,hA,hd,k⟩:=h
  exact k [] δ [] [] S H rfl hS rfl rfl hA hd
theorem dpa_cons (ha:PED X e de) (hr:PAD X es da) (hs:starEach (e::es) X.env=(false,eval e X.env)::starEach es X.env:=by rfl):PAD X (e::es) (dCons de da):=by
  refine PA.imp (pa_cons ha hr hs) fun σ H Q h=>?_
  obtain ⟨H0,Y,S,T,δ,P,rfl,hS,hA,hd,k⟩:=h
  refine ⟨H0,Y,S,T,δ,_,rfl,hS,hA,hd,fun x δ1 v F S1 H1 e1 e2 hA1 p1=>?_⟩
  refine ⟨H0,Y,S1,⟨some v,x,F⟩::T,δ1,_,e1,e2,hA1,p1,fun xs δ2 As us S2 H2 e3 e4 ex eu hA2 p2=>?_⟩
  refine k (x::xs) δ2 (⟨some v,x,F⟩::As) (v::us) S2 H2 e3 e4 (by rw [List.map_cons,ex]) (by rw [List.map_cons,List.map_cons,eu]) (hA2.perm ((List.Perm.refl S2).append ?_)) p2
  exact List.perm_middle
end
def allOw:List DV→Bool
  | []=>true
  | .dat .ow _::xs=>allOw xs
  | _=>false
def noPk:List DV→Bool
  | []=>true
  | .dat .pk _::_=>false
  | .dat _ _::xs=>noPk xs
  | _=>false
def datas:List DV→Option (List PyData)
  | []=>some []
  | .dat _ d::xs=>(datas xs).map (d::·)
  | _=>none
def pkMd (top:Md) (xs:List DV):Md:=if allOw xs=true then .ow else if noPk xs=true then top else .pk
section
variable {K:PySem.W.Frag} {H0 H:Hp} {X:Addr→Prop} {n:Nat} {S T As:List Ent}
theorem datas_rd:∀ {As:List Ent} {us:List V} {ds:List PyData},As.map Ent.v=us.map some→datas (As.map Ent.x)=some ds→(∀ e∈As,EntOk K H n e)→RdFs K H us ds (As.flatMap Ent.F)
  | [],us,ds,e,h,_=>by
    cases us with
    | nil=>cases h; exact .nil
    | cons _ _=>cases e
  | ent::As,us,ds,e,h,ok=>by
    cases us with
    | nil=>cases e
    | cons u us =>
      rw [List.map_cons,List.map_cons] at e
      obtain ⟨e1,e2⟩:=List.cons.inj e
      obtain ⟨v,x,F⟩:=ent
      have e1':v=some u:=e1
      subst e1'
      rw [List.map_cons] at h
      cases x with
      | dat m d =>
        rw [show datas (DV.dat m d::As.map Ent.x)=(datas (As.map Ent.x)).map (d::·) from rfl] at h
        cases q:datas (As.map Ent.x) with
        | none=>rw [q] at h; cases h
        | some es =>
          rw [q] at h
          cases h
          obtain ⟨w,ew,rw',_⟩:=ok _ List.mem_cons_self
          cases ew
          rw [List.flatMap_cons]
          exact .cons rw' (datas_rd e2 q fun f hf=>ok f (List.mem_cons_of_mem _ hf))
      | _=>cases h
theorem allOw_dat:∀ {As:List Ent},allOw (As.map Ent.x)=true→∀ e∈As,∃ d,e.x=.dat .ow d
  | [],_,_,h=>nomatch h
  | ⟨v,x,F⟩::As,h,e,he=>by
    rw [List.map_cons] at h
    have hx:(∃ d,x=.dat .ow d)∧allOw (As.map Ent.x)=true:=by
      cases x with
      | dat m d=>cases m <;> first | exact ⟨⟨d,rfl⟩,h⟩ | cases h
      | _=>cases h
    rcases List.mem_cons.mp he with rfl | he
    · exact hx.1
    · exact allOw_dat hx.2 e he
theorem noPk_dat:∀ {As:List Ent},noPk (As.map Ent.x)=true→∀ e∈As,isPk e.x=false
  | [],_,_,h=>nomatch h
  | ⟨v,x,F⟩::As,h,e,he=>by
    rw [List.map_cons] at h
    have hx:isPk x=false∧noPk (As.map Ent.x)=true:=by
      cases x with
      | dat m d=>cases m <;> first | exact ⟨rfl,h⟩ | cases h
      | _=>cases h
    rcases List.mem_cons.mp he with rfl | he
    · exact hx.1
    · exact noPk_dat hx.2 e he
theorem nodup_flat:∀ {As:List Ent},(∀ e∈As,∃ d,e.x=.dat .ow d)→(∀ e∈As,EntOk K H n e)→As.Pairwise SepR→(As.flatMap Ent.F).Nodup
  | [],_,_,_=>List.nodup_nil
  | ent::As,ho,ok,hs=>by
    rw [List.flatMap_cons]
    have hc:=List.pairwise_cons.mp hs
    obtain ⟨v,x,F⟩:=ent
    obtain ⟨d,hd⟩:=ho _ List.mem_cons_self
    have hd':x=.dat .ow d:=hd
    subst hd'
    obtain ⟨w,_,_,hn,_⟩:=ok _ List.mem_cons_self
    refine List.nodup_append.mpr ⟨hn rfl,nodup_flat (fun e he=>ho e (List.mem_cons_of_mem _ he)) (fun e he=>ok e (List.mem_cons_of_mem _ he)) hc.2,fun a ha b hb z=>?_⟩
    subst z
    obtain ⟨f,hf,hb⟩:=List.mem_flatMap.mp hb
    obtain ⟨d',hd'⟩:=ho f (List.mem_cons_of_mem _ hf)
    exact (hc.1 f hf).1 (.inl (by rw [hd']; rfl)) a ha hb
theorem At.pack {v:V} {d:PyData} {N:List Addr} {H':Hp} {top:Md} (h:At K H0 X n (S++(As++T)) H) (s:Same H H') (hN:∀ a∈N,H a=none) (ndN:N.Nodup) (htop:(top=.tp∧N.length=1)∨(top=.sh∧N=[])) (r:RdF K H' v d (N++As.flatMap Ent.F)):At K H0 X n (S++⟨some v,.dat (pkMd top (As.map Ent.x)) d,N++As.flatMap Ent.F⟩::T) H':=by
  have hp:(S++(As++T)).Perm (As++(S++T)):=by
    rw [← List.append_assoc,← List.append_assoc]
    exact List.perm_append_comm.append_right T
  have h2:=h.perm hp
  have hs:=List.pairwise_append.mp h2.sep
  have h1:=(h.dropL).grow (n':=n) s (Nat.le_refl _)
  have nN:∀ a∈N,∀ f∈As++(S++T),a∉f.F:=fun a ha f hf=>h2.free (hN a ha) f hf
  have nFlat:∀ a∈N,a∉As.flatMap Ent.F:=fun a ha z=>by
    obtain ⟨f,hf,z⟩:=List.mem_flatMap.mp z
    exact nN a ha f (List.mem_append_left _ hf) z
  have cs:∀ a∈cells ⟨some v,.dat (pkMd top (As.map Ent.x)) d,N++As.flatMap Ent.F⟩,a∈N∨(allOw (As.map Ent.x)=true∧∃ f∈As,a∈cells f):=fun a ha=>by
    unfold pkMd at ha
    by_cases hw:allOw (As.map Ent.x)=true
    · rw [if_pos hw] at ha
      rcases List.mem_append.mp ha with z | z
      · exact .inl z
      · obtain ⟨f,hf,z⟩:=List.mem_flatMap.mp z
        obtain ⟨d',hd'⟩:=allOw_dat hw f hf
        refine .inr ⟨hw,f,hf,?_⟩
        unfold cells
        rw [hd']
        exact z
    · rw [if_neg hw] at ha
      by_cases hk:noPk (As.map Ent.x)=true
      · rw [if_pos hk] at ha
        rcases htop with ⟨rfl,h1⟩ | ⟨rfl,rfl⟩
        · match N,h1,ha with
          | [b],_,ha=>exact .inl ha
        · exact nomatch ha
      · rw [if_neg hk] at ha
        exact nomatch ha
  refine (h1.push (e:=⟨some v,.dat (pkMd top (As.map Ent.x)) d,N++As.flatMap Ent.F⟩) ⟨_,rfl,r,fun z=>?_,fun z a l e=>?_⟩ (fun f hf=>?_) fun a ha=>?_).tomid
  · have hw:allOw (As.map Ent.x)=true:=by
      unfold pkMd at z
      by_cases hw:allOw (As.map Ent.x)=true
      · exact hw
      · rw [if_neg hw] at z
        split at z
        · rcases htop with ⟨rfl,_⟩ | ⟨rfl,_⟩ <;> cases z
        · cases z
    refine List.nodup_append.mpr ⟨ndN,nodup_flat (allOw_dat hw) (fun e he=>h2.ok e (List.mem_append_left _ he)) hs.1,fun a ha b hb e=>?_⟩
    subst e
    exact nFlat a ha hb
  · have ht:top=.tp:=by
      unfold pkMd at z
      split at z
      · cases z
      · split at z
        · exact z
        · cases z
    subst ht
    rcases htop with ⟨_,h1⟩ | ⟨h1,_⟩
    · match N,h1,e,nFlat with
      | [b],_,e,nFlat =>
        cases e
        exact nFlat a List.mem_cons_self
    · cases h1
  · have hf':f∈As++(S++T):=List.mem_append_right _ hf
    refine ⟨fun hq a ha z=>?_,fun hq a ha z=>?_⟩
    · rcases cs a ha with hn | ⟨_,g,hg,hc⟩
      · exact nN a hn f hf' z
      · refine (hs.2.2 g hg f hf).1 ?_ a hc z
        rcases hq with hq | hq
        · exact .inl hq
        · cases hq
    · rcases List.mem_append.mp z with z | z
      · exact nN a z f hf' (cells_sub _ _ ha)
      · obtain ⟨g,hg,z⟩:=List.mem_flatMap.mp z
        refine (hs.2.2 g hg f hf).2 ?_ a ha z
        rcases hq with hq | hq
        · refine .inl ?_
          have hq':isPk (.dat (pkMd top (As.map Ent.x)) d)=false:=hq
          unfold pkMd at hq'
          by_cases hw:allOw (As.map Ent.x)=true
          · obtain ⟨d',hd'⟩:=allOw_dat hw g hg
            rw [hd']
            rfl
          · rw [if_neg hw] at hq'
            by_cases hk:noPk (As.map Ent.x)=true
            · exact noPk_dat hk g hg
            · rw [if_neg hk] at hq'
              cases hq'
        · exact .inr hq
  · rcases cs a ha with hn | ⟨_,g,hg,hc⟩
    · exact .inl (h2.new0 (hN a hn))
    · rcases h2.new g (List.mem_append_left _ hg) a hc with z | z
      · exact .inl z
      · obtain ⟨d',hd'⟩:=allOw_dat (by assumption) g hg
        rw [hd'] at z
        cases z.2
end
def dTup (da:DA):DE:=fun δ P=>da δ fun xs δ'=>match datas xs with
  | some ds=>ds.length≤1000∧P (.dat (pkMd .sh xs) (.tuple ds)) δ'
  | none=>False
def dLst (da:DA):DE:=fun δ P=>da δ fun xs δ'=>match datas xs with
  | some ds=>ds.length≤1000∧P (.dat (pkMd .tp xs) (.list ds)) δ'
  | none=>False
section
variable {X:Cx} {es:List Expr} {da:DA} {pos:Pos}
theorem dp_tup {x1} (h:PAD X es da):PED X (.Tuple es x1 pos) (dTup da):=by
  refine PE.imp (pe_tup h) fun σ H Q h=>?_
  obtain ⟨H0,Y,S,T,δ,P,rfl,hS,hA,hd,k⟩:=h
  refine ⟨H0,Y,S,T,δ,_,rfl,hS,hA,hd,fun xs δ' As us S' H' e1 e2 ex eu hA' p=>?_⟩
  cases q:datas xs with
  | none=>rw [q] at p; exact p.elim
  | some ds =>
    rw [q] at p
    subst ex
    have r:=datas_rd eu q fun e he=>hA'.ok e (List.mem_append_right _ (List.mem_append_left _ he))
    have hl:=r.len
    have hz:ds.length≤sizeLine:=sz p.1
    refine ⟨by omega,fun t ht=>?_⟩
    have s1:=same_new ht (.tup us)
    exact k _ δ' _ _ S' _ e1 e2 (hA'.pack (N:=[]) s1 (fun _ z=>nomatch z) List.nodup_nil (.inr ⟨rfl,rfl⟩) (.tup upd_same hz (r.kp (Kp.of s1)))) p.2
theorem dp_lst (h:PAD X es da):PED X (.List es pos) (dLst da):=by
  refine PE.imp (pe_lst h) fun σ H Q h=>?_
  obtain ⟨H0,Y,S,T,δ,P,rfl,hS,hA,hd,k⟩:=h
  refine ⟨H0,Y,S,T,δ,_,rfl,hS,hA,hd,fun xs δ' As us S' H' e1 e2 ex eu hA' p=>?_⟩
  cases q:datas xs with
  | none=>rw [q] at p; exact p.elim
  | some ds =>
    rw [q] at p
    subst ex
    have r:=datas_rd eu q fun e he=>hA'.ok e (List.mem_append_right _ (List.mem_append_left _ he))
    have hl:=r.len
    have hz:ds.length≤sizeLine:=sz p.1
    refine ⟨by omega,fun t ht=>?_⟩
    have s1:=same_new ht (.lst us)
    exact k _ δ' _ _ S' _ e1 e2 (hA'.pack (N:=[t]) s1 (fun a z=>by rw [List.mem_singleton.mp z]; exact ht) (List.nodup_cons.mpr ⟨List.not_mem_nil,List.nodup_nil⟩) (.inl ⟨rfl,rfl⟩) (.lst upd_same hz (r.kp (Kp.of s1)))) p.2
end
end DL
namespace Nd
open PySem PySem.Spec PyProof.Rows L2
end Nd
namespace Nd
open PySem PySem.Spec PyProof.Rows L2
end Nd
namespace Ts
open PySem PyProof.Rows
def gallopP:Bool→Keyed→Array Keyed→Nat→Nat→Nat→StateT SortSt Sem (Option Nat):=sortPriv% PySem.Builtin.gallop
structure Cmp (prog:Program) (w:World) (A:Around) (s:Shared) (kd:SortKind) (Ok:Keyed→Prop) (blt:Keyed→Keyed→Bool):Prop where
  run:∀ (x y:Keyed) (Q:Bool→Shared→Prop) (E:Value→Shared→Prop),Ok x→Ok y→Q (blt x y) s→wpAny (model prog w) A (keyLt' kd x.1 y.1) Q E s
  irr:∀ x,blt x x=false
  tr:∀ x y z,blt x y=true→blt y z=true→blt x z=true
  neg:∀ x y z,blt x z=true→blt x y=true∨blt y z=true
def le (blt:Keyed→Keyed→Bool) (x y:Keyed):Prop:=blt y x=false
section
variable {prog:Program} {w:World} {A:Around} {s:Shared} {kd:SortKind} {Ok:Keyed→Prop} {blt:Keyed→Keyed→Bool}
theorem Cmp.refl (C:Cmp prog w A s kd Ok blt) (x:Keyed):le blt x x:=C.irr x
theorem Cmp.ofLt (C:Cmp prog w A s kd Ok blt) {x y:Keyed} (h:blt x y=true):le blt x y:=by
  unfold le
  cases q:blt y x with
  | false=>rfl
  | true=>have:=C.tr _ _ _ h q; rw [C.irr] at this; cases this
theorem Cmp.trans (C:Cmp prog w A s kd Ok blt) {x y z:Keyed} (h1:le blt x y) (h2:le blt y z):le blt x z:=by
  unfold le at *
  cases q:blt z x with
  | false=>rfl
  | true =>
    rcases C.neg _ y _ q with h | h
    · rw [h2] at h; cases h
    · rw [h1] at h; cases h
theorem Cmp.ltLe (C:Cmp prog w A s kd Ok blt) {x y z:Keyed} (h1:blt x y=true) (h2:le blt y z):blt x z=true:=by
  unfold le at h2
  rcases C.neg _ z _ h1 with h | h
  · exact h
  · rw [h2] at h; cases h
theorem Cmp.leLt (C:Cmp prog w A s kd Ok blt) {x y z:Keyed} (h1:le blt x y) (h2:blt y z=true):blt x z=true:=by
  unfold le at h1
  rcases C.neg _ x _ h2 with h | h
  · rw [h1] at h; cases h
  · exact h
variable {E:Value→Shared→Prop}
structure Kept (st st':SortSt):Prop where
  kind:kindOf st'=kindOf st
  arr:arrOf st'=arrOf st
  pend:pendingOf st'=pendingOf st
  fail:failedOf st'=failedOf st
theorem Kept.refl (st:SortSt):Kept st st:=⟨rfl,rfl,rfl,rfl⟩
theorem Kept.trans {a b c:SortSt} (h:Kept a b) (k:Kept b c):Kept a c:=⟨k.kind.trans h.kind,k.arr.trans h.arr,k.pend.trans h.pend,k.fail.trans h.fail⟩
theorem lt_ok (C:Cmp prog w A s kd Ok blt) {st:SortSt} {x y:Keyed} {Q:Option Bool→SortSt→Prop} (hk:kindOf st=kd) (ox:Ok x) (oy:Ok y) (h:Q (some (blt x y)) st):wpS (model prog w) A E s (lt' x y) Q st:=by
  rw [lt'_eq]
  refine wpS_bind (wpS_get ?_)
  rw [hk]
  exact wpS_bind (wpS_lift (wpAny_attempt (C.run x y _ _ ox oy ⟨rfl,wpS_pure h⟩)))
theorem elem_ok {st:SortSt} {xs:Array Keyed} {i:Nat} {p:Keyed} {Q:Keyed→SortSt→Prop} (h:xs[i]? = some p) (q:Q p st):wpS (model prog w) A E s (elem' xs i) Q st:=by
  rw [elem'_eq,h]
  exact wpS_pure q
def beyondP (left:Bool) (key:Keyed) (arr:Array Keyed) (base i:Nat):StateT SortSt Sem (Option Bool):=do
  let x ← elem' arr (base+i)
  if left then lt' x key else return (← lt' key x).map (!·)
def findP (left:Bool) (key:Keyed) (arr:Array Keyed) (base n lo0 hi0:Nat):StateT SortSt Sem (Option Nat):=do
  let mut lo:=lo0
  let mut hi:=hi0
  for _ in [0:n] do
    if lo ≥ hi then break
    let mid:=lo+(hi - lo) / 2
    let some up ← beyondP left key arr base mid | return none
    if up then lo:=mid+1 else hi:=mid
  return some hi
theorem gallopP_eq (left:Bool) (key:Keyed) (arr:Array Keyed) (base n hint:Nat):gallopP left key arr base n hint=(do
    let some right ← beyondP left key arr base hint | return none
    let mut last:=0
    let mut ofs:=1
    if right then
      let top:=n - hint
      for _ in [0:n] do
        if ofs ≥ top then break
        let some up ← beyondP left key arr base (hint+ofs) | return none
        if !up then break
        last:=ofs
        ofs:=2 * ofs+1
      findP left key arr base n (hint+last+1) (hint+min ofs top)
    else
      let top:=hint+1
      for _ in [0:n] do
        if ofs ≥ top then break
        let some got ← beyondP left key arr base (hint - ofs) | return none
        if got then break
        last:=ofs
        ofs:=2 * ofs+1
      findP left key arr base n (hint+1 - min ofs top) (hint - last)):=rfl
def bval (blt:Keyed→Keyed→Bool) (left:Bool) (key x:Keyed):Bool:=if left then blt x key else !blt key x
structure Row (Ok:Keyed→Prop) (arr:Array Keyed) (base n:Nat) (el:Nat→Keyed):Prop where
  at_:∀ i,i<n→arr[base+i]? = some (el i)
  ok:∀ i,i<n→Ok (el i)
theorem beyond_ok (C:Cmp prog w A s kd Ok blt) {st:SortSt} {left:Bool} {key:Keyed} {arr:Array Keyed} {base n i:Nat} {el:Nat→Keyed} (R:Row Ok arr base n el) (ok:Ok key) (hk:kindOf st=kd) (hi:i<n) {Q:Option Bool→SortSt→Prop} (h:Q (some (bval blt left key (el i))) st):wpS (model prog w) A E s (beyondP left key arr base i) Q st:=by
  unfold beyondP
  refine wpS_bind (elem_ok (R.at_ i hi) ?_)
  cases left with
  | true =>
    rw [if_pos rfl]
    exact lt_ok C hk (R.ok i hi) ok h
  | false =>
    rw [if_neg Bool.false_ne_true]
    exact wpS_bind (lt_ok C hk ok (R.ok i hi) (wpS_pure h))
theorem find_ok (C:Cmp prog w A s kd Ok blt) {st:SortSt} {left:Bool} {key:Keyed} {arr:Array Keyed} {base n lo hi:Nat} {el:Nat→Keyed} (R:Row Ok arr base n el) (ok:Ok key) (hk:kindOf st=kd) (mono:∀ i j,i≤j→j<n→bval blt left key (el j)=true→bval blt left key (el i)=true) (h1:lo≤hi) (h2:hi≤n) (t1:∀ i,i<lo→bval blt left key (el i)=true) (t2:∀ i,hi≤i→i<n→bval blt left key (el i)=false) {Q:Option Nat→SortSt→Prop} (h:∀ k,k≤n→(∀ i,i<k→bval blt left key (el i)=true)→(∀ i,k≤i→i<n→bval blt left key (el i)=false)→Q (some k) st):wpS (model prog w) A E s (findP left key arr base n lo hi) Q st:=by
  unfold findP
  refine wpS_bind (wpS_mono (wpS_forRange (I:=fun x c st'=>∃ l r,c=(none,l,r)∧st'=st∧l≤r∧r≤n∧r - l+x≤n∧(∀ i,i<l→bval blt left key (el i)=true)∧(∀ i,r≤i→i<n→bval blt left key (el i)=false))
    (Q:=fun c st'=>∃ r,c=(none,r,r)∧st'=st∧r≤n∧(∀ i,i<r→bval blt left key (el i)=true)∧(∀ i,r≤i→i<n→bval blt left key (el i)=false)) ?_ ?_ ⟨lo,hi,rfl,rfl,h1,h2,by omega,t1,t2⟩) ?_)
  · rintro x c st' _ hx ⟨l,r,rfl,rfl,a1,a2,a3,b1,b2⟩
    dsimp only
    by_cases hlr:l ≥ r
    · rw [if_pos hlr]
      have e:l=r:=by omega
      subst e
      exact wpS_pure ⟨l,rfl,rfl,a2,b1,b2⟩
    · rw [if_neg hlr]
      have hm:l+(r - l) / 2<n:=by omega
      refine wpS_bind (beyond_ok C R ok hk hm ?_)
      dsimp only
      cases hb:bval blt left key (el (l+(r - l) / 2)) with
      | true =>
        rw [if_pos rfl]
        exact wpS_pure ⟨l+(r - l) / 2+1,r,rfl,rfl,by omega,a2,by omega,fun i hi=>mono i _ (by omega) hm hb,b2⟩
      | false =>
        rw [if_neg Bool.false_ne_true]
        refine wpS_pure ⟨l,l+(r - l) / 2,rfl,rfl,by omega,by omega,by omega,b1,fun i hi hn=>?_⟩
        cases q:bval blt left key (el i) with
        | false=>rfl
        | true=>rw [mono _ i hi hn q] at hb; cases hb
  · rintro c st' ⟨l,r,rfl,rfl,a1,a2,a3,b1,b2⟩
    have e:l=r:=by
      have : max 0 n=n:=by omega
      rw [this] at a3
      omega
    subst e
    exact ⟨l,rfl,rfl,a2,b1,b2⟩
  · rintro c st' ⟨r,rfl,rfl,a2,b1,b2⟩
    exact wpS_pure (h r a2 b1 b2)
theorem gallop_ok (C:Cmp prog w A s kd Ok blt) {st:SortSt} {left:Bool} {key:Keyed} {arr:Array Keyed} {base n hint:Nat} {el:Nat→Keyed} (R:Row Ok arr base n el) (ok:Ok key) (hk:kindOf st=kd) (hh:hint<n) (mono:∀ i j,i≤j→j<n→bval blt left key (el j)=true→bval blt left key (el i)=true) {Q:Option Nat→SortSt→Prop} (h:∀ k,k≤n→(∀ i,i<k→bval blt left key (el i)=true)→(∀ i,k≤i→i<n→bval blt left key (el i)=false)→Q (some k) st):wpS (model prog w) A E s (gallopP left key arr base n hint) Q st:=by
  have anti:∀ i j,i≤j→j<n→bval blt left key (el i)=false→bval blt left key (el j)=false:=fun i j hij hj q=>by
    cases z:bval blt left key (el j) with
    | false=>rfl
    | true=>rw [mono i j hij hj z] at q; cases q
  rw [gallopP_eq]
  refine wpS_bind (beyond_ok C R ok hk hh ?_)
  dsimp only
  cases hb:bval blt left key (el hint) with
  | true =>
    rw [if_pos rfl]
    refine wpS_bind (wpS_mono (wpS_forRange (I:=fun x c st'=>∃ la o,c=(none,la,o)∧st'=st∧la<o∧x+1≤o∧hint+la<n∧bval blt left key (el (hint+la))=true)
      (Q:=fun c st'=>∃ la o,c=(none,la,o)∧st'=st∧la<o∧hint+la<n∧bval blt left key (el (hint+la))=true∧(o ≥ n - hint∨(hint+o<n∧bval blt left key (el (hint+o))=false))) ?_ ?_
      ⟨0,1,rfl,rfl,by omega,by omega,by omega,hb⟩) ?_)
    · rintro x c st' _ hx ⟨la,o,rfl,rfl,a1,a2,a3,b1⟩
      dsimp only
      by_cases ho:o ≥ n - hint
      · rw [if_pos ho]
        exact wpS_pure ⟨la,o,rfl,rfl,a1,a3,b1,.inl ho⟩
      · rw [if_neg ho]
        have hm:hint+o<n:=by omega
        refine wpS_bind (beyond_ok C R ok hk hm ?_)
        dsimp only
        cases hb2:bval blt left key (el (hint+o)) with
        | true =>
          simp only [Bool.not_true,Bool.false_eq_true,if_false]
          exact wpS_pure ⟨o,2 * o+1,rfl,rfl,by omega,by omega,hm,hb2⟩
        | false =>
          simp only [Bool.not_false,if_true]
          exact wpS_pure ⟨la,o,rfl,rfl,a1,a3,b1,.inr ⟨hm,hb2⟩⟩
    · rintro c st' ⟨la,o,rfl,rfl,a1,a2,a3,b1⟩
      have : max 0 n=n:=by omega
      rw [this] at a2
      exact ⟨la,o,rfl,rfl,a1,a3,b1,.inl (by omega)⟩
    · rintro c st' ⟨la,o,rfl,rfl,a1,a3,b1,b2⟩
      dsimp only
      refine find_ok C R ok hk mono (by omega) (by omega) (fun i hi=>mono i _ (by omega) a3 b1) (fun i hi hn=>?_) h
      rcases b2 with b2 | ⟨b2,b3⟩
      · exfalso; omega
      · exact anti _ i (by omega) hn b3
  | false =>
    rw [if_neg Bool.false_ne_true]
    refine wpS_bind (wpS_mono (wpS_forRange (I:=fun x c st'=>∃ la o,c=(none,la,o)∧st'=st∧la<o∧x+1≤o∧la≤hint∧bval blt left key (el (hint - la))=false)
      (Q:=fun c st'=>∃ la o,c=(none,la,o)∧st'=st∧la<o∧la≤hint∧bval blt left key (el (hint - la))=false∧(o ≥ hint+1∨(o≤hint∧bval blt left key (el (hint - o))=true))) ?_ ?_
      ⟨0,1,rfl,rfl,by omega,by omega,by omega,hb⟩) ?_)
    · rintro x c st' _ hx ⟨la,o,rfl,rfl,a1,a2,a3,b1⟩
      dsimp only
      by_cases ho:o ≥ hint+1
      · rw [if_pos ho]
        exact wpS_pure ⟨la,o,rfl,rfl,a1,a3,b1,.inl ho⟩
      · rw [if_neg ho]
        have hm:hint - o<n:=by omega
        refine wpS_bind (beyond_ok C R ok hk hm ?_)
        dsimp only
        cases hb2:bval blt left key (el (hint - o)) with
        | true =>
          rw [if_pos rfl]
          exact wpS_pure ⟨la,o,rfl,rfl,a1,a3,b1,.inr ⟨by omega,hb2⟩⟩
        | false =>
          rw [if_neg Bool.false_ne_true]
          exact wpS_pure ⟨o,2 * o+1,rfl,rfl,by omega,by omega,by omega,hb2⟩
    · rintro c st' ⟨la,o,rfl,rfl,a1,a2,a3,b1⟩
      have : max 0 n=n:=by omega
      rw [this] at a2
      exact ⟨la,o,rfl,rfl,a1,a3,b1,.inl (by omega)⟩
    · rintro c st' ⟨la,o,rfl,rfl,a1,a3,b1,b2⟩
      dsimp only
      refine find_ok C R ok hk mono (by omega) (by omega) (fun i hi=>?_) (fun i hi hn=>anti _ i hi hn b1) h
      rcases b2 with b2 | ⟨b2,b3⟩
      · exfalso; omega
      · exact mono i _ (by omega) (by omega) b3
end
end Ts
namespace Ts
open PySem PyProof.Rows
structure MI {α:Type} (R:α→α→Prop) (xs ys out:List α) (i j:Nat):Prop where
  perm:out.Perm (xs.take i++ys.take j)
  srt:out.Pairwise R
  lx:∀ o∈out,∀ z∈xs.drop i,R o z
  ly:∀ o∈out,∀ z∈ys.drop j,R o z
section
variable {α:Type} {R:α→α→Prop} {xs ys out:List α} {i j:Nat}
theorem drop_cons {l:List α} {n:Nat} {a:α} (h:l[n]? = some a):l.drop n=a::l.drop (n+1):=by
  obtain ⟨hn,e⟩:=List.getElem?_eq_some_iff.mp h
  rw [List.drop_eq_getElem_cons hn,e]
theorem take_snoc {l:List α} {n:Nat} {a:α} (h:l[n]? = some a):l.take (n+1)=l.take n++[a]:=by
  rw [List.take_succ,h]; rfl
theorem MI.pushY (M:MI R xs ys out i j) (sy:ys.Pairwise R) {y:α} (hy:ys[j]? = some y) (hx:∀ z∈xs.drop i,R y z):MI R xs ys (out++[y]) i (j+1):=by
  have dy:=drop_cons hy
  have sd:(y::ys.drop (j+1)).Pairwise R:=by rw [← dy]; exact List.Pairwise.sublist (List.drop_sublist _ _) sy
  obtain ⟨s1,s2⟩:=List.pairwise_cons.mp sd
  refine ⟨?_,?_,fun o ho z hz=>?_,fun o ho z hz=>?_⟩
  · rw [take_snoc hy,← List.append_assoc]
    exact M.perm.append_right _
  · refine List.pairwise_append.mpr ⟨M.srt,List.pairwise_singleton _ _,fun o ho z hz=>?_⟩
    have e:z=y:=by simpa using hz
    rw [e]
    exact M.ly o ho y (by rw [dy]; exact List.mem_cons_self)
  · rcases List.mem_append.mp ho with ho | ho
    · exact M.lx o ho z hz
    · have e:o=y:=by simpa using ho
      rw [e]; exact hx z hz
  · rcases List.mem_append.mp ho with ho | ho
    · exact M.ly o ho z (by rw [dy]; exact List.mem_cons_of_mem _ hz)
    · have e:o=y:=by simpa using ho
      rw [e]; exact s1 z hz
theorem MI.pushX (M:MI R xs ys out i j) (sx:xs.Pairwise R) {x:α} (hx:xs[i]? = some x) (hy:∀ z∈ys.drop j,R x z):MI R xs ys (out++[x]) (i+1) j:=by
  have dx:=drop_cons hx
  have sd:(x::xs.drop (i+1)).Pairwise R:=by rw [← dx]; exact List.Pairwise.sublist (List.drop_sublist _ _) sx
  obtain ⟨s1,s2⟩:=List.pairwise_cons.mp sd
  refine ⟨?_,?_,fun o ho z hz=>?_,fun o ho z hz=>?_⟩
  · rw [take_snoc hx]
    have p1:(out++[x]).Perm ((xs.take i++ys.take j)++[x]):=M.perm.append_right _
    refine p1.trans ?_
    rw [List.append_assoc,List.append_assoc]
    exact List.Perm.append_left _ List.perm_append_comm
  · refine List.pairwise_append.mpr ⟨M.srt,List.pairwise_singleton _ _,fun o ho z hz=>?_⟩
    have e:z=x:=by simpa using hz
    rw [e]
    exact M.lx o ho x (by rw [dx]; exact List.mem_cons_self)
  · rcases List.mem_append.mp ho with ho | ho
    · exact M.lx o ho z (by rw [dx]; exact List.mem_cons_of_mem _ hz)
    · have e:o=x:=by simpa using ho
      rw [e]; exact s1 z hz
  · rcases List.mem_append.mp ho with ho | ho
    · exact M.ly o ho z hz
    · have e:o=x:=by simpa using ho
      rw [e]; exact hy z hz
theorem take_drop_snoc {l:List α} {n k:Nat} {a:α} (h:l[n+k]? = some a):(l.drop n).take (k+1)=(l.drop n).take k++[a]:=take_snoc (by rw [List.getElem?_drop]; exact h)
theorem MI.blockX (M:MI R xs ys out i j) (sx:xs.Pairwise R):∀ k,i+k≤xs.length→(∀ m,m<k→∀ x,xs[i+m]? = some x→∀ z∈ys.drop j,R x z)→MI R xs ys (out++(xs.drop i).take k) (i+k) j
  | 0,_,_=>by simpa using M
  | k+1,hk,h=>by
    have ih:=MI.blockX M sx k (by omega) fun m hm=>h m (by omega)
    obtain ⟨x,hx⟩ : ∃ x,xs[i+k]? = some x:=⟨xs[i+k],by simp⟩
    rw [take_drop_snoc hx,← List.append_assoc]
    exact ih.pushX sx hx (h k (by omega) x hx)
theorem MI.blockY (M:MI R xs ys out i j) (sy:ys.Pairwise R):∀ k,j+k≤ys.length→(∀ m,m<k→∀ y,ys[j+m]? = some y→∀ z∈xs.drop i,R y z)→MI R xs ys (out++(ys.drop j).take k) i (j+k)
  | 0,_,_=>by simpa using M
  | k+1,hk,h=>by
    have ih:=MI.blockY M sy k (by omega) fun m hm=>h m (by omega)
    obtain ⟨y,hy⟩ : ∃ y,ys[j+k]? = some y:=⟨ys[j+k],by simp⟩
    rw [take_drop_snoc hy,← List.append_assoc]
    exact ih.pushY sy hy (h k (by omega) y hy)
theorem MI.endX (M:MI R xs ys out i j) (sx:xs.Pairwise R) (hj:ys.length≤j):(out++xs.drop i++ys.drop j).Perm (xs++ys)∧(out++xs.drop i++ys.drop j).Pairwise R:=by
  rw [List.drop_eq_nil_of_le hj,List.append_nil]
  constructor
  · have p1:(out++xs.drop i).Perm ((xs.take i++ys.take j)++xs.drop i):=M.perm.append_right _
    refine p1.trans ?_
    rw [List.take_of_length_le hj]
    have p2:(xs.take i++ys++xs.drop i).Perm (xs.take i++(xs.drop i++ys)):=by
      rw [List.append_assoc]
      exact List.Perm.append_left _ List.perm_append_comm
    refine p2.trans ?_
    rw [← List.append_assoc,List.take_append_drop]
  · exact List.pairwise_append.mpr ⟨M.srt,List.Pairwise.sublist (List.drop_sublist _ _) sx,M.lx⟩
theorem MI.endYX (M:MI R xs ys out i j) (sx:xs.Pairwise R) (sy:ys.Pairwise R) (h:∀ y∈ys.drop j,∀ x∈xs.drop i,R y x):(out++ys.drop j++xs.drop i).Perm (xs++ys)∧(out++ys.drop j++xs.drop i).Pairwise R:=by
  constructor
  · have p1:(out++(ys.drop j++xs.drop i)).Perm ((xs.take i++ys.take j)++(ys.drop j++xs.drop i)):=M.perm.append_right _
    rw [List.append_assoc]
    refine p1.trans ?_
    rw [List.append_assoc,← List.append_assoc (ys.take j),List.take_append_drop]
    have p2:(xs.take i++(ys++xs.drop i)).Perm (xs.take i++(xs.drop i++ys)):=List.Perm.append_left _ List.perm_append_comm
    refine p2.trans ?_
    rw [← List.append_assoc,List.take_append_drop]
  · refine List.pairwise_append.mpr ⟨List.pairwise_append.mpr ⟨M.srt,List.Pairwise.sublist (List.drop_sublist _ _) sy,M.ly⟩,List.Pairwise.sublist (List.drop_sublist _ _) sx,fun a ha b hb=>?_⟩
    rcases List.mem_append.mp ha with ha | ha
    · exact M.lx a ha b hb
    · exact h a ha b hb
end
end Ts
namespace Ts
open PySem PyProof.Rows
def mergeLoP:Array Keyed→Array Keyed→StateT SortSt Sem (Array Keyed):=sortPriv% PySem.Builtin.mergeLo
def setMinP:Nat→StateT SortSt Sem Unit:=sortPriv% PySem.Builtin.setMinGallop
abbrev setMin (st:SortSt) (g:Nat):SortSt:=SortSt.mk' (kindOf st) (arrOf st) (pendingOf st) g (failedOf st)
theorem setMinP_eq (g:Nat):setMinP g=modify fun st=>setMin st g:=rfl
theorem ext_all (p:Array Keyed) (i:Nat):(p.extract i p.size).toList=p.toList.drop i:=by
  rw [Array.toList_extract,List.extract_eq_take_drop,List.take_of_length_le]
  rw [List.length_drop,Array.length_toList]
  exact Nat.le_refl _
theorem ext_some (p:Array Keyed) (i k:Nat):(p.extract i (i+k)).toList=(p.toList.drop i).take k:=by
  rw [Array.toList_extract,List.extract_eq_take_drop,Nat.add_sub_cancel_left]
abbrev dn (p q out:Array Keyed) (i j:Nat):Array Keyed:=out++p.extract i p.size++q.extract j q.size
abbrev lst (p q out:Array Keyed) (i j:Nat):Array Keyed:=out++q.extract j q.size++p.extract i p.size
theorem dn_list (p q out:Array Keyed) (i j:Nat):(dn p q out i j).toList=out.toList++p.toList.drop i++q.toList.drop j:=by
  rw [Array.toList_append,Array.toList_append,ext_all,ext_all]
theorem lst_list (p q out:Array Keyed) (i j:Nat):(lst p q out i j).toList=out.toList++q.toList.drop j++p.toList.drop i:=by
  rw [Array.toList_append,Array.toList_append,ext_all,ext_all]
abbrev LoSg:=Option (Array Keyed)×Array Keyed×Nat×Nat×Nat×Nat×Nat
def loG3 (p q out:Array Keyed) (i j g ac k:Nat):StateT SortSt Sem (ForInStep LoSg):=do
  let x ← elem' p i
  if (i+1+1 == p.size)=true then pure (ForInStep.done (some (lst p q (out.push x) (i+1) j),out.push x,i+1,j,g,ac,k))
  else if (decide (ac<7) && decide (k<7))=true then pure (ForInStep.done (none,out.push x,i+1,j,g,ac,k))
  else pure (ForInStep.yield (none,out.push x,i+1,j,g,ac,k))
def loG2 (p q out:Array Keyed) (i j g ac bc:Nat):StateT SortSt Sem (ForInStep LoSg):=do
  let y ← elem' q j
  if (j+1 == q.size)=true then pure (ForInStep.done (some (dn p q (out.push y) i (j+1)),out.push y,i,j+1,g,ac,bc))
  else do
    let x ← elem' p i
    let some k ← gallopP true x q (j+1) (q.size - (j+1)) 0 | pure (ForInStep.done (some (dn p q (out.push y) i (j+1)),out.push y,i,j+1,g,ac,bc))
    if k > 0 then
      if (j+1+k == q.size)=true then pure (ForInStep.done (some (dn p q (out.push y++q.extract (j+1) (j+1+k)) i (j+1+k)),out.push y++q.extract (j+1) (j+1+k),i,j+1+k,g,ac,k))
      else loG3 p q (out.push y++q.extract (j+1) (j+1+k)) i (j+1+k) g ac k
    else loG3 p q (out.push y) i (j+1) g ac k
def loG1 (p q out:Array Keyed) (i j g ac bc:Nat):StateT SortSt Sem (ForInStep LoSg):=do
  setMinP g
  let y ← elem' q j
  let some k ← gallopP false y p i (p.size - i) 0 | pure (ForInStep.done (some (dn p q out i j),out,i,j,g,ac,bc))
  if k > 0 then
    if (i+k+1 == p.size)=true then pure (ForInStep.done (some (lst p q (out++p.extract i (i+k)) (i+k) j),out++p.extract i (i+k),i+k,j,g,k,bc))
    else if (i+k == p.size)=true then pure (ForInStep.done (some (dn p q (out++p.extract i (i+k)) (i+k) j),out++p.extract i (i+k),i+k,j,g,k,bc))
    else loG2 p q (out++p.extract i (i+k)) (i+k) j g k bc
  else loG2 p q out i j g k bc
section
variable {prog:Program} {w:World} {A:Around} {s:Shared} {kd:SortKind} {Ok:Keyed→Prop} {blt:Keyed→Keyed→Bool} {E:Value→Shared→Prop}
theorem rule_ok {st:SortSt} {x:String} {Q:Unit→SortSt→Prop} (h:Q () st):wpS (model prog w) A E s (liftM (rule x):StateT SortSt Sem Unit) Q st:=wpS_lift (wpAny_rule ⟨rfl,h⟩)
theorem setMin_ok {st:SortSt} {g:Nat} {Q:Unit→SortSt→Prop} (h:∀ st',Kept st st'→Q () st'):wpS (model prog w) A E s (setMinP g) Q st:=by
  rw [setMinP_eq]
  exact wpS_modify (h _ ⟨rfl,rfl,rfl,rfl⟩)
structure Two (Ok:Keyed→Prop) (blt:Keyed→Keyed→Bool) (p q:Array Keyed) (x0 y0 xl:Keyed):Prop where
  op:∀ x∈p.toList,Ok x
  oq:∀ x∈q.toList,Ok x
  sp:p.toList.Pairwise (le blt)
  sq:q.toList.Pairwise (le blt)
  hx0:p[0]? = some x0
  hy0:q[0]? = some y0
  hxl:p[p.size - 1]? = some xl
  first:blt y0 x0=true
  last:∀ y∈q.toList,blt y xl=true
abbrev Res (blt:Keyed→Keyed→Bool) (p q r:Array Keyed):Prop:=r.toList.Perm (p.toList++q.toList)∧r.toList.Pairwise (le blt)
theorem at_list {p:Array Keyed} {i:Nat} {x:Keyed} (h:p[i]? = some x):p.toList[i]? = some x:=by simpa using h
theorem at_arr {p:Array Keyed} {i:Nat} (h:i<p.size):∃ x,p[i]? = some x:=⟨p[i],by simp [h]⟩
theorem mem_at {p:Array Keyed} {i:Nat} {x:Keyed} (h:p[i]? = some x):x∈p.toList:=List.mem_of_getElem? (at_list h)
theorem mem_drop {α:Type} {l:List α} {i:Nat} {z:α} (h:z∈l.drop i):∃ k,l[i+k]? = some z:=by
  obtain ⟨k,hk,e⟩:=List.mem_iff_getElem.mp h
  exact ⟨k,by rw [← List.getElem?_drop,List.getElem?_eq_getElem hk,e]⟩
theorem sorted_le (C:Cmp prog w A s kd Ok blt) {l:List Keyed} (sl:l.Pairwise (le blt)) {i j:Nat} {x y:Keyed} (hij:i≤j) (hx:l[i]? = some x) (hy:l[j]? = some y):le blt x y:=by
  by_cases e:i=j
  · subst e
    rw [hx] at hy
    cases hy
    exact C.refl x
  · obtain ⟨hi,ex⟩:=List.getElem?_eq_some_iff.mp hx
    obtain ⟨hj,ey⟩:=List.getElem?_eq_some_iff.mp hy
    have:=List.pairwise_iff_getElem.mp sl i j hi hj (by omega)
    rw [ex,ey] at this
    exact this
theorem le_drop (C:Cmp prog w A s kd Ok blt) {l:List Keyed} (sl:l.Pairwise (le blt)) {i:Nat} {x y:Keyed} (hx:l[i]? = some x) (h:le blt y x):∀ z∈l.drop i,le blt y z:=fun z hz=>by
  obtain ⟨k,hk⟩:=mem_drop hz
  exact C.trans h (sorted_le C sl (Nat.le_add_right i k) hx hk)
abbrev LI (blt:Keyed→Keyed→Bool) (p q out:Array Keyed) (i j:Nat):Prop:=MI (le blt) p.toList q.toList out.toList i j
theorem push_list (out:Array Keyed) (x:Keyed):(out.push x).toList=out.toList++[x]:=by simp
theorem Two.last_end (C:Cmp prog w A s kd Ok blt) {p q out:Array Keyed} {x0 y0 xl:Keyed} (T:Two Ok blt p q x0 y0 xl) {i j:Nat} (M:LI blt p q out i j) (hi:i+1=p.size):Res blt p q (lst p q out i j):=by
  have h:=M.endYX T.sp T.sq (fun y hy x hx=>?_)
  · rw [← lst_list] at h
    exact h
  · obtain ⟨k,hk⟩:=mem_drop hx
    have : k=0:=by
      have:=(List.getElem?_eq_some_iff.mp hk).1
      rw [Array.length_toList] at this
      omega
    subst this
    have e:x=xl:=by
      have:=at_list T.hxl
      rw [show p.size - 1=i+0 by omega,hk] at this
      exact Option.some.inj this
    rw [e]
    exact C.ofLt (T.last y (List.mem_of_mem_drop hy))
theorem Two.done_end {p q out:Array Keyed} {x0 y0 xl:Keyed} (T:Two Ok blt p q x0 y0 xl) {i j:Nat} (M:LI blt p q out i j) (hj:q.size≤j):Res blt p q (dn p q out i j):=by
  have h:=M.endX T.sp (by rw [Array.length_toList]; exact hj)
  rw [← dn_list] at h
  exact h
def LoQ (blt:Keyed→Keyed→Bool) (p q:Array Keyed) (st:SortSt) (n:Nat) (r:ForInStep LoSg) (st':SortSt):Prop:=Kept st st'∧match r with
  | .done (some r,_)=>Res blt p q r
  | .done (none,out,i,j,_)=>LI blt p q out i j∧i+1<p.size∧j<q.size∧n<i+j
  | .yield (none,out,i,j,_)=>LI blt p q out i j∧i+1<p.size∧j<q.size∧n<i+j
  | .yield (some _,_)=>False
theorem loG3_ok (C:Cmp prog w A s kd Ok blt) {p q out:Array Keyed} {x0 y0 xl:Keyed} (T:Two Ok blt p q x0 y0 xl) {i j g ac k n:Nat} {st0 st:SortSt} (kp:Kept st0 st) (M:LI blt p q out i j) (hi:i+1<p.size) (hj:j<q.size) (hn:n≤i+j) {x:Keyed} (hx:p[i]? = some x) (hq:∀ z∈q.toList.drop j,le blt x z):wpS (model prog w) A E s (loG3 p q out i j g ac k) (LoQ blt p q st0 n) st:=by
  unfold loG3
  refine wpS_bind (elem_ok hx ?_)
  have M1:LI blt p q (out.push x) (i+1) j:=by
    have:=M.pushX T.sp (at_list hx) hq
    rw [← push_list] at this
    exact this
  by_cases h1:i+1+1=p.size
  · rw [if_pos (by rw [h1]; exact beq_self_eq_true _)]
    exact wpS_pure ⟨kp,T.last_end C M1 h1⟩
  · rw [if_neg (fun z=>h1 (eq_of_beq z))]
    by_cases h2:(decide (ac<7) && decide (k<7))=true
    · rw [if_pos h2]
      exact wpS_pure ⟨kp,M1,by omega,hj,by omega⟩
    · rw [if_neg h2]
      exact wpS_pure ⟨kp,M1,by omega,hj,by omega⟩
theorem loG2_ok (C:Cmp prog w A s kd Ok blt) {p q out:Array Keyed} {x0 y0 xl:Keyed} (T:Two Ok blt p q x0 y0 xl) {i j g ac bc n:Nat} {st0 st:SortSt} (kp:Kept st0 st) (hk:kindOf st=kd) (M:LI blt p q out i j) (hi:i+1<p.size) (hj:j<q.size) (hn:n≤i+j) {x y:Keyed} (hx:p[i]? = some x) (hy:q[j]? = some y) (hyx:blt y x=true):wpS (model prog w) A E s (loG2 p q out i j g ac bc) (LoQ blt p q st0 n) st:=by
  unfold loG2
  refine wpS_bind (elem_ok hy ?_)
  have M1:LI blt p q (out.push y) i (j+1):=by
    have:=M.pushY T.sq (at_list hy) (le_drop C T.sp (at_list hx) (C.ofLt hyx))
    rw [← push_list] at this
    exact this
  by_cases h1:j+1=q.size
  · rw [if_pos (by rw [h1]; exact beq_self_eq_true _)]
    exact wpS_pure ⟨kp,T.done_end M1 (by omega)⟩
  · rw [if_neg (fun z=>h1 (eq_of_beq z))]
    refine wpS_bind (elem_ok hx ?_)
    have R:Row Ok q (j+1) (q.size - (j+1)) (fun m=>q.getD (j+1+m) y):=⟨fun m hm=>?_,fun m hm=>?_⟩
    · refine wpS_bind (gallop_ok C R (T.op x (mem_at hx)) hk (by omega) (fun a b hab hb q1=>?_) fun k hk1 t1 t2=>?_)
      · obtain ⟨ya,ea⟩:=at_arr (p:=q) (i:=j+1+a) (by omega)
        obtain ⟨yb,eb⟩:=at_arr (p:=q) (i:=j+1+b) (by omega)
        have ga:q.getD (j+1+a) y=ya:=by simp [Array.getD_eq_getD_getElem?,ea]
        have gb:q.getD (j+1+b) y=yb:=by simp [Array.getD_eq_getD_getElem?,eb]
        simp only [ga,gb,bval,if_true] at q1 ⊢
        exact C.leLt (sorted_le C T.sq (by omega) (at_list ea) (at_list eb)) q1
      · dsimp only
        have val:∀ m yy,q[j+1+m]? = some yy→q.getD (j+1+m) y=yy:=fun m yy e=>by simp [Array.getD_eq_getD_getElem?,e]
        have M2:LI blt p q (out.push y++q.extract (j+1) (j+1+k)) i (j+1+k):=by
          have:=M1.blockY T.sq k (by rw [Array.length_toList]; omega) (fun m hm yy ey=>by
            have ey':q[j+1+m]? = some yy:=by simpa using ey
            have:=t1 m hm
            rw [val m yy ey'] at this
            simp only [bval,if_true] at this
            exact le_drop C T.sp (at_list hx) (C.ofLt this))
          rw [← ext_some,← Array.toList_append] at this
          exact this
        by_cases h2:k > 0
        · rw [if_pos h2]
          by_cases h3:j+1+k=q.size
          · rw [if_pos (by rw [h3]; exact beq_self_eq_true _)]
            exact wpS_pure ⟨kp,T.done_end M2 (by omega)⟩
          · rw [if_neg (fun z=>h3 (eq_of_beq z))]
            obtain ⟨yk,ek⟩:=at_arr (p:=q) (i:=j+1+k) (by omega)
            refine loG3_ok C T kp M2 hi (by omega) (by omega) hx (le_drop C T.sq (at_list ek) ?_)
            have:=t2 k (Nat.le_refl _) (by omega)
            rw [val k yk ek] at this
            have z:blt yk x=false:=by simpa only [bval,if_true] using this
            exact z
        · rw [if_neg h2]
          have hk0:k=0:=by omega
          subst hk0
          obtain ⟨yk,ek⟩:=at_arr (p:=q) (i:=j+1) (by omega)
          refine loG3_ok C T kp M1 hi (by omega) (by omega) hx (le_drop C T.sq (at_list ek) ?_)
          have:=t2 0 (Nat.le_refl _) (by omega)
          rw [val 0 yk ek] at this
          have z:blt yk x=false:=by simpa only [bval,if_true] using this
          exact z
    · obtain ⟨ya,ea⟩:=at_arr (p:=q) (i:=j+1+m) (by omega)
      rw [ea]
      simp [Array.getD_eq_getD_getElem?,ea]
    · obtain ⟨ya,ea⟩:=at_arr (p:=q) (i:=j+1+m) (by omega)
      have : q.getD (j+1+m) y=ya:=by simp [Array.getD_eq_getD_getElem?,ea]
      rw [this]
      exact T.oq ya (mem_at ea)
theorem loG1_ok (C:Cmp prog w A s kd Ok blt) {p q out:Array Keyed} {x0 y0 xl:Keyed} (T:Two Ok blt p q x0 y0 xl) {i j g ac bc n:Nat} {st0 st:SortSt} (kp:Kept st0 st) (hk:kindOf st=kd) (M:LI blt p q out i j) (hi:i+1<p.size) (hj:j<q.size) (hn:n≤i+j):wpS (model prog w) A E s (loG1 p q out i j g ac bc) (LoQ blt p q st0 n) st:=by
  unfold loG1
  refine wpS_bind (setMin_ok fun st1 kp1=>?_)
  have kp':=kp.trans kp1
  have hk':kindOf st1=kd:=kp1.kind.trans hk
  obtain ⟨y,hy⟩:=at_arr (p:=q) hj
  refine wpS_bind (elem_ok hy ?_)
  have val:∀ m xx,p[i+m]? = some xx→p.getD (i+m) y=xx:=fun m xx e=>by simp [Array.getD_eq_getD_getElem?,e]
  have R:Row Ok p i (p.size - i) (fun m=>p.getD (i+m) y):=⟨fun m hm=>by
    obtain ⟨xa,ea⟩:=at_arr (p:=p) (i:=i+m) (by omega)
    rw [val m xa ea,ea],fun m hm=>by
    obtain ⟨xa,ea⟩:=at_arr (p:=p) (i:=i+m) (by omega)
    show Ok (p.getD (i+m) y)
    rw [val m xa ea]
    exact T.op xa (mem_at ea)⟩
  refine wpS_bind (gallop_ok C R (T.oq y (mem_at hy)) hk' (by omega) (fun a b hab hb q1=>?_) fun k hk1 t1 t2=>?_)
  · obtain ⟨xa,ea⟩:=at_arr (p:=p) (i:=i+a) (by omega)
    obtain ⟨xb,eb⟩:=at_arr (p:=p) (i:=i+b) (by omega)
    simp only [val a xa ea,val b xb eb,bval,Bool.false_eq_true,if_false,Bool.not_eq_true'] at q1 ⊢
    exact C.trans (sorted_le C T.sp (by omega) (at_list ea) (at_list eb)) q1
  · dsimp only
    -- the last one is beyond y: so k does not reach it
    have hkl:i+k+1≤p.size:=by
      rcases Nat.lt_or_ge (i+k) p.size with z | z
      · omega
      · exfalso
        have:=t1 (p.size - 1 - i) (by omega)
        have e:p[i+(p.size - 1 - i)]? = some xl:=by
          rw [show i+(p.size - 1 - i)=p.size - 1 by omega]
          exact T.hxl
        rw [val _ xl e] at this
        simp only [bval,Bool.false_eq_true,if_false,T.last y (mem_at hy),Bool.not_true] at this
    have M1:LI blt p q (out++p.extract i (i+k)) (i+k) j:=by
      have:=M.blockX T.sp k (by rw [Array.length_toList]; omega) (fun m hm xx ex=>by
        have ex':p[i+m]? = some xx:=by simpa using ex
        have:=t1 m hm
        rw [val m xx ex'] at this
        simp only [bval,Bool.false_eq_true,if_false,Bool.not_eq_true'] at this
        exact le_drop C T.sq (at_list hy) this)
      rw [← ext_some,← Array.toList_append] at this
      exact this
    obtain ⟨xk,ek⟩:=at_arr (p:=p) (i:=i+k) (by omega)
    have hyx:blt y xk=true:=by
      have:=t2 k (Nat.le_refl _) (by omega)
      rw [val k xk ek] at this
      simpa only [bval,Bool.false_eq_true,if_false,Bool.not_eq_false'] using this
    by_cases h2:k > 0
    · rw [if_pos h2]
      by_cases h3:i+k+1=p.size
      · rw [if_pos (by rw [h3]; exact beq_self_eq_true _)]
        exact wpS_pure ⟨kp',T.last_end C M1 h3⟩
      · rw [if_neg (fun z=>h3 (eq_of_beq z)),if_neg (fun z=>by have:=eq_of_beq z; omega)]
        exact loG2_ok C T kp' hk' M1 (by omega) hj (by omega) ek hy hyx
    · rw [if_neg h2]
      have hk0:k=0:=by omega
      subst hk0
      exact loG2_ok C T kp' hk' M hi hj hn ek hy hyx
theorem mergeLo_ok (C:Cmp prog w A s kd Ok blt) {p q:Array Keyed} {x0 y0 xl:Keyed} (T:Two Ok blt p q x0 y0 xl) {st:SortSt} (hk:kindOf st=kd) {Q:Array Keyed→SortSt→Prop} (h:∀ r st',Kept st st'→Res blt p q r→Q r st'):wpS (model prog w) A E s (mergeLoP p q) Q st:=by
  have p0:0<p.size:=by
    have:=(Array.getElem?_eq_some_iff.mp T.hx0).1
    exact this
  have q0:0<q.size:=by
    have:=(Array.getElem?_eq_some_iff.mp T.hy0).1
    exact this
  have M0:LI blt p q #[y0] 0 1:=by
    have m:LI blt p q #[] 0 0:=⟨by simp,by simp,fun o ho=>by simp at ho,fun o ho=>by simp at ho⟩
    have:=m.pushY T.sq (at_list T.hy0) (le_drop C T.sp (at_list T.hx0) (C.ofLt T.first))
    simpa using this
  unfold mergeLoP
  refine wpS_bind (rule_ok ?_)
  refine wpS_bind (elem_ok T.hy0 ?_)
  dsimp only
  by_cases h1:1=q.size
  · rw [if_pos (by rw [← h1]; rfl)]
    exact wpS_pure (h _ _ (Kept.refl _) (T.done_end M0 (by omega)))
  rw [if_neg (fun z=>h1 (eq_of_beq z))]
  by_cases h2:0+1=p.size
  · rw [if_pos (by rw [← h2]; rfl)]
    exact wpS_pure (h _ _ (Kept.refl _) (T.last_end C M0 (by omega)))
  rw [if_neg (fun z=>h2 (eq_of_beq z))]
  refine wpS_bind (wpS_get ?_)
  refine wpS_bind (wpS_mono (wpS_forRange
    (I:=fun x c st'=>Kept st st'∧∃ out i j g,c=(none,out,i,j,g)∧LI blt p q out i j∧i+1<p.size∧j<q.size∧x+1≤i+j)
    (Q:=fun c st'=>Kept st st'∧∃ r rest,c=(some r,rest)∧Res blt p q r) ?_ ?_ ⟨Kept.refl _,_,0,1,_,rfl,M0,by omega,by omega,by omega⟩) ?_)
  · rintro x c st1 _ hx ⟨kp1,out,i,j,g,rfl,M,hi,hj,hn⟩
    dsimp only
    -- one by one
    refine wpS_bind (wpS_mono (wpS_forRange
      (I:=fun _ c st'=>st'=st1∧∃ out i j ac bc,c=(none,out,i,j,ac,bc)∧LI blt p q out i j∧i+1<p.size∧j<q.size∧x+1≤i+j)
      (Q:=fun c st'=>st'=st1∧((∃ r rest,c=(some r,rest)∧Res blt p q r)∨∃ out i j ac bc,c=(none,out,i,j,ac,bc)∧LI blt p q out i j∧i+1<p.size∧j<q.size∧x+1≤i+j)) ?_ ?_ ⟨rfl,out,i,j,0,0,rfl,M,hi,hj,hn⟩) ?_)
    · rintro z c st2 _ hz ⟨rfl,out,i,j,ac,bc,rfl,M,hi,hj,hn⟩
      dsimp only
      obtain ⟨yy,hy⟩:=at_arr (p:=q) hj
      obtain ⟨xx,hx⟩:=at_arr (p:=p) (i:=i) (by omega)
      refine wpS_bind (elem_ok hy ?_)
      refine wpS_bind (elem_ok hx ?_)
      refine wpS_bind (lt_ok C (kp1.kind.trans hk) (T.oq yy (mem_at hy)) (T.op xx (mem_at hx)) ?_)
      dsimp only
      cases hb:blt yy xx with
      | true =>
        rw [if_pos rfl]
        refine wpS_bind (elem_ok hy ?_)
        have M1:LI blt p q (out.push yy) i (j+1):=by
          have:=M.pushY T.sq (at_list hy) (le_drop C T.sp (at_list hx) (C.ofLt hb))
          rw [← push_list] at this
          exact this
        by_cases e1:j+1=q.size
        · rw [if_pos (by rw [e1]; exact beq_self_eq_true _)]
          exact wpS_pure ⟨rfl,.inl ⟨_,_,rfl,T.done_end M1 (by omega)⟩⟩
        · rw [if_neg (fun z=>e1 (eq_of_beq z))]
          split
          · exact wpS_pure ⟨rfl,.inr ⟨_,_,_,_,_,rfl,M1,hi,by omega,by omega⟩⟩
          · exact wpS_pure ⟨rfl,_,_,_,_,_,rfl,M1,hi,by omega,by omega⟩
      | false =>
        rw [if_neg Bool.false_ne_true]
        refine wpS_bind (elem_ok hx ?_)
        have M1:LI blt p q (out.push xx) (i+1) j:=by
          have:=M.pushX T.sp (at_list hx) (le_drop C T.sq (at_list hy) hb)
          rw [← push_list] at this
          exact this
        by_cases e1:i+1+1=p.size
        · rw [if_pos (by rw [e1]; exact beq_self_eq_true _)]
          exact wpS_pure ⟨rfl,.inl ⟨_,_,rfl,T.last_end C M1 (by omega)⟩⟩
        · rw [if_neg (fun z=>e1 (eq_of_beq z))]
          split
          · exact wpS_pure ⟨rfl,.inr ⟨_,_,_,_,_,rfl,M1,by omega,hj,by omega⟩⟩
          · exact wpS_pure ⟨rfl,_,_,_,_,_,rfl,M1,by omega,hj,by omega⟩
    · rintro c st2 ⟨rfl,out,i,j,ac,bc,rfl,M⟩
      exact ⟨rfl,.inr ⟨out,i,j,ac,bc,rfl,M⟩⟩
    · rintro c st2 ⟨rfl,hc⟩
      rcases hc with ⟨r,rest,rfl,hr⟩ | ⟨out,i,j,ac,bc,rfl,M,hi,hj,hn⟩
      · exact wpS_pure ⟨kp1,r,_,rfl,hr⟩
      · dsimp only
        refine wpS_bind (rule_ok ?_)
        -- the gallop
        refine wpS_bind (wpS_mono (wpS_forRange
          (I:=fun y c st'=>Kept st st'∧∃ out i j g ac bc,c=(none,out,i,j,g,ac,bc)∧LI blt p q out i j∧i+1<p.size∧j<q.size∧(if y=0 then x+1≤i+j else x+2≤i+j))
          (Q:=fun c st'=>Kept st st'∧((∃ r rest,c=(some r,rest)∧Res blt p q r)∨∃ out i j g ac bc,c=(none,out,i,j,g,ac,bc)∧LI blt p q out i j∧i+1<p.size∧j<q.size∧x+2≤i+j)) ?_ ?_
          ⟨kp1,out,i,j,_,ac,bc,rfl,M,hi,hj,by rw [if_pos rfl]; exact hn⟩) ?_)
        · rintro y c st3 _ hy ⟨kp3,out,i,j,g,ac,bc,rfl,M,hi,hj,hn⟩
          have hn':x+1≤i+j:=by split at hn <;> omega
          have key:∀ g',wpS (model prog w) A E s (loG1 p q out i j g' ac bc) (LoQ blt p q st (x+1)) st3:=fun g'=>loG1_ok C T kp3 (kp3.kind.trans hk) M hi hj hn'
          dsimp only
          refine wpS_mono (?_:wpS (model prog w) A E s _ (LoQ blt p q st (x+1)) st3) fun r st4 hr=>?_
          · by_cases hg:g > 1
            · rw [if_pos hg]
              exact key _
            · rw [if_neg hg]
              exact key _
          · obtain ⟨kp4,hr⟩:=hr
            match r,hr with
            | .done (some r,rest),hr=>exact ⟨kp4,.inl ⟨r,rest,rfl,hr⟩⟩
            | .done (none,out,i,j,g,ac,bc),hr=>exact ⟨kp4,.inr ⟨out,i,j,g,ac,bc,rfl,hr.1,hr.2.1,hr.2.2.1,by have:=hr.2.2.2; omega⟩⟩
            | .yield (none,out,i,j,g,ac,bc),hr=>exact ⟨kp4,out,i,j,g,ac,bc,rfl,hr.1,hr.2.1,hr.2.2.1,by rw [if_neg (by omega)]; have:=hr.2.2.2; omega⟩
        · rintro c st3 ⟨kp3,out,i,j,g,ac,bc,rfl,M,hi,hj,hn⟩
          rw [if_neg (by omega)] at hn
          exact ⟨kp3,.inr ⟨out,i,j,g,ac,bc,rfl,M,hi,hj,hn⟩⟩
        · rintro c st3 ⟨kp3,hc⟩
          rcases hc with ⟨r,rest,rfl,hr⟩ | ⟨out,i,j,g,ac,bc,rfl,M,hi,hj,hn⟩
          · exact wpS_pure ⟨kp3,r,_,rfl,hr⟩
          · dsimp only
            refine wpS_bind (setMin_ok fun st4 kp4=>?_)
            exact wpS_pure ⟨kp3.trans kp4,out,i,j,_,rfl,M,hi,hj,by omega⟩
  · rintro c st1 ⟨kp1,out,i,j,g,rfl,M,hi,hj,hn⟩
    exfalso
    have : max 0 (p.size+q.size)=p.size+q.size:=by omega
    rw [this] at hn
    omega
  · rintro c st1 ⟨kp1,r,rest,rfl,hr⟩
    exact wpS_pure (h r st1 kp1 hr)
end
end Ts
namespace Ts
open PySem PyProof.Rows
def mergeHiP:Array Keyed→Array Keyed→StateT SortSt Sem (Array Keyed):=sortPriv% PySem.Builtin.mergeHi
abbrev dnH (p q out:Array Keyed) (m n:Nat):Array Keyed:=p.extract 0 m++q.extract 0 n++out.reverse
abbrev fsH (p q out:Array Keyed) (m n:Nat):Array Keyed:=q.extract 0 n++p.extract 0 m++out.reverse
abbrev HiSg:=Option (Array Keyed)×Nat×Nat×Array Keyed×Nat×Nat×Nat
def hiG3 (p q out:Array Keyed) (m n g ac k:Nat):StateT SortSt Sem (ForInStep HiSg):=do
  let x ← elem' p (m - 1)
  if (m - 1 == 0)=true then pure (ForInStep.done (some (dnH p q (out.push x) (m - 1) n),m - 1,n,out.push x,g,ac,k))
  else if (decide (ac<7) && decide (k<7))=true then pure (ForInStep.done (none,m - 1,n,out.push x,g,ac,k))
  else pure (ForInStep.yield (none,m - 1,n,out.push x,g,ac,k))
def hiG2 (p q out:Array Keyed) (m n g ac bc:Nat):StateT SortSt Sem (ForInStep HiSg):=do
  let y ← elem' q (n - 1)
  if (n - 1 == 1)=true then pure (ForInStep.done (some (fsH p q (out.push y) m (n - 1)),m,n - 1,out.push y,g,ac,bc))
  else do
    let x ← elem' p (m - 1)
    let some t ← gallopP true x q 0 (n - 1) (n - 1 - 1) | pure (ForInStep.done (some (dnH p q (out.push y) m (n - 1)),m,n - 1,out.push y,g,ac,bc))
    if n - 1 - t > 0 then
      if (t == 1)=true then pure (ForInStep.done (some (fsH p q (out.push y++(q.extract t (n - 1)).reverse) m t),m,t,out.push y++(q.extract t (n - 1)).reverse,g,ac,n - 1 - t))
      else if (t == 0)=true then pure (ForInStep.done (some (dnH p q (out.push y++(q.extract t (n - 1)).reverse) m t),m,t,out.push y++(q.extract t (n - 1)).reverse,g,ac,n - 1 - t))
      else hiG3 p q (out.push y++(q.extract t (n - 1)).reverse) m t g ac (n - 1 - t)
    else hiG3 p q (out.push y) m (n - 1) g ac (n - 1 - t)
def hiG1 (p q out:Array Keyed) (m n g ac bc:Nat):StateT SortSt Sem (ForInStep HiSg):=do
  setMinP g
  let y ← elem' q (n - 1)
  let some t ← gallopP false y p 0 m (m - 1) | pure (ForInStep.done (some (dnH p q out m n),m,n,out,g,ac,bc))
  if m - t > 0 then
    if (t == 0)=true then pure (ForInStep.done (some (dnH p q (out++(p.extract t m).reverse) t n),t,n,out++(p.extract t m).reverse,g,m - t,bc))
    else hiG2 p q (out++(p.extract t m).reverse) t n g (m - t) bc
  else hiG2 p q out m n g (m - t) bc
section
variable {α:Type} {R:α→α→Prop} {xs ys out:List α} {i j:Nat}
theorem MI.swap (M:MI R xs ys out i j):MI R ys xs out j i:=⟨M.perm.trans List.perm_append_comm,M.srt,M.ly,M.lx⟩
theorem MI.endXY (M:MI R xs ys out i j) (sx:xs.Pairwise R) (sy:ys.Pairwise R) (h:∀ x∈xs.drop i,∀ y∈ys.drop j,R x y):(out++xs.drop i++ys.drop j).Perm (xs++ys)∧(out++xs.drop i++ys.drop j).Pairwise R:=by
  have:=M.swap.endYX sy sx h
  exact ⟨this.1.trans List.perm_append_comm,this.2⟩
end
abbrev ge (blt:Keyed→Keyed→Bool) (x y:Keyed):Prop:=le blt y x
abbrev HI (blt:Keyed→Keyed→Bool) (p q out:Array Keyed) (m n:Nat):Prop:=MI (ge blt) p.toList.reverse q.toList.reverse out.toList (p.size - m) (q.size - n)
theorem drop_rev (p:Array Keyed) {m:Nat} (h:m≤p.size):p.toList.reverse.drop (p.size - m)=(p.toList.take m).reverse:=by
  rw [List.drop_reverse,Array.length_toList]
  congr 2
  omega
theorem at_rev {p:Array Keyed} {m:Nat} {x:Keyed} (h0:0<m) (h:m≤p.size) (e:p[m - 1]? = some x):p.toList.reverse[p.size - m]? = some x:=by
  rw [List.getElem?_reverse (by rw [Array.length_toList]; omega),Array.length_toList,show p.size - 1 - (p.size - m)=m - 1 by omega]
  exact at_list e
theorem ext0 (p:Array Keyed) (m:Nat):(p.extract 0 m).toList=p.toList.take m:=by
  rw [Array.toList_extract,List.extract_eq_take_drop,List.drop_zero,Nat.sub_zero]
theorem extm (p:Array Keyed) {t m:Nat} (h1:t≤m) (h2:m≤p.size):(p.extract t m).reverse.toList=(p.toList.reverse.drop (p.size - m)).take (m - t):=by
  rw [drop_rev p h2,List.take_reverse,Array.toList_reverse,Array.toList_extract,List.extract_eq_take_drop,List.length_take,Array.length_toList,List.drop_take]
  congr 2
  · omega
  · congr 1
    omega
section
variable {prog:Program} {w:World} {A:Around} {s:Shared} {kd:SortKind} {Ok:Keyed→Prop} {blt:Keyed→Keyed→Bool} {E:Value→Shared→Prop}
theorem sorted_rev {l:List Keyed} (h:l.Pairwise (le blt)):l.reverse.Pairwise (ge blt):=List.pairwise_reverse.mpr h
theorem Two.dn_end {p q out:Array Keyed} {x0 y0 xl:Keyed} (T:Two Ok blt p q x0 y0 xl) {m n:Nat} (M:HI blt p q out m n) (hm:m≤p.size) (hn:n≤q.size) (h:m=0∨n=0):Res blt p q (dnH p q out m n):=by
  have h1:=M.endYX (sorted_rev T.sp) (sorted_rev T.sq) (fun y hy x hx=>by
    rw [drop_rev p hm] at hx
    rw [drop_rev q hn] at hy
    rcases h with h | h
    · subst h; simp at hx
    · subst h; simp at hy)
  rw [drop_rev p hm,drop_rev q hn] at h1
  have e:(dnH p q out m n).toList=(out.toList++(q.toList.take n).reverse++(p.toList.take m).reverse).reverse:=by
    rw [Array.toList_append,Array.toList_append,ext0,ext0,Array.toList_reverse]
    simp
  refine ⟨?_,?_⟩
  · rw [e]
    refine (List.reverse_perm _).trans (h1.1.trans ?_)
    exact List.Perm.append (List.reverse_perm _) (List.reverse_perm _)
  · rw [e]
    exact List.pairwise_reverse.mpr h1.2
theorem Two.fs_end (C:Cmp prog w A s kd Ok blt) {p q out:Array Keyed} {x0 y0 xl:Keyed} (T:Two Ok blt p q x0 y0 xl) {m n:Nat} (M:HI blt p q out m n) (hm:m≤p.size) (hn:n=1) (hq:1≤q.size):Res blt p q (fsH p q out m n):=by
  subst hn
  have h1:=M.endXY (sorted_rev T.sp) (sorted_rev T.sq) (fun x hx y hy=>by
    rw [drop_rev p hm] at hx
    rw [drop_rev q hq] at hy
    have ey:y=y0:=by
      have : y∈q.toList.take 1:=List.mem_reverse.mp hy
      obtain ⟨k,hk,e⟩:=List.mem_iff_getElem.mp this
      have hk0:k=0:=by
        rw [List.length_take] at hk
        omega
      subst hk0
      have e2:q.toList[0]? = some y:=by
        rw [← e,← List.getElem?_eq_getElem hk,List.getElem?_take_of_lt (by omega)]
      rw [at_list T.hy0] at e2
      exact (Option.some.inj e2).symm
    rw [ey]
    have hx':x∈p.toList:=List.mem_of_mem_take (List.mem_reverse.mp hx)
    obtain ⟨k,hk,e⟩:=List.mem_iff_getElem.mp hx'
    have e2:p.toList[k]? = some x:=by rw [← e,List.getElem?_eq_getElem hk]
    exact C.trans (C.ofLt T.first) (sorted_le C T.sp (Nat.zero_le k) (at_list T.hx0) e2))
  rw [drop_rev p hm,drop_rev q hq] at h1
  have e:(fsH p q out m 1).toList=(out.toList++(p.toList.take m).reverse++(q.toList.take 1).reverse).reverse:=by
    rw [Array.toList_append,Array.toList_append,ext0,ext0,Array.toList_reverse]
    simp
  refine ⟨?_,?_⟩
  · rw [e]
    refine (List.reverse_perm _).trans (h1.1.trans ?_)
    exact List.Perm.append (List.reverse_perm _) (List.reverse_perm _)
  · rw [e]
    exact List.pairwise_reverse.mpr h1.2
theorem ge_drop (C:Cmp prog w A s kd Ok blt) {p:Array Keyed} (sp:p.toList.Pairwise (le blt)) {m:Nat} {x y:Keyed} (h0:0<m) (hm:m≤p.size) (hx:p[m - 1]? = some x) (h:le blt x y):∀ z∈p.toList.reverse.drop (p.size - m),ge blt y z:=fun z hz=>by
  rw [drop_rev p hm] at hz
  obtain ⟨k,hk,e⟩:=List.mem_iff_getElem.mp (List.mem_reverse.mp hz)
  have e2:p.toList[k]? = some z:=by
    rw [List.length_take] at hk
    rw [← e,← List.getElem?_eq_getElem (by rw [List.length_take]; exact hk),List.getElem?_take_of_lt (by omega)]
  rw [List.length_take] at hk
  exact C.trans (sorted_le C sp (by omega) e2 (at_list hx)) h
theorem HI.pushX (C:Cmp prog w A s kd Ok blt) {p q out:Array Keyed} {x0 y0 xl:Keyed} (T:Two Ok blt p q x0 y0 xl) {m n:Nat} (M:HI blt p q out m n) (h0:0<m) (hm:m≤p.size) {x:Keyed} (hx:p[m - 1]? = some x) (h:∀ z∈q.toList.reverse.drop (q.size - n),ge blt x z):HI blt p q (out.push x) (m - 1) n:=by
  have:=MI.pushX M (sorted_rev T.sp) (at_rev h0 hm hx) h
  rw [← push_list,show p.size - m+1=p.size - (m - 1) by omega] at this
  exact this
theorem HI.pushY (C:Cmp prog w A s kd Ok blt) {p q out:Array Keyed} {x0 y0 xl:Keyed} (T:Two Ok blt p q x0 y0 xl) {m n:Nat} (M:HI blt p q out m n) (h0:0<n) (hn:n≤q.size) {y:Keyed} (hy:q[n - 1]? = some y) (h:∀ z∈p.toList.reverse.drop (p.size - m),ge blt y z):HI blt p q (out.push y) m (n - 1):=by
  have:=MI.pushY M (sorted_rev T.sq) (at_rev h0 hn hy) h
  rw [← push_list,show q.size - n+1=q.size - (n - 1) by omega] at this
  exact this
def HiQ (blt:Keyed→Keyed→Bool) (p q:Array Keyed) (st:SortSt) (b:Nat) (r:ForInStep HiSg) (st':SortSt):Prop:=Kept st st'∧match r with
  | .done (some r,_)=>Res blt p q r
  | .done (none,m,n,out,_)=>HI blt p q out m n∧0<m∧m≤p.size∧1<n∧n≤q.size∧m+n<b
  | .yield (none,m,n,out,_)=>HI blt p q out m n∧0<m∧m≤p.size∧1<n∧n≤q.size∧m+n<b
  | .yield (some _,_)=>False
theorem hiG3_ok (C:Cmp prog w A s kd Ok blt) {p q out:Array Keyed} {x0 y0 xl:Keyed} (T:Two Ok blt p q x0 y0 xl) {m n g ac k b:Nat} {st0 st:SortSt} (kp:Kept st0 st) (M:HI blt p q out m n) (m0:0<m) (hm:m≤p.size) (n0:1<n) (hn:n≤q.size) (hb:m+n≤b) {x:Keyed} (hx:p[m - 1]? = some x) (hq:∀ z∈q.toList.reverse.drop (q.size - n),ge blt x z):wpS (model prog w) A E s (hiG3 p q out m n g ac k) (HiQ blt p q st0 b) st:=by
  unfold hiG3
  refine wpS_bind (elem_ok hx ?_)
  have M1:=HI.pushX C T M m0 hm hx hq
  by_cases h1:m - 1=0
  · rw [if_pos (by rw [h1]; rfl)]
    exact wpS_pure ⟨kp,T.dn_end M1 (by omega) hn (.inl h1)⟩
  · rw [if_neg (fun z=>h1 (eq_of_beq z))]
    by_cases h2:(decide (ac<7) && decide (k<7))=true
    · rw [if_pos h2]
      exact wpS_pure ⟨kp,M1,by omega,by omega,n0,hn,by omega⟩
    · rw [if_neg h2]
      exact wpS_pure ⟨kp,M1,by omega,by omega,n0,hn,by omega⟩
theorem hiG2_ok (C:Cmp prog w A s kd Ok blt) {p q out:Array Keyed} {x0 y0 xl:Keyed} (T:Two Ok blt p q x0 y0 xl) {m n g ac bc b:Nat} {st0 st:SortSt} (kp:Kept st0 st) (hk:kindOf st=kd) (M:HI blt p q out m n) (m0:0<m) (hm:m≤p.size) (n0:1<n) (hn:n≤q.size) (hb:m+n≤b) {x y:Keyed} (hx:p[m - 1]? = some x) (hy:q[n - 1]? = some y) (hxy:le blt x y):wpS (model prog w) A E s (hiG2 p q out m n g ac bc) (HiQ blt p q st0 b) st:=by
  unfold hiG2
  refine wpS_bind (elem_ok hy ?_)
  have M1:=HI.pushY C T M (by omega) hn hy (ge_drop C T.sp m0 hm hx hxy)
  by_cases h1:n - 1=1
  · rw [if_pos (by rw [h1]; rfl)]
    exact wpS_pure ⟨kp,T.fs_end C M1 hm h1 (by omega)⟩
  rw [if_neg (fun z=>h1 (eq_of_beq z))]
  refine wpS_bind (elem_ok hx ?_)
  have val:∀ i yy,q[i]? = some yy→q.getD (0+i) y=yy:=fun i yy e=>by rw [Nat.zero_add]; simp [Array.getD_eq_getD_getElem?,e]
  have R:Row Ok q 0 (n - 1) (fun i=>q.getD (0+i) y):=⟨fun i hi=>by
    obtain ⟨ya,ea⟩:=at_arr (p:=q) (i:=i) (by omega)
    rw [val i ya ea,Nat.zero_add,ea],fun i hi=>by
    obtain ⟨ya,ea⟩:=at_arr (p:=q) (i:=i) (by omega)
    show Ok (q.getD (0+i) y)
    rw [val i ya ea]
    exact T.oq ya (mem_at ea)⟩
  refine wpS_bind (gallop_ok C R (T.op x (mem_at hx)) hk (by omega) (fun a c hab hc q1=>?_) fun t ht t1 t2=>?_)
  · obtain ⟨ya,ea⟩:=at_arr (p:=q) (i:=a) (by omega)
    obtain ⟨yc,ec⟩:=at_arr (p:=q) (i:=c) (by omega)
    simp only [val a ya ea,val c yc ec,bval,if_true] at q1 ⊢
    exact C.leLt (sorted_le C T.sq hab (at_list ea) (at_list ec)) q1
  dsimp only
  have M2:HI blt p q (out.push y++(q.extract t (n - 1)).reverse) m t:=by
    have:=MI.blockY M1 (sorted_rev T.sq) (n - 1 - t) (by rw [List.length_reverse,Array.length_toList]; omega) (fun i hi yy ey=>by
      have e1:q[n - 1 - i - 1]? = some yy:=by
        rw [List.getElem?_reverse (by rw [Array.length_toList]; omega),Array.length_toList,show q.size - 1 - (q.size - (n - 1)+i)=n - 1 - i - 1 by omega] at ey
        simpa using ey
      have:=t2 (n - 1 - i - 1) (by omega) (by omega)
      rw [val _ yy e1] at this
      have z:blt yy x=false:=by simpa only [bval,if_true] using this
      exact ge_drop C T.sp m0 hm hx z)
    rw [← extm q (by omega) (by omega),← Array.toList_append,show q.size - (n - 1)+(n - 1 - t)=q.size - t by omega] at this
    exact this
  -- what is left of q is below x
  have below:∀ z∈q.toList.reverse.drop (q.size - t),ge blt x z:=fun z hz=>by
    rw [drop_rev q (by omega)] at hz
    obtain ⟨k,hk',e⟩:=List.mem_iff_getElem.mp (List.mem_reverse.mp hz)
    rw [List.length_take] at hk'
    have e2:q.toList[k]? = some z:=by
      rw [← e,← List.getElem?_eq_getElem (by rw [List.length_take]; exact hk'),List.getElem?_take_of_lt (by omega)]
    have e3:q[k]? = some z:=by simpa using e2
    have:=t1 k (by omega)
    rw [val k z e3] at this
    exact C.ofLt (by simpa only [bval,if_true] using this)
  by_cases h2:n - 1 - t > 0
  · rw [if_pos h2]
    by_cases h3:t=1
    · rw [if_pos (by rw [h3]; rfl)]
      exact wpS_pure ⟨kp,T.fs_end C M2 hm h3 (by omega)⟩
    · rw [if_neg (fun z=>h3 (eq_of_beq z))]
      by_cases h4:t=0
      · rw [if_pos (by rw [h4]; rfl)]
        exact wpS_pure ⟨kp,T.dn_end M2 hm (by omega) (.inr h4)⟩
      · rw [if_neg (fun z=>h4 (eq_of_beq z))]
        exact hiG3_ok C T kp M2 m0 hm (by omega) (by omega) (by omega) hx below
  · rw [if_neg h2]
    have et:t=n - 1:=by omega
    rw [et] at below
    exact hiG3_ok C T kp M1 m0 hm (by omega) (by omega) (by omega) hx below
theorem hiG1_ok (C:Cmp prog w A s kd Ok blt) {p q out:Array Keyed} {x0 y0 xl:Keyed} (T:Two Ok blt p q x0 y0 xl) {m n g ac bc b:Nat} {st0 st:SortSt} (kp:Kept st0 st) (hk:kindOf st=kd) (M:HI blt p q out m n) (m0:0<m) (hm:m≤p.size) (n0:1<n) (hn:n≤q.size) (hb:m+n≤b):wpS (model prog w) A E s (hiG1 p q out m n g ac bc) (HiQ blt p q st0 b) st:=by
  unfold hiG1
  refine wpS_bind (setMin_ok fun st1 kp1=>?_)
  have kp':=kp.trans kp1
  have hk':kindOf st1=kd:=kp1.kind.trans hk
  obtain ⟨y,hy⟩:=at_arr (p:=q) (i:=n - 1) (by omega)
  refine wpS_bind (elem_ok hy ?_)
  have val:∀ i xx,p[i]? = some xx→p.getD (0+i) y=xx:=fun i xx e=>by rw [Nat.zero_add]; simp [Array.getD_eq_getD_getElem?,e]
  have R:Row Ok p 0 m (fun i=>p.getD (0+i) y):=⟨fun i hi=>by
    obtain ⟨xa,ea⟩:=at_arr (p:=p) (i:=i) (by omega)
    rw [val i xa ea,Nat.zero_add,ea],fun i hi=>by
    obtain ⟨xa,ea⟩:=at_arr (p:=p) (i:=i) (by omega)
    show Ok (p.getD (0+i) y)
    rw [val i xa ea]
    exact T.op xa (mem_at ea)⟩
  refine wpS_bind (gallop_ok C R (T.oq y (mem_at hy)) hk' (by omega) (fun a c hab hc q1=>?_) fun t ht t1 t2=>?_)
  · obtain ⟨xa,ea⟩:=at_arr (p:=p) (i:=a) (by omega)
    obtain ⟨xc,ec⟩:=at_arr (p:=p) (i:=c) (by omega)
    simp only [val a xa ea,val c xc ec,bval,Bool.false_eq_true,if_false,Bool.not_eq_true'] at q1 ⊢
    exact C.trans (sorted_le C T.sp hab (at_list ea) (at_list ec)) q1
  dsimp only
  have M1:HI blt p q (out++(p.extract t m).reverse) t n:=by
    have:=MI.blockX M (sorted_rev T.sp) (m - t) (by rw [List.length_reverse,Array.length_toList]; omega) (fun i hi xx ex=>by
      have e1:p[m - i - 1]? = some xx:=by
        rw [List.getElem?_reverse (by rw [Array.length_toList]; omega),Array.length_toList,show p.size - 1 - (p.size - m+i)=m - i - 1 by omega] at ex
        simpa using ex
      have:=t2 (m - i - 1) (by omega) (by omega)
      rw [val _ xx e1] at this
      have z:blt y xx=true:=by simpa only [bval,Bool.false_eq_true,if_false,Bool.not_eq_false'] using this
      exact ge_drop C T.sq (by omega) hn hy (C.ofLt z))
    rw [← extm p (by omega) hm,← Array.toList_append,show p.size - m+(m - t)=p.size - t by omega] at this
    exact this
  have below:∀ x,0<t→p[t - 1]? = some x→le blt x y:=fun x h0 hx=>by
    have:=t1 (t - 1) (by omega)
    rw [val _ x hx] at this
    have z:blt y x=false:=by simpa only [bval,Bool.false_eq_true,if_false,Bool.not_eq_true'] using this
    exact z
  by_cases h2:m - t > 0
  · rw [if_pos h2]
    by_cases h3:t=0
    · rw [if_pos (by rw [h3]; rfl)]
      exact wpS_pure ⟨kp',T.dn_end M1 (by omega) hn (.inl h3)⟩
    · rw [if_neg (fun z=>h3 (eq_of_beq z))]
      obtain ⟨x,hx⟩:=at_arr (p:=p) (i:=t - 1) (by omega)
      exact hiG2_ok C T kp' hk' M1 (by omega) (by omega) n0 hn (by omega) hx hy (below x (by omega) hx)
  · rw [if_neg h2]
    have et:t=m:=by omega
    subst et
    obtain ⟨x,hx⟩:=at_arr (p:=p) (i:=t - 1) (by omega)
    exact hiG2_ok C T kp' hk' M m0 hm n0 hn hb hx hy (below x m0 hx)
theorem mergeHi_ok (C:Cmp prog w A s kd Ok blt) {p q:Array Keyed} {x0 y0 xl:Keyed} (T:Two Ok blt p q x0 y0 xl) {st:SortSt} (hk:kindOf st=kd) {Q:Array Keyed→SortSt→Prop} (h:∀ r st',Kept st st'→Res blt p q r→Q r st'):wpS (model prog w) A E s (mergeHiP p q) Q st:=by
  have p0:0<p.size:=(Array.getElem?_eq_some_iff.mp T.hx0).1
  have q0:0<q.size:=(Array.getElem?_eq_some_iff.mp T.hy0).1
  obtain ⟨yl,hyl⟩:=at_arr (p:=q) (i:=q.size - 1) (by omega)
  have M0:HI blt p q #[xl] (p.size - 1) q.size:=by
    have m:HI blt p q #[] p.size q.size:=⟨by simp,by simp,fun o ho=>by simp at ho,fun o ho=>by simp at ho⟩
    have:=HI.pushX C T m p0 (Nat.le_refl _) T.hxl (ge_drop C T.sq q0 (Nat.le_refl _) hyl (C.ofLt (T.last yl (mem_at hyl))))
    simpa using this
  unfold mergeHiP
  refine wpS_bind (rule_ok ?_)
  refine wpS_bind (elem_ok T.hxl ?_)
  dsimp only
  by_cases h1:p.size - 1=0
  · rw [if_pos (by rw [h1]; rfl)]
    exact wpS_pure (h _ _ (Kept.refl _) (T.dn_end M0 (by omega) (by omega) (.inl h1)))
  rw [if_neg (fun z=>h1 (eq_of_beq z))]
  by_cases h2:q.size=1
  · rw [if_pos (by rw [h2]; rfl)]
    exact wpS_pure (h _ _ (Kept.refl _) (T.fs_end C M0 (by omega) h2 (by omega)))
  rw [if_neg (fun z=>h2 (eq_of_beq z))]
  refine wpS_bind (wpS_get ?_)
  refine wpS_bind (wpS_mono (wpS_forRange
    (I:=fun x c st'=>Kept st st'∧∃ m n out g,c=(none,m,n,out,g)∧HI blt p q out m n∧0<m∧m≤p.size∧1<n∧n≤q.size∧m+n+x+1≤p.size+q.size)
    (Q:=fun c st'=>Kept st st'∧∃ r rest,c=(some r,rest)∧Res blt p q r) ?_ ?_ ⟨Kept.refl _,_,_,_,_,rfl,M0,by omega,by omega,by omega,by omega,by omega⟩) ?_)
  · rintro x c st1 _ hx ⟨kp1,m,n,out,g,rfl,M,m0,hm,n0,hn,hb⟩
    dsimp only
    -- one by one
    refine wpS_bind (wpS_mono (wpS_forRange
      (I:=fun _ c st'=>st'=st1∧∃ m n out ac bc,c=(none,m,n,out,ac,bc)∧HI blt p q out m n∧0<m∧m≤p.size∧1<n∧n≤q.size∧m+n+x+1≤p.size+q.size)
      (Q:=fun c st'=>st'=st1∧((∃ r rest,c=(some r,rest)∧Res blt p q r)∨∃ m n out ac bc,c=(none,m,n,out,ac,bc)∧HI blt p q out m n∧0<m∧m≤p.size∧1<n∧n≤q.size∧m+n+x+1≤p.size+q.size)) ?_ ?_ ⟨rfl,m,n,out,0,0,rfl,M,m0,hm,n0,hn,hb⟩) ?_)
    · rintro z c st2 _ hz ⟨rfl,m,n,out,ac,bc,rfl,M,m0,hm,n0,hn,hb⟩
      dsimp only
      obtain ⟨yy,hy⟩:=at_arr (p:=q) (i:=n - 1) (by omega)
      obtain ⟨xx,hx⟩:=at_arr (p:=p) (i:=m - 1) (by omega)
      refine wpS_bind (elem_ok hy ?_)
      refine wpS_bind (elem_ok hx ?_)
      refine wpS_bind (lt_ok C (kp1.kind.trans hk) (T.oq yy (mem_at hy)) (T.op xx (mem_at hx)) ?_)
      dsimp only
      cases hlt:blt yy xx with
      | true =>
        rw [if_pos rfl]
        refine wpS_bind (elem_ok hx ?_)
        have M1:=HI.pushX C T M m0 hm hx (ge_drop C T.sq (by omega) hn hy (C.ofLt hlt))
        by_cases e1:m - 1=0
        · rw [if_pos (by rw [e1]; rfl)]
          exact wpS_pure ⟨rfl,.inl ⟨_,_,rfl,T.dn_end M1 (by omega) hn (.inl e1)⟩⟩
        · rw [if_neg (fun z=>e1 (eq_of_beq z))]
          split
          · exact wpS_pure ⟨rfl,.inr ⟨_,_,_,_,_,rfl,M1,by omega,by omega,n0,hn,by omega⟩⟩
          · exact wpS_pure ⟨rfl,_,_,_,_,_,rfl,M1,by omega,by omega,n0,hn,by omega⟩
      | false =>
        rw [if_neg Bool.false_ne_true]
        refine wpS_bind (elem_ok hy ?_)
        have M1:=HI.pushY C T M (by omega) hn hy (ge_drop C T.sp m0 hm hx hlt)
        by_cases e1:n - 1=1
        · rw [if_pos (by rw [e1]; rfl)]
          exact wpS_pure ⟨rfl,.inl ⟨_,_,rfl,T.fs_end C M1 hm e1 (by omega)⟩⟩
        · rw [if_neg (fun z=>e1 (eq_of_beq z))]
          split
          · exact wpS_pure ⟨rfl,.inr ⟨_,_,_,_,_,rfl,M1,m0,hm,by omega,by omega,by omega⟩⟩
          · exact wpS_pure ⟨rfl,_,_,_,_,_,rfl,M1,m0,hm,by omega,by omega,by omega⟩
    · rintro c st2 ⟨rfl,m,n,out,ac,bc,rfl,M⟩
      exact ⟨rfl,.inr ⟨m,n,out,ac,bc,rfl,M⟩⟩
    · rintro c st2 ⟨rfl,hc⟩
      rcases hc with ⟨r,rest,rfl,hr⟩ | ⟨m,n,out,ac,bc,rfl,M,m0,hm,n0,hn,hb⟩
      · exact wpS_pure ⟨kp1,r,_,rfl,hr⟩
      · dsimp only
        refine wpS_bind (rule_ok ?_)
        -- the gallop
        refine wpS_bind (wpS_mono (wpS_forRange
          (I:=fun y c st'=>Kept st st'∧∃ m n out g ac bc,c=(none,m,n,out,g,ac,bc)∧HI blt p q out m n∧0<m∧m≤p.size∧1<n∧n≤q.size∧(if y=0 then m+n+x+1≤p.size+q.size else m+n+x+2≤p.size+q.size))
          (Q:=fun c st'=>Kept st st'∧((∃ r rest,c=(some r,rest)∧Res blt p q r)∨∃ m n out g ac bc,c=(none,m,n,out,g,ac,bc)∧HI blt p q out m n∧0<m∧m≤p.size∧1<n∧n≤q.size∧m+n+x+2≤p.size+q.size)) ?_ ?_
          ⟨kp1,m,n,out,_,ac,bc,rfl,M,m0,hm,n0,hn,by rw [if_pos rfl]; exact hb⟩) ?_)
        · rintro y c st3 _ hy ⟨kp3,m,n,out,g,ac,bc,rfl,M,m0,hm,n0,hn,hb⟩
          have hb':m+n+x+1≤p.size+q.size:=by split at hb <;> omega
          have key:∀ g',wpS (model prog w) A E s (hiG1 p q out m n g' ac bc) (HiQ blt p q st (m+n)) st3:=fun g'=>hiG1_ok C T kp3 (kp3.kind.trans hk) M m0 hm n0 hn (Nat.le_refl _)
          dsimp only
          refine wpS_mono (?_:wpS (model prog w) A E s _ (HiQ blt p q st (m+n)) st3) fun r st4 hr=>?_
          · by_cases hg:g > 1
            · rw [if_pos hg]
              exact key _
            · rw [if_neg hg]
              exact key _
          · obtain ⟨kp4,hr⟩:=hr
            match r,hr with
            | .done (some r,rest),hr=>exact ⟨kp4,.inl ⟨r,rest,rfl,hr⟩⟩
            | .done (none,m',n',out',g',ac',bc'),hr=>exact ⟨kp4,.inr ⟨m',n',out',g',ac',bc',rfl,hr.1,hr.2.1,hr.2.2.1,hr.2.2.2.1,hr.2.2.2.2.1,by have:=hr.2.2.2.2.2; omega⟩⟩
            | .yield (none,m',n',out',g',ac',bc'),hr=>exact ⟨kp4,m',n',out',g',ac',bc',rfl,hr.1,hr.2.1,hr.2.2.1,hr.2.2.2.1,hr.2.2.2.2.1,by rw [if_neg (by omega)]; have:=hr.2.2.2.2.2; omega⟩
        · rintro c st3 ⟨kp3,m,n,out,g,ac,bc,rfl,M,m0,hm,n0,hn,hb⟩
          rw [if_neg (by omega)] at hb
          exact ⟨kp3,.inr ⟨m,n,out,g,ac,bc,rfl,M,m0,hm,n0,hn,hb⟩⟩
        · rintro c st3 ⟨kp3,hc⟩
          rcases hc with ⟨r,rest,rfl,hr⟩ | ⟨m,n,out,g,ac,bc,rfl,M,m0,hm,n0,hn,hb⟩
          · exact wpS_pure ⟨kp3,r,_,rfl,hr⟩
          · dsimp only
            refine wpS_bind (setMin_ok fun st4 kp4=>?_)
            exact wpS_pure ⟨kp3.trans kp4,m,n,out,_,rfl,M,m0,hm,n0,hn,by omega⟩
  · rintro c st1 ⟨kp1,m,n,out,g,rfl,M,m0,hm,n0,hn,hb⟩
    exfalso
    have : max 0 (p.size+q.size)=p.size+q.size:=by omega
    rw [this] at hb
    omega
  · rintro c st1 ⟨kp1,r,rest,rfl,hr⟩
    exact wpS_pure (h r st1 kp1 hr)
end
end Ts
namespace Ts
open PySem PyProof.Rows
def countRunP:Nat→Nat→StateT SortSt Sem (Option Nat):=sortPriv% PySem.Builtin.countRun
def binarySortP:Nat→Nat→Nat→StateT SortSt Sem Bool:=sortPriv% PySem.Builtin.binarySort
def X (xs:Array Keyed) (i:Nat):Keyed:=xs[i]?.getD (Value.none,Value.none)
theorem X_at {xs:Array Keyed} {i:Nat} (h:i<xs.size):xs[i]? = some (X xs i):=by
  unfold X
  rw [getElem?_pos xs i h]
  rfl
theorem X_congr {xs ys:Array Keyed} {i j:Nat} (h:xs[i]? = ys[j]?):X xs i=X ys j:=by unfold X; rw [h]
theorem X_mirror {xs:Array Keyed} {i j:Nat} (hj:j≤xs.size) (k:Nat):X (mirror xs i j ((j - i) / 2)) k=if i≤k∧k<j then X xs (i+j - 1 - k) else X xs k:=by
  have e:=getElem?_mirror_all (i:=i) hj k
  by_cases h:i≤k∧k<j
  · rw [if_pos h] at e ⊢; exact X_congr e
  · rw [if_neg h] at e ⊢; exact X_congr e
theorem X_bubble {xs:Array Keyed} {src d:Nat} (hs:src<xs.size) (hd:d≤src) (k:Nat):X (bubble xs src d) k=if k=src - d then X xs src else if src - d<k∧k≤src then X xs (k - 1) else X xs k:=by
  have e:=getElem?_bubble hs d hd k
  by_cases h1:k=src - d
  · rw [if_pos h1] at e ⊢; exact X_congr e
  · rw [if_neg h1] at e ⊢
    by_cases h2:src - d<k∧k≤src
    · rw [if_pos h2] at e ⊢; exact X_congr e
    · rw [if_neg h2] at e ⊢; exact X_congr e
def Asc (blt:Keyed→Keyed→Bool) (xs:Array Keyed) (a b:Nat):Prop:=∀ i j,a≤i→i≤j→j<b→le blt (X xs i) (X xs j)
def Dsc (blt:Keyed→Keyed→Bool) (xs:Array Keyed) (a b:Nat):Prop:=∀ i j,a≤i→i≤j→j<b→le blt (X xs j) (X xs i)
structure Good (kd:SortKind) (a₀:Array Keyed) (pend:Array (Nat×Nat×Nat)) (st:SortSt):Prop where
  kind:kindOf st=kd
  fail:failedOf st=none
  perm:(arrOf st).Perm a₀
  pd:pendingOf st=pend
def Out (xs ys:Array Keyed) (a b:Nat):Prop:=∀ i,(i<a∨b≤i)→X ys i=X xs i
theorem Out.refl (xs:Array Keyed) (a b:Nat):Out xs xs a b:=fun _ _=>rfl
theorem Out.trans {xs ys zs:Array Keyed} {a b:Nat} (h:Out xs ys a b) (k:Out ys zs a b):Out xs zs a b:=fun i hi=>(k i hi).trans (h i hi)
section
variable {prog:Program} {w:World} {A:Around} {s:Shared} {kd:SortKind} {Ok:Keyed→Prop} {blt:Keyed→Keyed→Bool} {E:Value→Shared→Prop} {a₀:Array Keyed} {pend:Array (Nat×Nat×Nat)}
theorem Good.size {st:SortSt} (g:Good kd a₀ pend st):(arrOf st).size=a₀.size:=g.perm.size_eq
theorem Good.okX {st:SortSt} (g:Good kd a₀ pend st) (h0:∀ x∈a₀.toList,Ok x) {i:Nat} (hi:i<a₀.size):Ok (X (arrOf st) i):=by
  have e:=X_at (xs:=arrOf st) (i:=i) (by rw [g.size]; exact hi)
  exact h0 _ ((Array.perm_iff_toList_perm.mp g.perm).mem_iff.mp (mem_at e))
theorem Good.set {st:SortSt} (g:Good kd a₀ pend st) {xs:Array Keyed} (h:xs.Perm (arrOf st)):Good kd a₀ pend (setArr st xs):=⟨g.kind,g.fail,h.trans g.perm,g.pd⟩
theorem ltAt_ok (C:Cmp prog w A s kd Ok blt) {st:SortSt} (g:Good kd a₀ pend st) (h0:∀ x∈a₀.toList,Ok x) {i j:Nat} (hi:i<a₀.size) (hj:j<a₀.size) {Q:Option Bool→SortSt→Prop} (h:Q (some (blt (X (arrOf st) i) (X (arrOf st) j))) st):wpS (model prog w) A E s (ltAt' i j) Q st:=by
  rw [ltAt'_eq]
  refine wpS_bind (wpS_get ?_)
  refine wpS_bind (elem_ok (X_at (by rw [g.size]; exact hi)) ?_)
  refine wpS_bind (elem_ok (X_at (by rw [g.size]; exact hj)) ?_)
  exact lt_ok C g.kind (g.okX h0 hi) (g.okX h0 hj) h
theorem reverse_ok {st:SortSt} {i j:Nat} {Q:Unit→SortSt→Prop} (h:Q () (setArr st (mirror (arrOf st) i j ((j - i) / 2)))):wpS (model prog w) A E s (reverseSlice' i j) Q st:=by
  rw [reverseSlice'_eq]
  exact wpS_modify h
def ascP (lo a b:Nat):StateT SortSt Sem (Option (Option Nat)×Nat) :=
  forIn [a:b] ((none,a):Option (Option Nat)×Nat) fun _ c=>do
    let some less ← ltAt' (lo+c.2) (lo+c.2 - 1) | pure (ForInStep.done (some none,c.2))
    if less=true then pure (ForInStep.done (none,c.2)) else pure (ForInStep.yield (none,c.2+1))
theorem asc_ok (C:Cmp prog w A s kd Ok blt) {st:SortSt} (g:Good kd a₀ pend st) (h0:∀ x∈a₀.toList,Ok x) {lo a b:Nat} (hb:lo+b≤a₀.size) (ha:1≤a) (hab:a≤b) (h1:Asc blt (arrOf st) lo (lo+a)) {Q:Option (Option Nat)×Nat→SortSt→Prop} (h:∀ n,a≤n→n≤b→Asc blt (arrOf st) lo (lo+n)→(n=b∨blt (X (arrOf st) (lo+n)) (X (arrOf st) (lo+n - 1))=true)→Q (none,n) st):wpS (model prog w) A E s (ascP lo a b) Q st:=by
  unfold ascP
  refine wpS_forRange (I:=fun x c st'=>st'=st∧c=(none,x)∧Asc blt (arrOf st) lo (lo+x)) ?_ ?_ ⟨rfl,rfl,h1⟩
  · rintro x c st' hx1 hx2 ⟨rfl,rfl,hs⟩
    dsimp only
    refine wpS_bind (ltAt_ok C g h0 (by omega) (by omega) ?_)
    dsimp only
    cases hl:blt (X (arrOf st') (lo+x)) (X (arrOf st') (lo+x - 1)) with
    | true =>
      rw [if_pos rfl]
      exact wpS_pure (h x hx1 (by omega) hs (.inr hl))
    | false =>
      rw [if_neg Bool.false_ne_true]
      refine wpS_pure ⟨rfl,rfl,fun i j hi hij hj=>?_⟩
      by_cases hjx:j<lo+x
      · exact hs i j hi hij hjx
      · have ej:j=lo+x:=by omega
        subst ej
        by_cases hi':i=lo+x
        · subst hi'; exact C.refl _
        · exact C.trans (hs i (lo+x - 1) hi (by omega) (by omega)) hl
  · rintro c st' ⟨rfl,rfl,hs⟩
    rw [show max a b=b by omega] at hs ⊢
    exact h b hab (Nat.le_refl _) hs (.inl rfl)
theorem asc_of_dsc {xs:Array Keyed} {lo n:Nat} (hn:lo+n≤xs.size) (h:Dsc blt xs lo (lo+n)):Asc blt (mirror xs lo (lo+n) ((lo+n - lo) / 2)) lo (lo+n):=fun i j hi hij hj=>by
  rw [X_mirror hn,X_mirror hn,if_pos (by omega),if_pos (by omega)]
  exact h _ _ (by omega) (by omega) (by omega)
theorem dsc_block {xs:Array Keyed} {lo n b e:Nat} (hn:lo+n≤xs.size) (he:e≤lo+n) (hb:lo≤b) (h:Dsc blt xs lo (lo+n)) (eqv:∀ i j,b≤i→i<e→b≤j→j<e→le blt (X xs i) (X xs j)):Dsc blt (mirror xs b e ((e - b) / 2)) lo (lo+n):=fun i j hi hij hj=>by
  rw [X_mirror (by omega),X_mirror (by omega)]
  by_cases h1:b≤j∧j<e
  · rw [if_pos h1]
    by_cases h2:b≤i∧i<e
    · rw [if_pos h2]
      exact eqv _ _ (by omega) (by omega) (by omega) (by omega)
    · rw [if_neg h2]
      exact h _ _ hi (by omega) (by omega)
  · rw [if_neg h1]
    by_cases h2:b≤i∧i<e
    · rw [if_pos h2]
      exact h _ _ (by omega) (by omega) (by omega)
    · rw [if_neg h2]
      exact h i j hi hij hj
theorem out_mirror {xs:Array Keyed} {a b i j:Nat} (h1:a≤i) (h2:j≤b) (h3:j≤xs.size):Out xs (mirror xs i j ((j - i) / 2)) a b:=fun k hk=>by
  rw [X_mirror h3,if_neg (by omega)]
def tailP (lo n b:Nat):StateT SortSt Sem (Option Nat):=do
  reverseSlice' lo (lo+n)
  let mut m:=n
  for _ in [n:b] do
    let some less ← ltAt' (lo+m) (lo+m - 1) | return none
    if less then break
    m:=m+1
  return some m
theorem tail_ok (C:Cmp prog w A s kd Ok blt) {st:SortSt} (g:Good kd a₀ pend st) (h0:∀ x∈a₀.toList,Ok x) {lo n b:Nat} (hb:lo+b≤a₀.size) (hn:1≤n) (hnb:n≤b) (h1:Dsc blt (arrOf st) lo (lo+n)) {Q:Option Nat→SortSt→Prop} (h:∀ m st',Good kd a₀ pend st'→1≤m→m≤b→Asc blt (arrOf st') lo (lo+m)→Out (arrOf st) (arrOf st') lo (lo+b)→Q (some m) st'):wpS (model prog w) A E s (tailP lo n b) Q st:=by
  unfold tailP
  have hsz:lo+n≤(arrOf st).size:=by rw [g.size]; omega
  refine wpS_bind (reverse_ok ?_)
  have g':Good kd a₀ pend (setArr st (mirror (arrOf st) lo (lo+n) ((lo+n - lo) / 2))):=g.set (mirror_perm _ _ _ _)
  refine wpS_bind (asc_ok C g' h0 hb hn hnb (asc_of_dsc hsz h1) fun m hm1 hm2 hs _=>?_)
  exact wpS_pure (h m _ g' (by omega) hm2 hs (out_mirror (Nat.le_refl _) (by omega) hsz))
abbrev DsSt:=Option (Option Nat)×Nat×Nat
def dscP (lo a b:Nat):StateT SortSt Sem DsSt :=
  forIn [a:b] ((none,a,0):DsSt) fun _ c=>do
    let some less ← ltAt' (lo+c.2.1) (lo+c.2.1 - 1) | pure (ForInStep.done (some none,c.2.1,c.2.2))
    if less=true then
      if c.2.2 > 0 then do
        reverseSlice' (lo+c.2.1 - (c.2.2+1)) (lo+c.2.1)
        pure (ForInStep.yield (none,c.2.1+1,0))
      else pure (ForInStep.yield (none,c.2.1+1,0))
    else do
      let some more ← ltAt' (lo+c.2.1 - 1) (lo+c.2.1) | pure (ForInStep.done (some none,c.2.1,c.2.2))
      if more=true then pure (ForInStep.done (none,c.2.1,c.2.2)) else pure (ForInStep.yield (none,c.2.1+1,c.2.2+1))
def Like (blt:Keyed→Keyed→Bool) (xs:Array Keyed) (lo n e:Nat):Prop:=e+1≤n∧∀ i j,lo+n - (e+1)≤i→i<lo+n→lo+n - (e+1)≤j→j<lo+n→le blt (X xs i) (X xs j)
theorem like_one (C:Cmp prog w A s kd Ok blt) {xs:Array Keyed} {lo n:Nat} (h:1≤n):Like blt xs lo n 0:=⟨by omega,fun i j i1 i2 j1 j2=>by
  have e:i=j:=by omega
  subst e
  exact C.refl _⟩
theorem dsc_more (C:Cmp prog w A s kd Ok blt) {xs:Array Keyed} {lo n:Nat} (hn:1≤n) (h:Dsc blt xs lo (lo+n)) (hl:le blt (X xs (lo+n)) (X xs (lo+n - 1))):Dsc blt xs lo (lo+(n+1)):=fun i j hi hij hj=>by
  by_cases hjx:j<lo+n
  · exact h i j hi hij hjx
  · have ej:j=lo+n:=by omega
    subst ej
    by_cases hi':i=lo+n
    · subst hi'; exact C.refl _
    · exact C.trans hl (h i (lo+n - 1) hi (by omega) (by omega))
theorem dscP_ok (C:Cmp prog w A s kd Ok blt) {st:SortSt} (g:Good kd a₀ pend st) (h0:∀ x∈a₀.toList,Ok x) {lo a b:Nat} (hb:lo+b≤a₀.size) (ha:1≤a) (hab:a≤b) (h1:Dsc blt (arrOf st) lo (lo+a)) {Q:DsSt→SortSt→Prop} (h:∀ n e st',Good kd a₀ pend st'→a≤n→n≤b→Dsc blt (arrOf st') lo (lo+n)→Like blt (arrOf st') lo n e→Out (arrOf st) (arrOf st') lo (lo+b)→Q (none,n,e) st'):wpS (model prog w) A E s (dscP lo a b) Q st:=by
  unfold dscP
  refine wpS_forRange (I:=fun x c st'=>∃ e,c=(none,x,e)∧Good kd a₀ pend st'∧Dsc blt (arrOf st') lo (lo+x)∧Like blt (arrOf st') lo x e∧Out (arrOf st) (arrOf st') lo (lo+b)) ?_ ?_
    ⟨0,rfl,g,h1,like_one C ha,Out.refl _ _ _⟩
  · rintro x c st' hx1 hx2 ⟨e,rfl,g',hs,lk,ou⟩
    have hsz:(arrOf st').size=a₀.size:=g'.size
    dsimp only
    refine wpS_bind (ltAt_ok C g' h0 (by omega) (by omega) ?_)
    dsimp only
    cases hl:blt (X (arrOf st') (lo+x)) (X (arrOf st') (lo+x - 1)) with
    | true =>
      rw [if_pos rfl]
      have d1:=dsc_more C (by omega) hs (C.ofLt hl)
      have one:∀ ys:Array Keyed,Like blt ys lo (x+1) 0:=fun ys=>⟨by omega,fun i j i1 i2 j1 j2=>by
        have : i=j:=by omega
        subst this
        exact C.refl _⟩
      by_cases he:e > 0
      · rw [if_pos he]
        refine wpS_bind (reverse_ok ?_)
        refine wpS_pure ⟨0,rfl,g'.set (mirror_perm _ _ _ _),?_,one _,ou.trans (out_mirror (by have:=lk.1; omega) (by omega) (by omega))⟩
        exact dsc_block (by omega) (by omega) (by have:=lk.1; omega) d1 fun i j i1 i2 j1 j2=>lk.2 i j i1 i2 j1 j2
      · rw [if_neg he]
        exact wpS_pure ⟨0,rfl,g',d1,one _,ou⟩
    | false =>
      rw [if_neg Bool.false_ne_true]
      refine wpS_bind (ltAt_ok C g' h0 (by omega) (by omega) ?_)
      dsimp only
      cases hm:blt (X (arrOf st') (lo+x - 1)) (X (arrOf st') (lo+x)) with
      | true =>
        rw [if_pos rfl]
        exact wpS_pure (h x e st' g' hx1 (by omega) hs lk ou)
      | false =>
        rw [if_neg Bool.false_ne_true]
        refine wpS_pure ⟨e+1,rfl,g',dsc_more C (by omega) hs hm,⟨by have:=lk.1; omega,fun i j i1 i2 j1 j2=>?_⟩,ou⟩
        have l1:le blt (X (arrOf st') (lo+x - 1)) (X (arrOf st') (lo+x)):=hl
        have l2:le blt (X (arrOf st') (lo+x)) (X (arrOf st') (lo+x - 1)):=hm
        by_cases ei:i=lo+x
        · by_cases ej:j=lo+x
          · rw [ei,ej]; exact C.refl _
          · rw [ei]
            exact C.trans l2 (lk.2 (lo+x - 1) j (by omega) (by omega) (by omega) (by omega))
        · by_cases ej:j=lo+x
          · rw [ej]
            exact C.trans (lk.2 i (lo+x - 1) (by omega) (by omega) (by omega) (by omega)) l1
          · exact lk.2 i j (by omega) (by omega) (by omega) (by omega)
  · rintro c st' ⟨e,rfl,g',hs,lk,ou⟩
    rw [show max a b=b by omega] at hs lk ⊢
    exact h b e st' g' hab (Nat.le_refl _) hs lk ou
def fallP (lo n b:Nat):StateT SortSt Sem (Option Nat):=do
  liftM (rule "list.sort.descending-run")
  let mut m:=n+1
  let mut e:=0
  for _ in [m:b] do
    let some less ← ltAt' (lo+m) (lo+m - 1) | return none
    if less then
      if e > 0 then reverseSlice' (lo+m - (e+1)) (lo+m)
      e:=0
    else
      let some more ← ltAt' (lo+m - 1) (lo+m) | return none
      if more then break
      e:=e+1
    m:=m+1
  if e > 0 then reverseSlice' (lo+m - (e+1)) (lo+m)
  tailP lo m b
theorem fall_ok (C:Cmp prog w A s kd Ok blt) {st:SortSt} (g:Good kd a₀ pend st) (h0:∀ x∈a₀.toList,Ok x) {lo n b:Nat} (hb:lo+b≤a₀.size) (hnb:n+1≤b) (h1:Dsc blt (arrOf st) lo (lo+(n+1))) {Q:Option Nat→SortSt→Prop} (h:∀ m st',Good kd a₀ pend st'→1≤m→m≤b→Asc blt (arrOf st') lo (lo+m)→Out (arrOf st) (arrOf st') lo (lo+b)→Q (some m) st'):wpS (model prog w) A E s (fallP lo n b) Q st:=by
  unfold fallP
  refine wpS_bind (rule_ok ?_)
  refine wpS_bind (dscP_ok C g h0 hb (by omega) hnb h1 fun k e st1 g1 k1 k2 d1 lk ou=>?_)
  dsimp only
  have hsz:(arrOf st1).size=a₀.size:=g1.size
  by_cases he:e > 0
  · rw [if_pos he]
    refine wpS_bind (reverse_ok ?_)
    refine tail_ok C (g1.set (mirror_perm _ _ _ _)) h0 hb (by omega) k2 (dsc_block (by omega) (by omega) (by have:=lk.1; omega) d1 fun i j i1 i2 j1 j2=>lk.2 i j i1 i2 j1 j2) fun m st2 g2 m1 m2 as ou2=>?_
    exact h m st2 g2 m1 m2 as ((ou.trans (out_mirror (by have:=lk.1; omega) (by omega) (by omega))).trans ou2)
  · rw [if_neg he]
    exact tail_ok C g1 h0 hb (by omega) k2 d1 fun m st2 g2 m1 m2 as ou2=>h m st2 g2 m1 m2 as (ou.trans ou2)
theorem count_ok (C:Cmp prog w A s kd Ok blt) {st:SortSt} (g:Good kd a₀ pend st) (h0:∀ x∈a₀.toList,Ok x) {lo b:Nat} (hb:lo+b≤a₀.size) (b1:1≤b) {Q:Option Nat→SortSt→Prop} (h:∀ m st',Good kd a₀ pend st'→1≤m→m≤b→Asc blt (arrOf st') lo (lo+m)→Out (arrOf st) (arrOf st') lo (lo+b)→Q (some m) st'):wpS (model prog w) A E s (countRunP lo b) Q st:=by
  unfold countRunP
  have hsz:(arrOf st).size=a₀.size:=g.size
  refine wpS_bind (asc_ok C g h0 hb (Nat.le_refl _) b1 (fun i j i1 i2 j1=>by
    have : i=j:=by omega
    subst this
    exact C.refl _) fun n n1 n2 hs hor=>?_)
  dsimp only
  by_cases e:n=b
  · rw [if_pos (by rw [e]; exact beq_self_eq_true _)]
    exact wpS_pure (h n st g n1 n2 hs (Out.refl _ _ _))
  rw [if_neg (fun z=>e (eq_of_beq z))]
  have hlt:blt (X (arrOf st) (lo+n)) (X (arrOf st) (lo+n - 1))=true:=hor.resolve_left e
  by_cases hg:n > 1
  · rw [if_pos hg]
    refine wpS_bind (ltAt_ok C g h0 (by omega) (by omega) ?_)
    dsimp only
    cases hr:blt (X (arrOf st) lo) (X (arrOf st) (lo+n - 1)) with
    | true =>
      rw [if_pos rfl]
      exact wpS_pure (h n st g n1 n2 hs (Out.refl _ _ _))
    | false =>
      rw [if_neg Bool.false_ne_true]
      refine wpS_bind (reverse_ok ?_)
      -- all of it are alike
      have like:∀ i j,lo≤i→i<lo+n→lo≤j→j<lo+n→le blt (X (arrOf st) i) (X (arrOf st) j):=fun i j i1 i2 j1 j2 =>
        C.trans (hs i (lo+n - 1) i1 (by omega) (by omega)) (C.trans hr (hs lo j (Nat.le_refl _) j1 j2))
      have d1:Dsc blt (arrOf st) lo (lo+(n+1)):=dsc_more C n1 (fun i j i1 i2 j1=>like j i (by omega) j1 i1 (by omega)) (C.ofLt hlt)
      exact fall_ok C (g.set (mirror_perm _ _ _ _)) h0 hb (by omega) (dsc_block (by omega) (by omega) (Nat.le_refl _) d1 like) fun m st2 g2 m1 m2 as ou2=>h m st2 g2 m1 m2 as ((out_mirror (Nat.le_refl _) (by omega) (by omega)).trans ou2)
  · rw [if_neg hg]
    have en:n=1:=by omega
    subst en
    have d1:Dsc blt (arrOf st) lo (lo+(1+1)):=dsc_more C (Nat.le_refl _) (fun i j i1 i2 j1=>by
      have : i=j:=by omega
      subst this
      exact C.refl _) (C.ofLt hlt)
    exact fall_ok C g h0 hb (by omega) d1 h
end
end Ts
namespace Ts
open PySem PyProof.Rows
def mergeAtP:Nat→StateT SortSt Sem Bool:=sortPriv% PySem.Builtin.mergeAt
section
variable {prog:Program} {w:World} {A:Around} {s:Shared} {kd:SortKind} {Ok:Keyed→Prop} {blt:Keyed→Keyed→Bool} {E:Value→Shared→Prop} {a₀:Array Keyed} {pend:Array (Nat×Nat×Nat)}
theorem moveDown_ok {st:SortSt} {i j:Nat} {Q:Unit→SortSt→Prop} (h:Q () (setArr st (bubble (arrOf st) i (i - j)))):wpS (model prog w) A E s (moveDown' i j) Q st:=by
  rw [moveDown'_eq]
  exact wpS_modify h
theorem binary_ok (C:Cmp prog w A s kd Ok blt) {st:SortSt} (g:Good kd a₀ pend st) (h0:∀ x∈a₀.toList,Ok x) {lo n ok:Nat} (hb:lo+n≤a₀.size) (h1:Asc blt (arrOf st) lo (lo+ok)) (hok:ok≤n) {Q:Bool→SortSt→Prop} (h:∀ st',Good kd a₀ pend st'→Asc blt (arrOf st') lo (lo+n)→Out (arrOf st) (arrOf st') lo (lo+n)→Q true st'):wpS (model prog w) A E s (binarySortP lo n ok) Q st:=by
  unfold binarySortP
  refine wpS_bind (wpS_mono (wpS_forRange
    (I:=fun k c st'=>c=(none,())∧Good kd a₀ pend st'∧Asc blt (arrOf st') lo (lo+k)∧Out (arrOf st) (arrOf st') lo (lo+n))
    (Q:=fun c st'=>c=(none,())∧Good kd a₀ pend st'∧Asc blt (arrOf st') lo (lo+n)∧Out (arrOf st) (arrOf st') lo (lo+n)) ?_ ?_ ⟨rfl,g,?_,Out.refl _ _ _⟩) ?_)
  · rintro k c st1 hk1 hk2 ⟨rfl,g1,hs,ou⟩
    have hsz:(arrOf st1).size=a₀.size:=g1.size
    dsimp only
    refine wpS_bind (wpS_mono (wpS_forRange
      (I:=fun y c st'=>st'=st1∧∃ l r,c=(none,l,r)∧l≤r∧r≤k∧r - l+y≤k∧(∀ i,i<l→le blt (X (arrOf st1) (lo+i)) (X (arrOf st1) (lo+k)))∧(∀ i,r≤i→i<k→blt (X (arrOf st1) (lo+k)) (X (arrOf st1) (lo+i))=true))
      (Q:=fun c st'=>st'=st1∧∃ l,c=(none,l,l)∧l≤k∧(∀ i,i<l→le blt (X (arrOf st1) (lo+i)) (X (arrOf st1) (lo+k)))∧(∀ i,l≤i→i<k→blt (X (arrOf st1) (lo+k)) (X (arrOf st1) (lo+i))=true)) ?_ ?_
      ⟨rfl,0,k,rfl,by omega,by omega,by omega,fun i hi=>by omega,fun i h1 h2=>by omega⟩) ?_)
    · rintro y c st2 _ hy ⟨rfl,l,r,rfl,a1,a2,a3,b1,b2⟩
      dsimp only
      by_cases hlr:l ≥ r
      · rw [if_pos hlr]
        have e:l=r:=by omega
        subst e
        exact wpS_pure ⟨rfl,l,rfl,a2,b1,b2⟩
      · rw [if_neg hlr]
        refine wpS_bind (ltAt_ok C g1 h0 (by omega) (by omega) ?_)
        dsimp only
        cases hl:blt (X (arrOf st2) (lo+k)) (X (arrOf st2) (lo+(l+r) / 2)) with
        | true =>
          rw [if_pos rfl]
          exact wpS_pure ⟨rfl,l,(l+r) / 2,rfl,by omega,by omega,by omega,b1,fun i i1 i2=>C.ltLe hl (hs _ _ (by omega) (by omega) (by omega))⟩
        | false =>
          rw [if_neg Bool.false_ne_true]
          exact wpS_pure ⟨rfl,(l+r) / 2+1,r,rfl,by omega,a2,by omega,fun i hi=>C.trans (hs _ _ (by omega) (by omega) (by omega)) hl,b2⟩
    · rintro c st2 ⟨rfl,l,r,rfl,a1,a2,a3,b1,b2⟩
      have : max 0 k=k:=by omega
      rw [this] at a3
      have e:l=r:=by omega
      subst e
      exact ⟨rfl,l,rfl,a2,b1,b2⟩
    · rintro c st2 ⟨rfl,l,rfl,a2,b1,b2⟩
      dsimp only
      refine wpS_bind (moveDown_ok ?_)
      have xb:=fun i=>X_bubble (xs:=arrOf st2) (src:=lo+k) (d:=lo+k - (lo+l)) (by omega) (by omega) i
      have ed:lo+k - (lo+k - (lo+l))=lo+l:=by omega
      refine wpS_pure ⟨rfl,g1.set (bubble_perm _ _ _),fun i j i1 i2 j1=>?_,ou.trans fun i hi=>?_⟩
      · show le blt (X (bubble (arrOf st2) (lo+k) (lo+k - (lo+l))) i) (X (bubble (arrOf st2) (lo+k) (lo+k - (lo+l))) j)
        rw [xb,xb,ed]
        by_cases e1:i=lo+l
        · rw [if_pos e1]
          by_cases e2:j=lo+l
          · rw [if_pos e2]; exact C.refl _
          · rw [if_neg e2]
            by_cases e3:lo+l<j∧j≤lo+k
            · rw [if_pos e3]
              have:=b2 (j - 1 - lo) (by omega) (by omega)
              rw [show lo+(j - 1 - lo)=j - 1 by omega] at this
              exact C.ofLt this
            · exfalso; omega
        · rw [if_neg e1]
          by_cases e2:j=lo+l
          · rw [if_pos e2,if_neg (by omega)]
            have:=b1 (i - lo) (by omega)
            rw [show lo+(i - lo)=i by omega] at this
            exact this
          · rw [if_neg e2]
            by_cases e3:lo+l<i∧i≤lo+k
            · rw [if_pos e3,if_pos (by omega)]
              exact hs _ _ (by omega) (by omega) (by omega)
            · rw [if_neg e3]
              by_cases e4:lo+l<j∧j≤lo+k
              · rw [if_pos e4]
                exact hs _ _ (by omega) (by omega) (by omega)
              · rw [if_neg e4]
                exact hs _ _ (by omega) (by omega) (by omega)
      · show X (bubble (arrOf st2) (lo+k) (lo+k - (lo+l))) i=X (arrOf st2) i
        rw [xb,ed,if_neg (by omega),if_neg (by omega)]
  · rintro c st1 ⟨rfl,g1,hs,ou⟩
    refine ⟨rfl,g1,fun i j i1 i2 j1=>hs i j i1 i2 (by omega),ou⟩
  · intro i j i1 i2 j1
    by_cases e:i=j
    · subst e; exact C.refl _
    · exact h1 i j i1 i2 (by omega)
  · rintro c st1 ⟨rfl,g1,hs,ou⟩
    exact wpS_pure (h st1 g1 hs ou)
end
abbrev paste (xs:Array Keyed) (b:Nat) (l:List (Keyed×Nat)):Array Keyed:=l.foldl (fun a x=>match x with | (p,j)=>a.setIfInBounds (b+j) p) xs
theorem paste_at (b:Nat):∀ (l:List Keyed) (o:Nat) (xs:Array Keyed),b+o+l.length≤xs.size→(paste xs b (l.zipIdx o)).size=xs.size∧∀ i:Nat,(paste xs b (l.zipIdx o))[i]? = if b+o≤i∧i<b+o+l.length then l[i - (b+o)]? else xs[i]?
  | [],o,xs,_=>⟨rfl,fun i=>by rw [if_neg (by rw [List.length_nil]; omega)]; rfl⟩
  | x::l,o,xs,h=>by
    rw [List.length_cons] at h
    have ih:=paste_at b l (o+1) (xs.setIfInBounds (b+o) x) (by rw [Array.size_setIfInBounds]; omega)
    have e:paste xs b ((x::l).zipIdx o)=paste (xs.setIfInBounds (b+o) x) b (l.zipIdx (o+1)):=by
      rw [List.zipIdx_cons]
      rfl
    rw [e]
    refine ⟨ih.1.trans (Array.size_setIfInBounds),fun i=>?_⟩
    rw [ih.2 i,List.length_cons]
    by_cases h1:b+(o+1)≤i∧i<b+(o+1)+l.length
    · rw [if_pos h1,if_pos (by omega)]
      rw [show i - (b+o)=(i - (b+(o+1)))+1 by omega,List.getElem?_cons_succ]
    · rw [if_neg h1]
      by_cases h2:i=b+o
      · subst h2
        rw [if_pos (by omega),Array.getElem?_setIfInBounds_self_of_lt (by omega),Nat.sub_self]
        rfl
      · rw [if_neg (by omega),Array.getElem?_setIfInBounds_ne (by omega)]
theorem paste_perm {xs m:Array Keyed} {b n:Nat} (hb:b+n≤xs.size) (hn:m.size=n) (hp:m.toList.Perm ((xs.toList.drop b).take n)):(paste xs b m.toList.zipIdx).Perm xs:=by
  have ha:=paste_at b m.toList 0 xs (by rw [Array.length_toList]; omega)
  have e:(paste xs b m.toList.zipIdx).toList=xs.toList.take b++(m.toList++xs.toList.drop (b+n)):=by
    apply List.ext_getElem?
    intro i
    have h1:=ha.2 i
    rw [Array.length_toList,hn] at h1
    have h2:(paste xs b m.toList.zipIdx).toList[i]? = (paste xs b m.toList.zipIdx)[i]?:=by simp
    rw [h2,h1]
    have lt:(xs.toList.take b).length=b:=by rw [List.length_take,Array.length_toList]; omega
    by_cases c1:i<b
    · rw [if_neg (by omega),List.getElem?_append_left (by omega),List.getElem?_take_of_lt c1]
      simp
    · rw [List.getElem?_append_right (by omega),lt]
      by_cases c2:i<b+n
      · rw [if_pos (by omega),List.getElem?_append_left (by rw [Array.length_toList]; omega)]
        congr 1
      · rw [if_neg (by omega),List.getElem?_append_right (by rw [Array.length_toList]; omega),List.getElem?_drop,Array.length_toList]
        rw [show b+n+(i - b - m.size)=i by omega]
        simp
  refine Array.perm_iff_toList_perm.mpr ?_
  rw [e]
  have e2:xs.toList=xs.toList.take b++((xs.toList.drop b).take n++xs.toList.drop (b+n)):=by
    conv=>lhs; rw [← List.take_append_drop b xs.toList]
    congr 1
    conv=>lhs; rw [← List.take_append_drop n (xs.toList.drop b)]
    rw [List.drop_drop]
  conv=>rhs; rw [e2]
  exact List.Perm.append_left _ (List.Perm.append_right _ hp)
theorem ext_at {xs:Array Keyed} {a n:Nat} (h:a+n≤xs.size) {i:Nat} (hi:i<n):(xs.extract a (a+n))[i]? = some (X xs (a+i)):=by
  rw [Array.getElem?_extract,if_pos (by omega)]
  exact X_at (by omega)
theorem ext_size {xs:Array Keyed} {a n:Nat} (h:a+n≤xs.size):(xs.extract a (a+n)).size=n:=by
  rw [Array.size_extract]
  omega
theorem mem_ext {xs:Array Keyed} {a n:Nat} (h:a+n≤xs.size) {x:Keyed} (hx:x∈(xs.extract a (a+n)).toList):∃ i,i<n∧x=X xs (a+i):=by
  obtain ⟨i,hi,e⟩:=List.mem_iff_getElem.mp hx
  rw [Array.length_toList,ext_size h] at hi
  refine ⟨i,hi,?_⟩
  have h1:=ext_at h hi
  have h2:(xs.extract a (a+n)).toList[i]? = some x:=by rw [← e,← List.getElem?_eq_getElem]
  rw [Array.getElem?_toList,h1] at h2
  exact (Option.some.inj h2).symm
section
variable {prog:Program} {w:World} {A:Around} {s:Shared} {kd:SortKind} {Ok:Keyed→Prop} {blt:Keyed→Keyed→Bool} {E:Value→Shared→Prop} {a₀:Array Keyed} {pend:Array (Nat×Nat×Nat)}
theorem ext_sorted (C:Cmp prog w A s kd Ok blt) {xs:Array Keyed} {a n c d:Nat} (h:a+n≤xs.size) (hs:Asc blt xs c d) (h1:c≤a) (h2:a+n≤d):(xs.extract a (a+n)).toList.Pairwise (le blt):=by
  rw [List.pairwise_iff_getElem]
  intro i j hi hj hij
  rw [Array.length_toList,ext_size h] at hi hj
  have e1:(xs.extract a (a+n)).toList[i]? = some (X xs (a+i)):=by rw [Array.getElem?_toList]; exact ext_at h hi
  have e2:(xs.extract a (a+n)).toList[j]? = some (X xs (a+j)):=by rw [Array.getElem?_toList]; exact ext_at h hj
  obtain ⟨_,f1⟩:=List.getElem?_eq_some_iff.mp e1
  obtain ⟨_,f2⟩:=List.getElem?_eq_some_iff.mp e2
  rw [f1,f2]
  exact hs _ _ (by omega) (by omega) (by omega)
theorem asc_join (C:Cmp prog w A s kd Ok blt) {xs:Array Keyed} {a b c:Nat} (hab:a<b) (h1:Asc blt xs a b) (h2:Asc blt xs b c) (h:le blt (X xs (b - 1)) (X xs b)):Asc blt xs a c:=fun i j i1 i2 j1=>by
  by_cases e1:j<b
  · exact h1 i j i1 i2 e1
  · by_cases e2:b≤i
    · exact h2 i j e2 i2 j1
    · exact C.trans (h1 i (b - 1) i1 (by omega) (by omega)) (C.trans h (h2 b j (Nat.le_refl _) (by omega) j1))
structure Good0 (kd:SortKind) (a₀:Array Keyed) (st:SortSt):Prop where
  kind:kindOf st=kd
  fail:failedOf st=none
  perm:(arrOf st).Perm a₀
theorem Good0.size {st:SortSt} (g:Good0 kd a₀ st):(arrOf st).size=a₀.size:=g.perm.size_eq
theorem Good0.okX {st:SortSt} (g:Good0 kd a₀ st) (h0:∀ x∈a₀.toList,Ok x) {i:Nat} (hi:i<a₀.size):Ok (X (arrOf st) i):=by
  have e:=X_at (xs:=arrOf st) (i:=i) (by rw [g.size]; exact hi)
  exact h0 _ ((Array.perm_iff_toList_perm.mp g.perm).mem_iff.mp (mem_at e))
theorem row_of {st:SortSt} (g:Good0 kd a₀ st) (h0:∀ x∈a₀.toList,Ok x) {b n:Nat} (h:b+n≤a₀.size):Row Ok (arrOf st) b n (fun i=>X (arrOf st) (b+i)) :=
  ⟨fun i hi=>X_at (by rw [g.size]; omega),fun i hi=>g.okX h0 (by omega)⟩
theorem set_ok {st st':SortSt} {Q:Unit→SortSt→Prop} (h:Q () st'):wpS (model prog w) A E s (set st':StateT SortSt Sem Unit) Q st:=by
  unfold wpS
  rw [StateT.run_set]
  exact wpAny_pure ⟨rfl,h⟩
theorem mergeAt_ok (C:Cmp prog w A s kd Ok blt) {st:SortSt} (g:Good0 kd a₀ st) (h0:∀ x∈a₀.toList,Ok x) {i sa na pa sb nb pb:Nat} (hi:(pendingOf st)[i]? = some (sa,na,pa)) (hj:(pendingOf st)[i+1]? = some (sb,nb,pb)) (e1:sb=sa+na) (n1:1≤na) (n2:1≤nb) (hz:sb+nb≤a₀.size) (s1:Asc blt (arrOf st) sa sb) (s2:Asc blt (arrOf st) sb (sb+nb)) {Q:Bool→SortSt→Prop} (h:∀ st',Good0 kd a₀ st'→pendingOf st'=((pendingOf st).setIfInBounds i (sa,na+nb,pa)).eraseIdxIfInBounds (i+1)→Asc blt (arrOf st') sa (sb+nb)→Out (arrOf st) (arrOf st') sa (sb+nb)→Q true st'):wpS (model prog w) A E s (mergeAtP i) Q st:=by
  have hsz:(arrOf st).size=a₀.size:=g.size
  unfold mergeAtP
  refine wpS_bind (wpS_get ?_)
  rw [hi,hj]
  dsimp only
  refine wpS_bind (set_ok ?_)
  refine wpS_bind (elem_ok (X_at (xs:=arrOf st) (i:=sb) (by rw [hsz]; omega)) ?_)
  show wpS (model prog w) A E s _ _ (SortSt.mk' (kindOf st) (arrOf st) (((pendingOf st).setIfInBounds i (sa,na+nb,pa)).eraseIdxIfInBounds (i+1)) (gallopOf st) (failedOf st))
  generalize hst1:SortSt.mk' (kindOf st) (arrOf st) (((pendingOf st).setIfInBounds i (sa,na+nb,pa)).eraseIdxIfInBounds (i+1)) (gallopOf st) (failedOf st)=st1
  have k1:kindOf st1=kd:=by rw [← hst1]; exact g.kind
  have ar1:arrOf st1=arrOf st:=by rw [← hst1]
  have pd1:pendingOf st1=((pendingOf st).setIfInBounds i (sa,na+nb,pa)).eraseIdxIfInBounds (i+1):=by rw [← hst1]
  have fl1:failedOf st1=none:=by rw [← hst1]; exact g.fail
  have g1:Good0 kd a₀ st1:=⟨k1,fl1,by rw [ar1]; exact g.perm⟩
  have same:Good0 kd a₀ st1→Asc blt (arrOf st) sa (sb+nb)→Q true st1:=fun gg as=>h st1 gg pd1 (by rw [ar1]; exact as) (by rw [ar1]; exact Out.refl _ _ _)
  refine wpS_bind (gallop_ok C (hint:=0) (n:=na) (row_of g h0 (b:=sa) (n:=na) (by omega)) (g.okX h0 (i:=sb) (by omega)) k1 (by omega) (fun a c hac hc q1=>?_) fun k kn t1 t2=>?_)
  · simp only [bval,Bool.false_eq_true,if_false,Bool.not_eq_true'] at q1 ⊢
    exact C.trans (s1 _ _ (by omega) (by omega) (by omega)) q1
  dsimp only
  have f1:∀ m,m<k→le blt (X (arrOf st) (sa+m)) (X (arrOf st) sb):=fun m hm=>by
    have:=t1 m hm
    have z:blt (X (arrOf st) sb) (X (arrOf st) (sa+m))=false:=by simpa only [bval,Bool.false_eq_true,if_false,Bool.not_eq_true'] using this
    exact z
  by_cases c1:na - k=0
  · rw [if_pos (by rw [c1]; rfl)]
    refine wpS_pure (same g1 (asc_join C (by omega) s1 s2 ?_))
    have:=f1 (na - 1) (by omega)
    rw [show sa+(na - 1)=sb - 1 by omega] at this
    exact this
  rw [if_neg (fun z=>c1 (eq_of_beq z))]
  have f2:blt (X (arrOf st) sb) (X (arrOf st) (sa+k))=true:=by
    have:=t2 k (Nat.le_refl _) (by omega)
    simpa only [bval,Bool.false_eq_true,if_false,Bool.not_eq_false'] using this
  have el:sa+k+(na - k) - 1=sb - 1:=by omega
  rw [el]
  refine wpS_bind (elem_ok (X_at (xs:=arrOf st) (i:=sb - 1) (by rw [hsz]; omega)) ?_)
  refine wpS_bind (gallop_ok C (hint:=nb - 1) (n:=nb) (row_of g h0 (b:=sb) (n:=nb) (by omega)) (g.okX h0 (i:=sb - 1) (by omega)) k1 (by omega) (fun a c hac hc q1=>?_) fun l ln u1 u2=>?_)
  · simp only [bval,if_true] at q1 ⊢
    exact C.leLt (s2 _ _ (by omega) (by omega) (by omega)) q1
  dsimp only
  have f3:∀ m,m<l→blt (X (arrOf st) (sb+m)) (X (arrOf st) (sb - 1))=true:=fun m hm=>by
    have:=u1 m hm
    simpa only [bval,if_true] using this
  have f4:∀ m,l≤m→m<nb→le blt (X (arrOf st) (sb - 1)) (X (arrOf st) (sb+m)):=fun m h1 h2=>by
    have:=u2 m h1 h2
    have z:blt (X (arrOf st) (sb+m)) (X (arrOf st) (sb - 1))=false:=by simpa only [bval,if_true] using this
    exact z
  by_cases c2:l=0
  · rw [if_pos (by rw [c2]; rfl)]
    subst c2
    exact wpS_pure (same g1 (asc_join C (by omega) s1 s2 (f4 0 (Nat.le_refl _) (by omega))))
  rw [if_neg (fun z=>c2 (eq_of_beq z))]
  have ep:(arrOf st).extract (sa+k) sb=(arrOf st).extract (sa+k) (sa+k+(na - k)):=by rw [show sa+k+(na - k)=sb by omega]
  rw [ep]
  have hp:sa+k+(na - k)≤(arrOf st).size:=by omega
  have hq:sb+l≤(arrOf st).size:=by omega
  have T:Two Ok blt ((arrOf st).extract (sa+k) (sa+k+(na - k))) ((arrOf st).extract sb (sb+l)) (X (arrOf st) (sa+k)) (X (arrOf st) sb) (X (arrOf st) (sb - 1)):=by
    refine ⟨fun x hx=>?_,fun x hx=>?_,ext_sorted C hp s1 (by omega) (by omega),ext_sorted C hq s2 (by omega) (by omega),?_,?_,?_,f2,fun y hy=>?_⟩
    · obtain ⟨m,hm,rfl⟩:=mem_ext hp hx
      exact g.okX h0 (by omega)
    · obtain ⟨m,hm,rfl⟩:=mem_ext hq hx
      exact g.okX h0 (by omega)
    · exact ext_at hp (by omega)
    · exact ext_at hq (by omega)
    · rw [ext_size hp,ext_at hp (by omega),show sa+k+(na - k - 1)=sb - 1 by omega]
    · obtain ⟨m,hm,rfl⟩:=mem_ext hq hy
      exact f3 m hm
  -- behind the merge
  have fin:∀ (r:Array Keyed) (st2:SortSt),Kept st1 st2→Res blt ((arrOf st).extract (sa+k) (sa+k+(na - k))) ((arrOf st).extract sb (sb+l)) r →
      Q (failedOf (setArr st2 (paste (arrOf st2) (sa+k) r.toList.zipIdx))).isNone (setArr st2 (paste (arrOf st2) (sa+k) r.toList.zipIdx)):=by
    intro r st2 kp hr
    have ar2:arrOf st2=arrOf st:=kp.arr.trans ar1
    have fl2:failedOf st2=none:=kp.fail.trans fl1
    have rsz:r.size=na - k+l:=by
      have:=hr.1.length_eq
      rw [List.length_append,Array.length_toList,Array.length_toList,Array.length_toList,ext_size hp,ext_size hq] at this
      exact this
    have seg:((arrOf st).toList.drop (sa+k)).take (na - k+l)=((arrOf st).extract (sa+k) (sa+k+(na - k))).toList++((arrOf st).extract sb (sb+l)).toList:=by
      rw [ext_some,ext_some,List.take_add,List.drop_drop,show sa+k+(na - k)=sb by omega]
    have pa':=paste_at (sa+k) r.toList 0 (arrOf st) (by rw [Array.length_toList]; omega)
    have xat:∀ m,X (paste (arrOf st) (sa+k) r.toList.zipIdx) m=if sa+k≤m∧m<sb+l then X r (m - (sa+k)) else X (arrOf st) m:=fun m=>by
      have:=pa'.2 m
      rw [Array.length_toList,rsz,Nat.add_zero] at this
      by_cases hm:sa+k≤m∧m<sb+l
      · rw [if_pos hm]
        rw [if_pos (by omega)] at this
        refine X_congr (this.trans ?_)
        simp
      · rw [if_neg hm]
        rw [if_neg (by omega)] at this
        exact X_congr this
    -- each thing of the merged is one of the two runs'
    have from2:∀ m,m<na - k+l→(∃ c,sa+k≤c∧c<sb∧X r m=X (arrOf st) c)∨(∃ c,sb≤c∧c<sb+l∧X r m=X (arrOf st) c):=fun m hm=>by
      have hx:=mem_at (X_at (xs:=r) (i:=m) (by omega))
      rcases List.mem_append.mp (hr.1.mem_iff.mp hx) with z | z
      · obtain ⟨c,hc,e⟩:=mem_ext hp z
        exact .inl ⟨sa+k+c,by omega,by omega,e⟩
      · obtain ⟨c,hc,e⟩:=mem_ext hq z
        exact .inr ⟨sb+c,by omega,by omega,e⟩
    have rs:∀ m n,m≤n→n<na - k+l→le blt (X r m) (X r n):=fun m n hmn hn=>sorted_le C hr.2 hmn (at_list (X_at (by omega))) (at_list (X_at (by omega)))
    have e3:failedOf (setArr st2 (paste (arrOf st2) (sa+k) r.toList.zipIdx))=none:=fl2
    rw [e3]
    refine h _ ⟨kp.kind.trans k1,e3,?_⟩ (kp.pend.trans pd1) ?_ ?_
    · show (paste (arrOf st2) (sa+k) r.toList.zipIdx).Perm a₀
      rw [ar2]
      refine (paste_perm (by omega) rsz ?_).trans g.perm
      rw [seg]
      exact hr.1
    · show Asc blt (paste (arrOf st2) (sa+k) r.toList.zipIdx) sa (sb+nb)
      rw [ar2]
      intro c d c1 cd d1
      rw [xat,xat]
      by_cases zc:sa+k≤c∧c<sb+l
      · rw [if_pos zc]
        by_cases zd:sa+k≤d∧d<sb+l
        · rw [if_pos zd]
          exact rs _ _ (by omega) (by omega)
        · rw [if_neg zd]
          rcases from2 (c - (sa+k)) (by omega) with ⟨b,b1,b2,e⟩ | ⟨b,b1,b2,e⟩
          · rw [e]
            refine C.trans (s1 b (sb - 1) (by omega) (by omega) (by omega)) ?_
            have:=f4 (d - sb) (by omega) (by omega)
            rw [show sb+(d - sb)=d by omega] at this
            exact this
          · rw [e]
            exact s2 b d b1 (by omega) (by omega)
      · rw [if_neg zc]
        by_cases zd:sa+k≤d∧d<sb+l
        · rw [if_pos zd]
          rcases from2 (d - (sa+k)) (by omega) with ⟨b,b1,b2,e⟩ | ⟨b,b1,b2,e⟩
          · rw [e]
            exact s1 c b c1 (by omega) b2
          · rw [e]
            have:=f1 (c - sa) (by omega)
            rw [show sa+(c - sa)=c by omega] at this
            exact C.trans this (s2 sb b (Nat.le_refl _) b1 (by omega))
        · rw [if_neg zd]
          by_cases y1:d<sb
          · exact s1 c d c1 cd y1
          · by_cases y2:sb≤c
            · exact s2 c d y2 cd d1
            · have:=f1 (c - sa) (by omega)
              rw [show sa+(c - sa)=c by omega] at this
              exact C.trans this (s2 sb d (Nat.le_refl _) (by omega) d1)
    · show Out (arrOf st) (paste (arrOf st2) (sa+k) r.toList.zipIdx) sa (sb+nb)
      rw [ar2]
      intro m hm
      rw [xat,if_neg (by omega)]
  by_cases c3:na - k≤l
  · rw [if_pos c3]
    refine wpS_bind (mergeLo_ok C T k1 fun r st2 kp hr=>?_)
    exact wpS_bind (wpS_modify (wpS_bind (wpS_get (wpS_pure (fin r st2 kp hr)))))
  · rw [if_neg c3]
    refine wpS_bind (mergeHi_ok C T k1 fun r st2 kp hr=>?_)
    exact wpS_bind (wpS_modify (wpS_bind (wpS_get (wpS_pure (fin r st2 kp hr)))))
end
end Ts
namespace Ts
open PySem PyProof.Rows
def sortRunsP:StateT SortSt Sem Unit:=sortPriv% PySem.Builtin.sortRuns
def Runs (blt:Keyed→Keyed→Bool) (xs:Array Keyed):List (Nat×Nat×Nat)→Nat→Nat→Prop
  | [],a,b=>a=b
  | (s,n,_)::r,a,b=>s=a∧1≤n∧Asc blt xs a (a+n)∧Runs blt xs r (a+n) b
variable {blt:Keyed→Keyed→Bool}
theorem Runs.len {xs:Array Keyed}:∀ {l:List (Nat×Nat×Nat)} {a b:Nat},Runs blt xs l a b→a+l.length≤b
  | [],a,b,h=>by
    have e:a=b:=h
    rw [List.length_nil]
    omega
  | (s,n,p)::r,a,b,h=>by
    have:=Runs.len h.2.2.2
    have:=h.2.1
    rw [List.length_cons]
    omega
theorem Asc.out {xs ys:Array Keyed} {a b c d:Nat} (h:Asc blt xs a b) (o:Out xs ys c d) (e:b≤c∨d≤a):Asc blt ys a b:=fun i j i1 i2 j1=>by
  rw [o i (by omega),o j (by omega)]
  exact h i j i1 i2 j1
theorem Runs.out {xs ys:Array Keyed} {c d:Nat} (o:Out xs ys c d):∀ {l:List (Nat×Nat×Nat)} {a b:Nat},(b≤c∨d≤a)→Runs blt xs l a b→Runs blt ys l a b
  | [],_,_,_,h=>h
  | (s,n,p)::r,a,b,e,h=>by
    have hl:=Runs.len h.2.2.2
    exact ⟨h.1,h.2.1,h.2.2.1.out o (by omega),Runs.out o (by omega) h.2.2.2⟩
theorem Runs.push {xs:Array Keyed} {m q:Nat} (hm:1≤m):∀ {l:List (Nat×Nat×Nat)} {a b:Nat},Runs blt xs l a b→Asc blt xs b (b+m)→Runs blt xs (l++[(b,m,q)]) a (b+m)
  | [],a,b,h,hs=>by
    have e:a=b:=h
    subst e
    exact ⟨rfl,hm,hs,rfl⟩
  | (s,n,p)::r,a,b,h,hs=>⟨h.1,h.2.1,h.2.2.1,Runs.push hm h.2.2.2 hs⟩
theorem Runs.power {xs:Array Keyed} {pw:Nat}:∀ {l:List (Nat×Nat×Nat)} {a b:Nat} (k:Nat),Runs blt xs l a b→Runs blt xs (l.modify k fun x=>(x.1,x.2.1,pw)) a b
  | [],_,_,k,h=>by simpa using h
  | (s,n,p)::r,a,b,0,h=>by
    rw [List.modify_zero_cons]
    exact h
  | (s,n,p)::r,a,b,k+1,h=>by
    rw [List.modify_succ_cons]
    exact ⟨h.1,h.2.1,h.2.2.1,Runs.power k h.2.2.2⟩
theorem Runs.two {xs:Array Keyed}:∀ {l:List (Nat×Nat×Nat)} {a b i sa na pa sb nb pb:Nat},Runs blt xs l a b→l[i]? = some (sa,na,pa)→l[i+1]? = some (sb,nb,pb)→sb=sa+na∧1≤na∧1≤nb∧a≤sa∧sb+nb≤b∧Asc blt xs sa sb∧Asc blt xs sb (sb+nb)
  | [],_,_,_,_,_,_,_,_,_,_,h,_=>by simp at h
  | (s,n,p)::r,a,b,0,sa,na,pa,sb,nb,pb,h,h1,h2=>by
    obtain ⟨e,hn,hs,hr⟩:=h
    have q:s=sa∧n=na∧p=pa:=by simpa using h1
    obtain ⟨q1,q2,q3⟩:=q
    subst q1 q2 q3
    subst e
    cases r with
    | nil=>simp at h2
    | cons y r' =>
      obtain ⟨s',n',p'⟩:=y
      have q':s'=sb∧n'=nb∧p'=pb:=by simpa using h2
      obtain ⟨q1,q2,q3⟩:=q'
      subst q1 q2 q3
      obtain ⟨e',hn',hs',hr'⟩:=hr
      have:=Runs.len hr'
      exact ⟨e',hn,hn',Nat.le_refl _,by omega,by rw [e']; exact hs,by rw [e']; exact hs'⟩
  | (s,n,p)::r,a,b,i+1,sa,na,pa,sb,nb,pb,h,h1,h2=>by
    have:=Runs.two h.2.2.2 (by simpa using h1) (by simpa using h2)
    exact ⟨this.1,this.2.1,this.2.2.1,by have:=this.2.2.2.1; have:=h.2.1; omega,this.2.2.2.2.1,this.2.2.2.2.2⟩
theorem Runs.merge {xs ys:Array Keyed}:∀ {l:List (Nat×Nat×Nat)} {a b i sa na pa sb nb pb:Nat},Runs blt xs l a b→l[i]? = some (sa,na,pa)→l[i+1]? = some (sb,nb,pb)→Out xs ys sa (sb+nb)→Asc blt ys sa (sb+nb)→Runs blt ys ((l.set i (sa,na+nb,pa)).eraseIdx (i+1)) a b
  | [],_,_,_,_,_,_,_,_,_,_,h,_,_,_=>by simp at h
  | (s,n,p)::r,a,b,0,sa,na,pa,sb,nb,pb,h,h1,h2,o,as=>by
    have tw:=Runs.two h h1 h2
    obtain ⟨e,hn,hs,hr⟩:=h
    have q:s=sa∧n=na∧p=pa:=by simpa using h1
    obtain ⟨q1,q2,q3⟩:=q
    subst q1 q2 q3
    subst e
    cases r with
    | nil=>simp at h2
    | cons y r' =>
      obtain ⟨s',n',p'⟩:=y
      have q':s'=sb∧n'=nb∧p'=pb:=by simpa using h2
      obtain ⟨q1,q2,q3⟩:=q'
      subst q1 q2 q3
      obtain ⟨e',hn',hs',hr'⟩:=hr
      rw [List.set_cons_zero,List.eraseIdx_cons_succ,List.eraseIdx_cons_zero]
      refine ⟨rfl,by omega,?_,?_⟩
      · rw [show s+(n+n')=s'+n' by omega]
        exact as
      · rw [show s+(n+n')=s+n+n' by omega]
        exact Runs.out o (.inr (by omega)) hr'
  | (s,n,p)::r,a,b,i+1,sa,na,pa,sb,nb,pb,h,h1,h2,o,as=>by
    have tw:=Runs.two (i:=i) h.2.2.2 (by simpa using h1) (by simpa using h2)
    rw [List.set_cons_succ,List.eraseIdx_cons_succ]
    exact ⟨h.1,h.2.1,h.2.2.1.out o (.inl tw.2.2.2.1),Runs.merge h.2.2.2 (by simpa using h1) (by simpa using h2) o as⟩
theorem pend_list (P:Array (Nat×Nat×Nat)) (i:Nat) (v:Nat×Nat×Nat):((P.setIfInBounds i v).eraseIdxIfInBounds (i+1)).toList=(P.toList.set i v).eraseIdx (i+1):=by
  rw [Array.toList_eraseIdxIfInBounds,Array.toList_setIfInBounds]
section
variable {prog:Program} {w:World} {A:Around} {s:Shared} {kd:SortKind} {Ok:Keyed→Prop} {E:Value→Shared→Prop} {a₀:Array Keyed}
theorem wpS_ite {α:Type} {c:Prop} [Decidable c] {p q:StateT SortSt Sem α} {Q:α→SortSt→Prop} {st:SortSt} (h1:c→wpS (model prog w) A E s p Q st) (h2:¬ c→wpS (model prog w) A E s q Q st):wpS (model prog w) A E s (if c then p else q) Q st:=by
  by_cases h:c
  · rw [if_pos h]; exact h1 h
  · rw [if_neg h]; exact h2 h
theorem step_ok (C:Cmp prog w A s kd Ok blt) {st:SortSt} (g:Good0 kd a₀ st) (h0:∀ x∈a₀.toList,Ok x) {lo i:Nat} (hlo:lo≤a₀.size) (rn:Runs blt (arrOf st) (pendingOf st).toList 0 lo) (hi:i+1<(pendingOf st).size) {Q:Bool→SortSt→Prop} (h:∀ st',Good0 kd a₀ st'→Runs blt (arrOf st') (pendingOf st').toList 0 lo→(pendingOf st').size+1=(pendingOf st).size→(∀ c d,lo≤c→Asc blt (arrOf st) c d→Asc blt (arrOf st') c d)→Q true st'):wpS (model prog w) A E s (mergeAtP i) Q st:=by
  obtain ⟨⟨sa,na,pa⟩,ha⟩ : ∃ x,(pendingOf st)[i]? = some x:=⟨(pendingOf st)[i],by simp⟩
  obtain ⟨⟨sb,nb,pb⟩,hb⟩ : ∃ x,(pendingOf st)[i+1]? = some x:=⟨(pendingOf st)[i+1],by simp⟩
  have la:(pendingOf st).toList[i]? = some (sa,na,pa):=by simpa using ha
  have lb:(pendingOf st).toList[i+1]? = some (sb,nb,pb):=by simpa using hb
  obtain ⟨t1,t2,t3,t4,t5,t6,t7⟩:=rn.two la lb
  refine mergeAt_ok C g h0 ha hb t1 t2 t3 (by omega) t6 t7 fun st' g' pd as ou=>?_
  refine h st' g' ?_ ?_ fun c d hc hs=>hs.out ou (.inr (by omega))
  · rw [pd,pend_list]
    exact rn.merge la lb ou as
  · have : (pendingOf st').toList.length+1=(pendingOf st).toList.length:=by
      rw [pd,pend_list,List.length_eraseIdx,List.length_set,Array.length_toList,if_pos hi]
      omega
    simpa using this
theorem good_of {st:SortSt} (g:Good0 kd a₀ st):Good kd a₀ (pendingOf st) st:=⟨g.kind,g.fail,g.perm,rfl⟩
theorem good0_of {st:SortSt} {p:Array (Nat×Nat×Nat)} (g:Good kd a₀ p st):Good0 kd a₀ st:=⟨g.kind,g.fail,g.perm⟩
theorem runs_sort (C:Cmp prog w A s kd Ok blt) {st:SortSt} (g:Good0 kd a₀ st) (h0:∀ x∈a₀.toList,Ok x) (hp:pendingOf st=#[]) (hz:1≤a₀.size) {Q:Unit→SortSt→Prop} (h:∀ st',Good0 kd a₀ st'→Asc blt (arrOf st') 0 a₀.size→Q () st'):wpS (model prog w) A E s sortRunsP Q st:=by
  unfold sortRunsP
  refine wpS_bind (wpS_get ?_)
  have hsz:(arrOf st).size=a₀.size:=g.size
  dsimp only
  rw [hsz]
  generalize (sortPriv% PySem.Builtin.minRun) a₀.size a₀.size 0=mr
  refine wpS_bind (wpS_mono (wpS_forRange
    (I:=fun x c st'=>∃ lo,c=(none,lo)∧Good0 kd a₀ st'∧Runs blt (arrOf st') (pendingOf st').toList 0 lo∧lo≤a₀.size∧x≤lo)
    (Q:=fun c st'=>c=(none,a₀.size)∧Good0 kd a₀ st'∧Runs blt (arrOf st') (pendingOf st').toList 0 a₀.size) ?_ ?_ ⟨0,rfl,g,by rw [hp]; exact rfl,by omega,by omega⟩) ?_)
  · rintro x c st1 _ hx ⟨lo,rfl,g1,rn,hlo,hxl⟩
    dsimp only
    by_cases hge:lo ≥ a₀.size
    · rw [if_pos hge]
      have e:lo=a₀.size:=by omega
      subst e
      exact wpS_pure ⟨rfl,g1,rn⟩
    rw [if_neg hge]
    refine wpS_bind (count_ok C (good_of g1) h0 (lo:=lo) (b:=a₀.size - lo) (by omega) (by omega) fun m st2 g2 m1 m2 as ou=>?_)
    dsimp only
    have rn2:Runs blt (arrOf st2) (pendingOf st2).toList 0 lo:=by
      rw [g2.pd]
      exact rn.out ou (.inl (Nat.le_refl _))
    have g2':=good0_of g2
    clear rn g1
    refine wpS_ite (fun hmin=>?_) (fun hmin=>?_)
    · refine wpS_bind (rule_ok ?_)
      refine wpS_bind (binary_ok C g2 h0 (lo:=lo) (n:=min (a₀.size - lo) mr) (ok:=m) (by omega) as (by omega) fun st3 g3 as3 ou3=>?_)
      refine wpS_ite (fun z=>absurd z (by decide)) (fun _=>?_)
      have n1:1≤min (a₀.size - lo) mr:=by omega
      have n2:lo+min (a₀.size - lo) mr≤a₀.size:=by omega
      have rn3:Runs blt (arrOf st3) (pendingOf st3).toList 0 lo:=by
        rw [g3.pd,← g2.pd]
        exact rn2.out ou3 (.inl (Nat.le_refl _))
      have g3':=good0_of g3
      generalize min (a₀.size - lo) mr=n at as3 n1 n2
      clear g2 g2' rn2 as ou ou3 g3 m1 m2 hmin
      refine wpS_bind (wpS_get ?_)
      cases hb:(pendingOf st3).back? with
      | none =>
        dsimp only
        refine wpS_bind (wpS_modify ?_)
        refine wpS_pure ⟨lo+n,rfl,⟨g3'.kind,g3'.fail,g3'.perm⟩,?_,n2,by omega⟩
        show Runs blt (arrOf st3) ((pendingOf st3).push (lo,n,0)).toList 0 (lo+n)
        rw [Array.toList_push]
        exact rn3.push n1 as3
      | some y =>
        obtain ⟨s1,l1,p1⟩:=y
        dsimp only
        refine wpS_bind (wpS_mono (wpS_forRange
          (I:=fun _ c st'=>c=(none,())∧Good0 kd a₀ st'∧Runs blt (arrOf st') (pendingOf st').toList 0 lo∧Asc blt (arrOf st') lo (lo+n))
          (Q:=fun c st'=>c=(none,())∧Good0 kd a₀ st'∧Runs blt (arrOf st') (pendingOf st').toList 0 lo∧Asc blt (arrOf st') lo (lo+n)) ?_ (fun _ _ z=>z) ⟨rfl,g3',rn3,as3⟩) ?_)
        · rintro z c st4 _ _ ⟨rfl,g4,rn4,as4⟩
          refine wpS_bind (wpS_get ?_)
          by_cases hs1:(pendingOf st4).size > 1
          · rw [if_pos hs1]
            obtain ⟨⟨a1,b1,older⟩,ho⟩ : ∃ x,(pendingOf st4)[(pendingOf st4).size - 2]? = some x:=⟨(pendingOf st4)[(pendingOf st4).size - 2],by simp⟩
            rw [ho]
            dsimp only
            refine wpS_ite (fun _=>wpS_pure ⟨rfl,g4,rn4,as4⟩) (fun _=>?_)
            refine wpS_bind (step_ok C g4 h0 hlo rn4 (i:=(pendingOf st4).size - 2) (show (pendingOf st4).size - 2+1<(pendingOf st4).size by omega) fun st5 g5 rn5 _ keep=>?_)
            refine wpS_ite (fun z=>absurd z (by decide)) (fun _=>?_)
            exact wpS_pure ⟨rfl,g5,rn5,keep _ _ (Nat.le_refl _) as4⟩
          · rw [if_neg hs1]
            exact wpS_pure ⟨rfl,g4,rn4,as4⟩
        · rintro c st4 ⟨rfl,g4,rn4,as4⟩
          dsimp only
          refine wpS_bind (wpS_modify ?_)
          refine wpS_bind (wpS_modify ?_)
          refine wpS_pure ⟨lo+n,rfl,⟨g4.kind,g4.fail,g4.perm⟩,?_,n2,by omega⟩
          show Runs blt (arrOf st4) (((pendingOf st4).modify ((pendingOf st4).size - 1) _).push (lo,n,0)).toList 0 (lo+n)
          rw [Array.toList_push,Array.toList_modify]
          exact (rn4.power _).push n1 as4
    · have n2:lo+m≤a₀.size:=by omega
      refine wpS_bind (wpS_get ?_)
      cases hb:(pendingOf st2).back? with
      | none =>
        dsimp only
        refine wpS_bind (wpS_modify ?_)
        refine wpS_pure ⟨lo+m,rfl,⟨g2'.kind,g2'.fail,g2'.perm⟩,?_,n2,by omega⟩
        show Runs blt (arrOf st2) ((pendingOf st2).push (lo,m,0)).toList 0 (lo+m)
        rw [Array.toList_push]
        exact rn2.push m1 as
      | some y =>
        obtain ⟨s1,l1,p1⟩:=y
        dsimp only
        refine wpS_bind (wpS_mono (wpS_forRange
          (I:=fun _ c st'=>c=(none,())∧Good0 kd a₀ st'∧Runs blt (arrOf st') (pendingOf st').toList 0 lo∧Asc blt (arrOf st') lo (lo+m))
          (Q:=fun c st'=>c=(none,())∧Good0 kd a₀ st'∧Runs blt (arrOf st') (pendingOf st').toList 0 lo∧Asc blt (arrOf st') lo (lo+m)) ?_ (fun _ _ z=>z) ⟨rfl,g2',rn2,as⟩) ?_)
        · rintro z c st4 _ _ ⟨rfl,g4,rn4,as4⟩
          refine wpS_bind (wpS_get ?_)
          by_cases hs1:(pendingOf st4).size > 1
          · rw [if_pos hs1]
            obtain ⟨⟨a1,b1,older⟩,ho⟩ : ∃ x,(pendingOf st4)[(pendingOf st4).size - 2]? = some x:=⟨(pendingOf st4)[(pendingOf st4).size - 2],by simp⟩
            rw [ho]
            dsimp only
            refine wpS_ite (fun _=>wpS_pure ⟨rfl,g4,rn4,as4⟩) (fun _=>?_)
            refine wpS_bind (step_ok C g4 h0 hlo rn4 (i:=(pendingOf st4).size - 2) (show (pendingOf st4).size - 2+1<(pendingOf st4).size by omega) fun st5 g5 rn5 _ keep=>?_)
            refine wpS_ite (fun z=>absurd z (by decide)) (fun _=>?_)
            exact wpS_pure ⟨rfl,g5,rn5,keep _ _ (Nat.le_refl _) as4⟩
          · rw [if_neg hs1]
            exact wpS_pure ⟨rfl,g4,rn4,as4⟩
        · rintro c st4 ⟨rfl,g4,rn4,as4⟩
          dsimp only
          refine wpS_bind (wpS_modify ?_)
          refine wpS_bind (wpS_modify ?_)
          refine wpS_pure ⟨lo+m,rfl,⟨g4.kind,g4.fail,g4.perm⟩,?_,n2,by omega⟩
          show Runs blt (arrOf st4) (((pendingOf st4).modify ((pendingOf st4).size - 1) _).push (lo,m,0)).toList 0 (lo+m)
          rw [Array.toList_push,Array.toList_modify]
          exact (rn4.power _).push m1 as4
  · rintro c st1 ⟨lo,rfl,g1,rn,hlo,hxl⟩
    have : max 0 a₀.size=a₀.size:=by omega
    rw [this] at hxl
    have e:lo=a₀.size:=by omega
    subst e
    exact ⟨rfl,g1,rn⟩
  · rintro c st1 ⟨rfl,g1,rn⟩
    dsimp only
    have len0:=Runs.len rn
    rw [Array.length_toList] at len0
    refine wpS_bind (wpS_mono (wpS_forRange
      (I:=fun x c st'=>c=(none,())∧Good0 kd a₀ st'∧Runs blt (arrOf st') (pendingOf st').toList 0 a₀.size∧((pendingOf st').size≤1∨(pendingOf st').size+x≤a₀.size))
      (Q:=fun c st'=>c=(none,())∧Good0 kd a₀ st'∧Runs blt (arrOf st') (pendingOf st').toList 0 a₀.size∧(pendingOf st').size≤1) ?_ ?_ ⟨rfl,g1,rn,.inr (by omega)⟩) ?_)
    · rintro x c st2 _ hx ⟨rfl,g2,rn2,hs⟩
      refine wpS_bind (wpS_get ?_)
      refine wpS_ite (fun h1=>wpS_pure ⟨rfl,g2,rn2,h1⟩) (fun h1=>?_)
      have h1':¬ (pendingOf st2).size≤1:=h1
      generalize hB:Option.any _ _=bb
      have key:∀ i,i+1<(pendingOf st2).size→wpS (model prog w) A E s (mergeAtP i) (fun r st3=>r=true∧Good0 kd a₀ st3∧Runs blt (arrOf st3) (pendingOf st3).toList 0 a₀.size∧(pendingOf st3).size+1=(pendingOf st2).size) st2 :=
        fun i hi=>step_ok C g2 h0 (Nat.le_refl _) rn2 hi fun st3 g3 rn3 sz _=>⟨rfl,g3,rn3,sz⟩
      refine wpS_bind (wpS_mono (key _ ?_) fun r st3 ⟨er,g3,rn3,sz⟩=>?_)
      · cases bb with
        | true=>show (pendingOf st2).size - 2 - 1+1<(pendingOf st2).size; omega
        | false=>show (pendingOf st2).size - 2+1<(pendingOf st2).size; omega
      subst er
      refine wpS_ite (fun z=>absurd z (by decide)) (fun _=>?_)
      exact wpS_pure ⟨rfl,g3,rn3,.inr (by omega)⟩
    · rintro c st2 ⟨rfl,g2,rn2,hs⟩
      have : max 0 a₀.size=a₀.size:=by omega
      rw [this] at hs
      exact ⟨rfl,g2,rn2,by omega⟩
    · rintro c st2 ⟨rfl,g2,rn2,hs⟩
      dsimp only
      refine wpS_pure (h st2 g2 ?_)
      generalize hl:(pendingOf st2).toList=l at rn2
      have hll:l.length≤1:=by rw [← hl,Array.length_toList]; exact hs
      match l,rn2,hll with
      | [],rn2,_ =>
        have e:0=a₀.size:=rn2
        omega
      | [(s1,n1,p1)],rn2,_ =>
        obtain ⟨_,_,as,e⟩:=rn2
        have e':0+n1=a₀.size:=e
        rw [e'] at as
        exact as
end
end Ts
namespace Ts
open PySem PyProof.Rows L2
theorem lex_irr:∀ l:List Int,HT.lexLt l l=false
  | []=>rfl
  | x::r=>by rw [HT.lexLt_cons,if_pos rfl]; exact lex_irr r
theorem lex_tr:∀ {a b c:List Int},HT.lexLt a b=true→HT.lexLt b c=true→HT.lexLt a c=true
  | [],[],_,h,_=>by rw [HT.lexLt_nil_nil] at h; cases h
  | [],_::_,[],_,h=>by rw [HT.lexLt_cons_nil] at h; cases h
  | [],_::_,_::_,_,_=>HT.lexLt_nil_cons _ _
  | _::_,[],_,h,_=>by rw [HT.lexLt_cons_nil] at h; cases h
  | _::_,_::_,[],_,h=>by rw [HT.lexLt_cons_nil] at h; cases h
  | x::a,y::b,z::c,h1,h2=>by
    rw [HT.lexLt_cons] at h1 h2 ⊢
    by_cases e1:x=y
    · subst e1
      rw [if_pos rfl] at h1
      by_cases e2:x=z
      · subst e2
        rw [if_pos rfl] at h2 ⊢
        exact lex_tr h1 h2
      · rw [if_neg e2] at h2 ⊢
        exact h2
    · rw [if_neg e1] at h1
      have l1:x<y:=of_decide_eq_true h1
      by_cases e2:y=z
      · subst e2
        rw [if_neg e1]
        exact h1
      · rw [if_neg e2] at h2
        have l2:y<z:=of_decide_eq_true h2
        rw [if_neg (by omega)]
        exact decide_eq_true (by omega)
theorem lex_tot:∀ {a b:List Int},HT.lexLt a b=false→HT.lexLt b a=false→a=b
  | [],[],_,_=>rfl
  | [],_::_,h,_=>by rw [HT.lexLt_nil_cons] at h; cases h
  | _::_,[],_,h=>by rw [HT.lexLt_nil_cons] at h; cases h
  | x::a,y::b,h1,h2=>by
    rw [HT.lexLt_cons] at h1 h2
    by_cases e:x=y
    · subst e
      rw [if_pos rfl] at h1 h2
      rw [lex_tot h1 h2]
    · rw [if_neg e] at h1
      rw [if_neg (Ne.symm e)] at h2
      have l1:=of_decide_eq_false h1
      have l2:=of_decide_eq_false h2
      omega
theorem lex_neg {a b c:List Int} (h:HT.lexLt a c=true):HT.lexLt a b=true∨HT.lexLt b c=true:=by
  cases h1:HT.lexLt a b with
  | true=>exact .inl rfl
  | false =>
    cases h2:HT.lexLt b a with
    | true=>exact .inr (lex_tr h2 h)
    | false =>
      rw [← lex_tot h1 h2]
      exact .inr h
def kof (c:Addr→List Int) (x:Keyed):List Int:=match x.1 with
  | .ref a=>c a
  | _=>[]
def tlt (c:Addr→List Int) (x y:Keyed):Bool:=HT.lexLt (kof c x) (kof c y)
def Held (c:Addr→List Int) (rs:List Addr) (h:Heap):Prop:=∀ r∈rs,∃ its:List Value,IntsAre its (c r)∧IsTup h r its.toArray
section
variable {prog:Program} {w:World} {A:Around} {E:Value→Shared→Prop} {s:Shared} {c:Addr→List Int} {rs:List Addr}
theorem oneLt_tup (hH:Held c rs s.heap) (hu:A.units<cLine) {a b:Addr} (ha:a∈rs) (hb:b∈rs) {Q:Bool→Shared→Prop} (h:Q (HT.lexLt (c a) (c b)) s):wpAny (model prog w) A (oneLt' true (.ref a) (.ref b)) Q E s:=by
  obtain ⟨i1,t1,⟨c1,d1,dt1,sl1⟩,g1,k1,n1,e1⟩:=hH a ha
  obtain ⟨i2,t2,⟨c2,d2,dt2,sl2⟩,g2,k2,n2,e2⟩:=hH b hb
  simp only at k1 e1 k2 e2
  subst k1 e1 k2 e2
  rw [oneLt'_eq]
  simp only [if_true]
  refine wpAny_bind (wpAny_cRoomFor hu (wpAny_bind (wpAny_callSpecialIfBound?_slot ⟨_,g1,rfl⟩ PySem.F.slot_tuple_lt ?_)))
  refine call_meets PySem.F.slot_tuple_lt ⟨_,g1,rfl⟩ PySem.F.entry_tuple_lt (PySem.F.args_tuple_lt_2 _ _) (HT.tuple_lt_ints a b _ _ n1 n2 d1 d2 sl1 sl2 (c a) (c b) (by simpa using t1) (by simpa using t2)) ⟨g1,g2,?_⟩
  exact wpAny_truthy_bool h
theorem cmp_tup (hH:Held c rs s.heap) (hu:A.units<cLine):Cmp prog w A s oneType' (fun x=>∃ r∈rs,x.1=.ref r) (tlt c) where
  run:=fun x y Q E ⟨r,hr,ex⟩ ⟨r',hr',ey⟩ h=>by
    obtain ⟨x1,x2⟩:=x
    obtain ⟨y1,y2⟩:=y
    simp only at ex ey
    subst ex ey
    rw [keyLt'_oneType]
    exact oneLt_tup hH hu hr hr' h
  irr:=fun x=>lex_irr _
  tr:=fun x y z h1 h2=>lex_tr h1 h2
  neg:=fun x y z h=>lex_neg h
theorem firsts_tup:∀ {l:List Addr} {Q:List (Option Value)→Shared→Prop},(∀ r∈l,∃ its:List Value,IntsAre its (c r)∧IsTup s.heap r its.toArray)→(∀ fs:List (Option Value),fs.length=l.length→(∀ (i:Nat) (r:Addr),l[i]? = some r→∃ f,fs[i]? = some f∧(f.isSome=true↔c r≠[]))→Q fs s)→wpAny (model prog w) A ((l.map Value.ref).mapM firstOfTuple') Q E s
  | [],Q,_,h=>by
    rw [List.map_nil,List.mapM_nil]
    exact wpAny_pure (h [] rfl fun i r e=>by simp at e)
  | r::l,Q,hH,h=>by
    obtain ⟨its,ti,o,g,k,n,e⟩:=hH r List.mem_cons_self
    rw [List.map_cons,List.mapM_cons]
    have one:∀ {R:Option Value→Shared→Prop},R its.toArray[0]? s→wpAny (model prog w) A (firstOfTuple' (.ref r)) R E s:=fun {R} hR=>by
      unfold firstOfTuple'
      refine wpAny_bind (wpAny_typeOf (T := "tuple") ⟨o,g,k⟩ ?_)
      rw [if_neg (by simp)]
      exact wpAny_bind (listItems_at g e (wpAny_pure hR))
    refine wpAny_bind (one (wpAny_bind (firsts_tup (fun r' hr'=>hH r' (List.mem_cons_of_mem _ hr')) fun fs hl hf=>wpAny_pure (h _ (by rw [List.length_cons,List.length_cons,hl]) fun i r' er=>?_))))
    cases i with
    | zero =>
      have e':r=r':=by simpa using er
      subst e'
      refine ⟨_,rfl,?_⟩
      have hlen:=ti.length
      cases its with
      | nil =>
        cases hc:c r with
        | nil=>simp
        | cons _ _=>rw [hc] at hlen; simp at hlen
      | cons a b =>
        cases hc:c r with
        | nil=>rw [hc] at hlen; simp at hlen
        | cons _ _=>simp
    | succ i =>
      obtain ⟨f,h1,h2⟩:=hf i r' (by simpa using er)
      exact ⟨f,by simpa using h1,h2⟩
theorem types_tup:∀ {l:List Addr} {Q:List Value→Shared→Prop},(∀ r∈l,∃ its:List Value,IntsAre its (c r)∧IsTup s.heap r its.toArray)→Q (l.map fun _=>Value.type "tuple") s→wpAny (model prog w) A ((l.map Value.ref).mapM typeOf) Q E s
  | [],Q,_,h=>by
    rw [List.map_nil,List.mapM_nil]
    exact wpAny_pure h
  | r::l,Q,hH,h=>by
    obtain ⟨its,ti,o,g,k,n,e⟩:=hH r List.mem_cons_self
    rw [List.map_cons,List.mapM_cons]
    exact wpAny_bind (wpAny_typeOf (T := "tuple") ⟨o,g,k⟩ (wpAny_bind (types_tup (fun r' hr'=>hH r' (List.mem_cons_of_mem _ hr')) (wpAny_pure h))))
theorem kind_tup {r:Addr} {l:List Addr} (hH:Held c (r::l) s.heap) (h0:c r=[]) {Q:SortKind→Shared→Prop} (h:Q oneType' s):wpAny (model prog w) A (keyKind' ((r::l).map Value.ref).toArray) Q E s:=by
  rw [keyKind'_eq,List.mapM_toArray]
  refine wpAny_bind ?_
  show wpAny (model prog w) A (List.toArray <$> ((r::l).map Value.ref).mapM firstOfTuple') _ E s
  rw [map_eq_pure_bind]
  refine wpAny_bind (firsts_tup hH fun fs hl hf=>wpAny_pure ?_)
  obtain ⟨f,h1,h2⟩:=hf 0 r rfl
  have fn:f=none:=by
    cases f with
    | none=>rfl
    | some v=>exact absurd h0 (h2.mp rfl)
  subst fn
  have na:¬ (fs.toArray.all fun x=>x.isSome)=true:=by
    intro z
    have:=Array.all_eq_true'.mp z none (by
      have:=List.mem_of_getElem? h1
      simpa using this)
    simp at this
  have n0:¬ (fs.toArray[0]?.bind id).isSome=true:=by
    rw [List.getElem?_toArray,h1]
    simp
  rw [if_neg na,if_neg n0,oneTypeOnly'_eq,List.mapM_toArray]
  refine wpAny_bind (wpAny_bind ?_)
  show wpAny (model prog w) A (List.toArray <$> ((r::l).map Value.ref).mapM typeOf) _ E s
  rw [map_eq_pure_bind]
  refine wpAny_bind (types_tup hH (wpAny_pure ?_))
  have e0:((r::l).map fun _=>Value.type "tuple").toArray[0]? = some (Value.type "tuple"):=by simp
  have ea:(((r::l).map fun _=>Value.type "tuple").toArray.all fun x=>x == Value.type "tuple")=true:=by
    simp only [List.all_toArray,List.all_map,List.all_eq_true]
    intro _ _
    rfl
  rw [e0]
  dsimp only
  rw [ea,if_pos rfl]
  exact wpAny_pure (wpAny_pure h)
end
end Ts
namespace Ts
open PySem PyProof.Rows L2
theorem refs_vals:∀ {rs:List Addr} {us:List Value},Vals (rs.map V.ref) us→us=rs.map Value.ref
  | [],_,r=>by cases r; rfl
  | a::l,_,r=>by
    rw [List.map_cons] at r
    cases r with
    | cons r1 r2 =>
      cases r1
      rw [refs_vals r2]
      rfl
theorem vals_refs:∀ rs:List Addr,Vals (rs.map V.ref) (rs.map Value.ref)
  | []=>.nil
  | _::l=>.cons rfl (vals_refs l)
section
variable {prog:Program} {w:World} {A:Around} {E:Value→Shared→Prop} {s:Shared} {c:Addr→List Int} {rs:List Addr}
theorem sortedAll_keeps {h:Heap} {vs:List Value} {out:Array Value} {b:Addr} {o:Obj} (e:h.get? b=some o):(sortedAll h vs out).get? b=some o:=by
  have lt:=Heap.lt_size e
  unfold sortedAll sortedHeap
  have z1:((h.push (seqObj "list" #[] 0)).update h.objs.size (Obj.mapSeq (·++vs.toArray))).objs.size=h.objs.size+1:=by rw [Heap.size_update,size_push']
  have n1:b≠h.objs.size+1:=Nat.ne_of_lt (Nat.lt_succ_of_lt lt)
  refine ((Heap.SameBut.update _ _ _).2 b n1).trans (Heap.get?_push_of_some _ (Heap.get?_push_of_some _ (((Heap.SameBut.update _ _ _).2 b n1).trans (Heap.get?_push_of_some _ ?_))))
  exact ((Heap.SameBut.update _ _ _).2 b (Nat.ne_of_lt lt)).trans (Heap.get?_push_of_some _ e)
theorem sortedAll_new {h:Heap} {vs:List Value} {out:Array Value}:∃ n,(sortedAll h vs out).get? (h.objs.size+1)=some (seqObj "list" out n):=by
  unfold sortedAll sortedHeap
  have z1:((h.push (seqObj "list" #[] 0)).update h.objs.size (Obj.mapSeq (·++vs.toArray))).objs.size=h.objs.size+1:=by rw [Heap.size_update,size_push']
  have g1:(((h.push (seqObj "list" #[] 0)).update h.objs.size (Obj.mapSeq (·++vs.toArray))).push (seqObj "list" vs.toArray 0)).get? (h.objs.size+1)=some (seqObj "list" vs.toArray 0):=by
    rw [← z1]
    exact Heap.get?_push_size _ rfl
  have g2:=get?_update_seq g1 (fun _=>#[])
  have g3:=Heap.get?_push_of_some (seqObj "list" #[] 0) (Heap.get?_push_of_some (seqObj "tuple" vs.toArray 0) g2)
  exact ⟨_,get?_update_seq g3 (fun _=>out)⟩
end
end Ts
namespace Ts
open PySem PyProof.Rows L2
def kofG {κ:Type} (c:Addr→κ) (d0:κ) (x:Keyed):κ:=match x.1 with
  | .ref a=>c a
  | _=>d0
def kLt {κ:Type} (c:Addr→κ) (d0:κ) (lt_:κ→κ→Bool) (x y:Keyed):Bool:=lt_ (kofG c d0 x) (kofG c d0 y)
def Kinded {κ:Type} (prog:Program) (w:World) (A:Around) (s:Shared) (rs:List Addr) (c:Addr→κ) (d0:κ) (lt_:κ→κ→Bool):Prop :=
  ∃ kd,(∀ (R:SortKind→Shared→Prop) (E:Value→Shared→Prop),R kd s→wpAny (model prog w) A (keyKind' (rs.map Value.ref).toArray) R E s)∧Cmp prog w A s kd (fun x=>∃ r∈rs,x.1=.ref r) (kLt c d0 lt_)
section
variable {prog:Program} {w:World} {A:Around} {E:Value→Shared→Prop} {s:Shared} {κ:Type} {c:Addr→κ} {d0:κ} {lt_:κ→κ→Bool} {rs:List Addr}
theorem sort_listG {a:Addr} {n:Nat} {P:Fin→Shared→Prop} (hl:s.heap.get? a=some (seqObj "list" (rs.map Value.ref).toArray n)) (hC:∀ h':Heap,(∀ b o,b≠a→s.heap.get? b=some o→h'.get? b=some o)→2≤rs.length→Kinded prog w A { s with heap:=h' } rs c d0 lt_) (hz:rs.length≤sizeLine) (h:∀ rs':List Addr,rs'.Perm rs→rs'.Pairwise (fun x y=>lt_ (c y) (c x)=false)→P (.done (.ret .none)) { s with heap:=sortedHeap s.heap a (rs.map Value.ref) (rs'.map Value.ref).toArray }):wpAny (model prog w) A (Builtin.«list.sort» ⟨[.ref a],[]⟩) P E s:=by
  have lt:=Heap.lt_size hl
  have hsz:(rs.map Value.ref).toArray.size=rs.length:=by simp
  rw [list_sort_plain]
  refine wpAny_bind (listItems_at hl rfl (wpAny_bind (listUpdate_at hl rfl ?_ (by rw [hsz]; exact hz))))
  obtain ⟨ep,hl1⟩ : ∃ ep,(s.heap.update a (Obj.mapSeq fun _=>#[])).get? a=some (seqObj "list" #[] ep):=⟨_,get?_update_seq hl (fun _=>#[])⟩
  refine wpAny_bind (seqEpoch_at hl1 rfl (wpAny_bind (wpAny_newTuple (wpAny_bind (wpAny_newList (wpAny_holding ?_)) ))))
  have hl2:(((s.heap.update a (Obj.mapSeq fun _=>#[])).push (seqObj "tuple" (rs.map Value.ref).toArray 0)).push (seqObj "list" #[] 0)).get? a=some (seqObj "list" #[] ep):=by
    rw [Heap.get?_push_ne _ _ _ (by rw [size_push',Heap.size_update]; exact Nat.ne_of_lt (Nat.lt_succ_of_lt lt)),
      Heap.get?_push_ne _ _ _ (by rw [Heap.size_update]; exact Nat.ne_of_lt lt)]
    exact hl1
  have kept:∀ b o,b≠a→s.heap.get? b=some o→(((s.heap.update a (Obj.mapSeq fun _=>#[])).push (seqObj "tuple" (rs.map Value.ref).toArray 0)).push (seqObj "list" #[] 0)).get? b=some o:=fun b o hb e=>by
    refine Heap.get?_push_of_some _ (Heap.get?_push_of_some _ ?_)
    exact ((Heap.SameBut.update s.heap a _).2 b hb).trans e
  show wpAny (model prog w) A _ P E { s with heap:=((s.heap.update a (Obj.mapSeq fun _=>#[])).push (seqObj "tuple" (rs.map Value.ref).toArray 0)).push (seqObj "list" #[] 0) }
  dsimp only
  -- what is left behind the runs
  have fin:∀ (out:Array Value) (rs':List Addr),out=(rs'.map Value.ref).toArray→rs'.Perm rs→rs'.Pairwise (fun x y=>lt_ (c y) (c x)=false) →
      P (.done (.ret .none)) { s with heap:=sortedHeap s.heap a (rs.map Value.ref) out }:=fun out rs' e p1 p2=>by rw [e]; exact h rs' p1 p2
  by_cases h2:(rs.map Value.ref).toArray.size<2
  · rw [if_pos h2,if_pos h2]
    refine wpAny_bind (wpAny_pure ?_)
    rw [StateT.run_pure]
    refine wpAny_bind (wpAny_pure (wpAny_bind (seqEpoch_at hl2 rfl (wpAny_bind (listUpdate_at hl2 rfl ?_ (by simp) ?_)))))
    · simp only [bne_self_eq_false,Bool.false_eq_true,if_false]
      refine wpAny_pure (fin _ rs ?_ (List.Perm.refl _) ?_)
      · show Array.map (fun x=>x.2) ((rs.map Value.ref).toArray.zip (rs.map Value.ref).toArray)=_
        apply Array.ext'
        simp [List.map_snd_zip]
      · rw [hsz] at h2
        match rs,h2 with
        | [],_=>exact List.Pairwise.nil
        | [_],_=>exact List.pairwise_singleton _ _
        | _::_::_,h2=>simp only [List.length_cons] at h2; omega
    · show (Array.map (fun x:Keyed=>x.2) ((rs.map Value.ref).toArray.zip (rs.map Value.ref).toArray)).size≤sizeLine+1
      rw [Array.size_map,Array.size_zip,hsz]
      omega
  · rw [if_neg h2,if_neg h2]
    rw [hsz] at h2
    obtain ⟨kd,hk,C⟩:=hC (((s.heap.update a (Obj.mapSeq fun _=>#[])).push (seqObj "tuple" (rs.map Value.ref).toArray 0)).push (seqObj "list" #[] 0)) kept (by omega)
    refine wpAny_bind (hk _ _ ?_)
    have a0:(pairsOf (rs.map Value.ref)).size=rs.length:=by rw [pairsOf_size,List.length_map]
    refine wpAny_bind (wpAny_mono (runs_sort C (a₀:=pairsOf (rs.map Value.ref)) (st:=SortSt.mk' kd ((rs.map Value.ref).toArray.zip (rs.map Value.ref).toArray) #[] 7 none) (E:=E)
      (Q:=fun _ st'=>Good0 kd (pairsOf (rs.map Value.ref)) st'∧Asc (kLt c d0 lt_) (arrOf st') 0 (pairsOf (rs.map Value.ref)).size)
      ⟨rfl,rfl,Array.Perm.refl _⟩ (fun x hx=>?_) rfl (by rw [a0]; omega) fun st' g as=>⟨g,as⟩) ?_ fun _ _ z=>z)
    · rw [pairsOf_toList] at hx
      obtain ⟨_,hm⟩:=mem_zip_self hx
      obtain ⟨r,hr,e⟩:=List.mem_map.mp hm
      exact ⟨r,hr,e.symm⟩
    · rintro ⟨⟨⟩,st'⟩ s' ⟨rfl,g,as⟩
      dsimp only
      -- the things of the new order
      have pl:(arrOf st').toList.Perm ((rs.map Value.ref).zip (rs.map Value.ref)):=by rw [← pairsOf_toList]; exact Array.perm_iff_toList_perm.mp g.perm
      have each:∀ x∈(arrOf st').toList,∃ r∈rs,x=(Value.ref r,Value.ref r):=fun x hx=>by
        obtain ⟨e,hm⟩:=mem_zip_self (pl.mem_iff.mp hx)
        obtain ⟨r,hr,e2⟩:=List.mem_map.mp hm
        refine ⟨r,hr,?_⟩
        obtain ⟨x1,x2⟩:=x
        simp only at e e2
        rw [← e,e2]
      have ex:∀ l:List Keyed,(∀ x∈l,∃ r∈rs,x=(Value.ref r,Value.ref r))→∃ rs':List Addr,l=rs'.map fun r=>(Value.ref r,Value.ref r):=by
        intro l
        induction l with
        | nil=>intro _; exact ⟨[],rfl⟩
        | cons x l ih =>
          intro hx
          obtain ⟨r,_,e⟩:=hx x List.mem_cons_self
          obtain ⟨rs',e'⟩:=ih fun y hy=>hx y (List.mem_cons_of_mem _ hy)
          exact ⟨r::rs',by rw [List.map_cons,e,e']⟩
      obtain ⟨rs',ers⟩:=ex _ each
      have zz:(rs.map Value.ref).zip (rs.map Value.ref)=rs.map fun r=>(Value.ref r,Value.ref r):=by
        rw [List.zip_map',]
      rw [ers,zz] at pl
      have inj:∀ x:Keyed,∃ a:Addr,True:=fun _=>⟨0,trivial⟩
      have pr:rs'.Perm rs:=by
        have:=pl.map (fun x:Keyed=>match x.1 with | .ref a=>a | _=>0)
        rw [List.map_map,List.map_map] at this
        simpa [Function.comp_def] using this
      have so:rs'.Pairwise (fun x y=>lt_ (c y) (c x)=false):=by
        rw [List.pairwise_iff_getElem]
        intro i j hi hj hij
        have ls:(arrOf st').size=rs'.length:=by
          have:=congrArg List.length ers
          rw [Array.length_toList,List.length_map] at this
          exact this
        have xe:∀ k (hk:k<rs'.length),X (arrOf st') k=(Value.ref rs'[k],Value.ref rs'[k]):=fun k hk=>by
          have e1:=at_list (X_at (xs:=arrOf st') (i:=k) (by omega))
          rw [ers,List.getElem?_map,List.getElem?_eq_getElem hk] at e1
          exact (Option.some.inj e1).symm
        have:=as i j (Nat.zero_le _) (by omega) (by rw [a0,← pr.length_eq]; exact hj)
        rw [xe i hi,xe j hj] at this
        exact this
      refine wpAny_bind (seqEpoch_at hl2 rfl (wpAny_bind (listUpdate_at hl2 rfl ?_ (by simp) ?_)))
      · have fl:failedOf st'=none:=g.fail
        rw [fl]
        simp only [bne_self_eq_false,Bool.false_eq_true,if_false]
        refine wpAny_pure (fin _ rs' ?_ pr so)
        apply Array.ext'
        rw [Array.toList_map,ers,List.map_map]
        rfl
      · show (Array.map (fun x:Keyed=>x.2) (arrOf st')).size≤sizeLine+1
        rw [Array.size_map,g.size,a0]
        omega
theorem sorted_callG {l:Addr} {Q:Value→Shared→Prop} (hl:s.heap.IsList l (rs.map Value.ref).toArray) (hC:∀ (A':Around) (h':Heap),A'.units≤A.units+2→A'.handled=A.handled→(∀ b o,s.heap.get? b=some o→h'.get? b=some o)→2≤rs.length→Kinded prog w A' { s with heap:=h' } rs c d0 lt_) (hz:rs.length≤sizeLine) (h:∀ rs':List Addr,rs'.Perm rs→rs'.Pairwise (fun x y=>lt_ (c y) (c x)=false)→Q (.ref (s.heap.objs.size+1)) { s with heap:=sortedAll s.heap (rs.map Value.ref) (rs'.map Value.ref).toArray }):wpAny (model prog w) A (call (.builtin "sorted") [.ref l]) Q E s:=by
  refine Calls.call_function_entry (by exact kind_sorted) plain_sorted entry_sorted (args_sorted1 _) ?_
  unfold Builtin.«sorted»
  refine wpAny_bind (m:=checkCount "sorted" 1 1 _) (wpAny_pure (wpAny_bind (collect_list hl (wpAny_bind (wpAny_newList ?_)) (by rw [List.length_map]; exact hz))))
  have z1:((s.heap.push (seqObj "list" #[] 0)).update s.heap.objs.size (Obj.mapSeq (·++(rs.map Value.ref).toArray))).objs.size=s.heap.objs.size+1:=by rw [Heap.size_update,size_push']
  have g1:(((s.heap.push (seqObj "list" #[] 0)).update s.heap.objs.size (Obj.mapSeq (·++(rs.map Value.ref).toArray))).push (seqObj "list" (rs.map Value.ref).toArray 0)).get? (s.heap.objs.size+1)=some (seqObj "list" (rs.map Value.ref).toArray 0):=by
    rw [← z1]
    exact Heap.get?_push_size _ rfl
  have kept:∀ b o,s.heap.get? b=some o→(((s.heap.push (seqObj "list" #[] 0)).update s.heap.objs.size (Obj.mapSeq (·++(rs.map Value.ref).toArray))).push (seqObj "list" (rs.map Value.ref).toArray 0)).get? b=some o:=fun b o e=>by
    refine Heap.get?_push_of_some _ (((Heap.SameBut.update _ _ _).2 b (Nat.ne_of_lt (Heap.lt_size e))).trans (Heap.get?_push_of_some _ e))
  show wpAny _ _ _ _ _ { s with heap:=((s.heap.push (seqObj "list" #[] 0)).update s.heap.objs.size (Obj.mapSeq (·++(rs.map Value.ref).toArray))).push (seqObj "list" (rs.map Value.ref).toArray 0) }
  rw [z1]
  refine wpAny_bind (wpAny_holding (wpAny_call_entry slot_list_sort ⟨_,g1,rfl⟩ entry_list_sort (sort_listG g1 (fun h' hk h2=>hC _ h' ?_ ?_ (fun b o e=>hk b o (Nat.ne_of_lt (Nat.lt_succ_of_lt (Heap.lt_size e))) (kept b o e)) h2) hz fun rs' p1 p2=>⟨_,rfl,?_⟩) (args_list_sort _)))
  · first | exact Nat.le_refl _ | (show A.units+1≤A.units+2; omega) | (show A.units≤A.units+2; omega)
  · rfl
  · exact wpAny_pure ⟨_,rfl,h rs' p1 p2⟩
end
section
variable {prog:Program} {w:World} {A:Around} {E:Value→Shared→Prop} {s:Shared} {c:Addr→List Int} {rs:List Addr}
theorem one_int {b:Bool} {x y:Int} {t u:Tok} {Q:Bool→Shared→Prop} (h:Q (decide (x<y)) s):wpAny (model prog w) A (oneLt' b (.int x t) (.int y u)) Q E s:=by
  cases b with
  | true=>exact oneLt_int h
  | false=>exact PySem.W.kat_one _ _ (lt_int h)
theorem lex_ints {b:Bool} {Q:Bool→Shared→Prop}:∀ {xs ys:List Value} {ns ms:List Int} (i:Nat),IntsAre xs ns→IntsAre ys ms→Q (HT.lexLt ns ms) s→PySem.W.KatLex prog w A b (decide (xs.length<ys.length)) Q (xs.zip ys) i s
  | _,_,_,_,i,.nil,.nil,h=>h
  | _,_,_,_,i,.nil,.cons m u k,h=>h
  | _,_,_,_,i,.cons n t k,.nil,h=>h
  | _,_,_,_,i,.cons (vs:=xs) n t k,.cons (vs:=ys) m u k2,h=>by
    rw [List.zip_cons_cons]
    refine PySem.W.kat_cons (wpAny_eqBool_int ?_)
    rw [HT.lexLt_cons] at h
    cases hnm:(n == m) with
    | true =>
      have e:n=m:=by simpa using hnm
      rw [if_pos e] at h
      refine PySem.W.kat_yes ?_
      have : decide ((Value.int n t::xs).length<(Value.int m u::ys).length)=decide (xs.length<ys.length):=by simp
      rw [this]
      exact lex_ints (i+1) k k2 h
    | false =>
      have e:¬ n=m:=by simpa using hnm
      rw [if_neg e] at h
      exact PySem.W.kat_no (one_int h)
theorem katTups_of:∀ {l:List Addr},(∀ r∈l,∃ its:List Value,IntsAre its (c r)∧IsTup s.heap r its.toArray)→(∀ r∈l,c r≠[])→∃ fs:List Value,PySem.W.KatTups s.heap (l.map Value.ref) fs∧fs.length=l.length∧∀ v∈fs,∃ i t,v=.int i t
  | [],_,_=>⟨[],.nil,rfl,fun _ h=>(nomatch h)⟩
  | r::l,hH,hn=>by
    obtain ⟨fs,h1,h2,h3⟩:=katTups_of (fun r' hr'=>hH r' (List.mem_cons_of_mem _ hr')) (fun r' hr'=>hn r' (List.mem_cons_of_mem _ hr'))
    obtain ⟨its,ti,o,g,k,n,e⟩:=hH r List.mem_cons_self
    have hne:=hn r List.mem_cons_self
    match its,ti with
    | [],ti=>cases hc:c r with
      | nil=>exact absurd hc hne
      | cons _ _=>rw [hc] at ti; cases ti
    | v::its,ti =>
      have : ∃ i t,v=.int i t:=by
        revert ti
        generalize c r=cr
        intro ti
        cases ti with
        | cons m t k=>exact ⟨_,_,rfl⟩
      refine ⟨v::fs,PySem.W.KatTups.cons g k e (by simp) h1,by rw [List.length_cons,List.length_cons,h2],fun x hx=>?_⟩
      rcases List.mem_cons.mp hx with rfl | hx
      · exact this
      · exact h3 x hx
theorem kinded_ints (hH:Held c rs s.heap) (hu:A.units<cLine) (h2:2≤rs.length):Kinded prog w A s rs c [] HT.lexLt:=by
  obtain ⟨r,l,rfl⟩ : ∃ r l,rs=r::l:=by
    cases rs with
    | nil=>simp at h2
    | cons r l=>exact ⟨r,l,rfl⟩
  by_cases h0:c r=[]
  · exact ⟨oneType',fun R E h=>kind_tup hH h0 h,cmp_tup hH hu⟩
  by_cases hall:∀ r'∈r::l,c r'≠[]
  · obtain ⟨fs,f1,f2,f3⟩:=katTups_of hH hall
    refine ⟨tuples' true,fun R E h=>?_,?_⟩
    · refine PySem.W.kat_kind (T:=.type "int") f1 (by rw [f2]; simp) (fun v hv=>?_) (by decide) h
      obtain ⟨i,t,rfl⟩:=f3 v hv
      exact .now
    · refine ⟨fun x y Q E ⟨r1,hr1,ex⟩ ⟨r2,hr2,ey⟩ h=>?_,fun x=>lex_irr _,fun x y z=>lex_tr,fun x y z=>lex_neg⟩
      obtain ⟨x1,x2⟩:=x
      obtain ⟨y1,y2⟩:=y
      simp only at ex ey
      subst ex ey
      obtain ⟨i1,t1,o1,g1,k1,n1,e1⟩:=hH r1 hr1
      obtain ⟨i2,t2,o2,g2,k2,n2,e2⟩:=hH r2 hr2
      refine PySem.W.kat_lt g1 e1 g2 e2 ?_
      have e:(decide (i1.toArray.size<i2.toArray.size))=decide (i1.length<i2.length):=by simp
      rw [e]
      exact lex_ints 0 t1 t2 h
  · refine ⟨general',fun R E h=>?_,?_⟩
    · rw [kat_kind_eq,List.mapM_toArray,map_eq_pure_bind]
      refine wpAny_bind (wpAny_bind (firsts_tup hH fun fs hl hf=>wpAny_pure ?_))
      have na:¬ (fs.toArray.all fun x=>x.isSome)=true:=by
        intro z
        refine hall fun r' hr'=>?_
        obtain ⟨i,hi⟩:=List.getElem?_of_mem hr'
        obtain ⟨f,q1,q2⟩:=hf i r' hi
        refine q2.mp ?_
        exact Array.all_eq_true'.mp z f (by have:=List.mem_of_getElem? q1; simpa using this)
      obtain ⟨f,q1,q2⟩:=hf 0 r rfl
      have n0:(fs.toArray[0]?.bind id).isSome=true:=by
        rw [List.getElem?_toArray,q1]
        simpa using q2.mpr h0
      rw [if_neg na,if_pos n0]
      exact wpAny_pure h
    · refine ⟨fun x y Q E ⟨r1,hr1,ex⟩ ⟨r2,hr2,ey⟩ h=>?_,fun x=>lex_irr _,fun x y z=>lex_tr,fun x y z=>lex_neg⟩
      obtain ⟨x1,x2⟩:=x
      obtain ⟨y1,y2⟩:=y
      simp only at ex ey
      subst ex ey
      obtain ⟨i1,t1,p1⟩:=hH r1 hr1
      obtain ⟨i2,t2,p2⟩:=hH r2 hr2
      show wpAny (model prog w) A (oneLt' false (.ref r1) (.ref r2)) Q E s
      exact PySem.W.kat_one _ _ (HT.lt_tupInts p1 p2 (show IntsAre i1.toArray.toList (c r1) by simpa using t1) (show IntsAre i2.toArray.toList (c r2) by simpa using t2) hu h)
end
section
variable {X:Cx}
def rSortI (K:PySem.W.Frag):List V→Hp→VK→Prop:=fun xs H Q=>∃ (a:Addr) (rs:List Addr) (c:Addr→List Int),xs=[.ref a]∧SqL K H a (rs.map V.ref)∧(∀ r∈rs,SqT K H r ((c r).map V.int)) ∧
    ∀ (p:Addr) (rs':List Addr),H p=none→rs'.Perm rs→rs'.Pairwise (fun x y=>HT.lexLt (c y) (c x)=false)→Q (.ref p) (upd H p (.lst (rs'.map V.ref)))
theorem call_sortedI (hu:X.A.units+64<cLine):CallR X (.builtin "sorted") (rSortI X.K):=by
  intro pins s σ H xs us Q I r h
  obtain ⟨a,rs,c,rfl,hl,hc,q⟩:=h
  obtain ⟨u,rfl,ru⟩:=vals1 r
  cases ru
  obtain ⟨its,rv,pl,hz⟩:=I.list hl
  have e:=refs_vals rv
  subst e
  rw [List.length_map] at hz
  refine sorted_callG (c:=c) (d0:=[]) (lt_:=HT.lexLt) pl.isList (fun A' h' hA _ hk h2=>kinded_ints (fun r hr=>?_) (by omega) h2) hz fun rs' p1 p2=>?_
  · obtain ⟨ti,t1,⟨o,g,k⟩,_⟩:=I.tuple (hc r hr)
    exact ⟨ti,intsAre_of t1,o,hk _ _ g,k⟩
  · obtain ⟨n,hn⟩:=sortedAll_new (h:=s.heap) (vs:=rs.map Value.ref) (out:=(rs'.map Value.ref).toArray)
    refine ⟨.ref (s.heap.objs.size+1),upd H (s.heap.objs.size+1) (.lst (rs'.map V.ref)),I.laid (t':=s.toks) (fun b o e=>sortedAll_keeps e) (Nat.le_succ _) ⟨?_,_,n,vals_refs rs',hn⟩,rfl,q _ rs' (I.hok.fresh (Nat.le_succ _)) p1 p2⟩
    rw [List.length_map,p1.length_eq]
    exact hz
end
end Ts
namespace DL
open PySem L2 Nd
def cutG {α:Type} (xs:List α) (lo hi:Option Int):List α:=(xs.drop (HT.sIx xs.length 0 lo)).take (HT.sIx xs.length xs.length hi - HT.sIx xs.length 0 lo)
theorem cutG_map {α β:Type} (f:α→β) (xs:List α) (lo hi:Option Int):cutG (xs.map f) lo hi=(cutG xs lo hi).map f:=by
  unfold cutG
  rw [List.length_map,List.map_take,List.map_drop]
theorem cutG_sub {α:Type} (xs:List α) (lo hi:Option Int):(cutG xs lo hi).Sublist xs:=(List.take_sublist _ _).trans (List.drop_sublist _ _)
theorem cutG_upto {α:Type} (xs:List α) (k:Nat):cutG xs none (some (k:Int))=xs.take k:=by
  unfold cutG
  rw [HT.sIx_none,HT.sIx_nat,List.drop_zero,Nat.sub_zero]
  by_cases h:k≤xs.length
  · rw [Nat.min_eq_left h]
  · rw [Nat.min_eq_right (by omega),List.take_length,List.take_of_length_le (by omega)]
section
variable {K:PySem.W.Frag} {H:Hp}
theorem RdFs.rep {xs:List V} {ds:List PyData} (h:RdFs K H xs ds []):∀ k:Nat,RdFs K H (List.replicate k xs).flatten (List.replicate k ds).flatten []
  | 0=>.nil
  | k+1=>by
    rw [List.replicate_succ,List.replicate_succ,List.flatten_cons,List.flatten_cons]
    exact h.app (RdFs.rep h k)
theorem RdFs.ints:∀ ns:List Int,RdFs K H (ns.map V.int) (ns.map PyData.int) []
  | []=>.nil
  | n::ns=>RdFs.cons (F:=[]) (.int n) (RdFs.ints ns)
theorem RdFs.ints_inv:∀ {ns:List Int} {xs:List V} {F:List Addr},RdFs K H xs (ns.map PyData.int) F→xs=ns.map V.int∧F=[]
  | [],_,_,h=>by cases h; exact ⟨rfl,rfl⟩
  | n::ns,_,_,h=>by
    rw [List.map_cons] at h
    cases h with
    | cons a t =>
      obtain ⟨rfl,rfl⟩:=a.int_inv
      obtain ⟨rfl,rfl⟩:=RdFs.ints_inv t
      exact ⟨rfl,rfl⟩
end
theorem immAll_app {a b:List PyData}:immAll (a++b)=(immAll a && immAll b):=by
  induction a with
  | nil=>simp [immAll]
  | cons x a ih=>simp [immAll,ih,Bool.and_assoc]
theorem immAll_ints (ns:List Int):immAll (ns.map PyData.int)=true:=immAll_map (fun _=>by simp [imm]) ns
def rdCat:D2:=fun x y P=>match x,y with
  | .dat _ (.list ds),.dat _ (.list es)=>immAll ds=true∧immAll es=true∧ds.length+es.length≤1000000∧P (.dat .ow (.list (ds++es)))
  | _,_=>False
def rdCatT:D2:=fun x y P=>match x,y with
  | .dat _ (.tuple ds),.dat _ (.tuple es)=>immAll ds=true∧immAll es=true∧ds.length+es.length≤1000000∧P (.dat .ow (.tuple (ds++es)))
  | _,_=>False
def rdRep:D2:=fun x y P=>match x,y with
  | .dat _ (.list ds),.dat _ (.int k)=>immAll ds=true ∧ -1000000≤k∧k≤1000000∧ds.length * k.toNat≤1000000∧P (.dat .ow (.list (List.replicate k.toNat ds).flatten))
  | _,_=>False
section
variable {K:PySem.W.Frag}
theorem os_cat:OpS K rCat rdCat:=by
  intro H0 X n S T x y v w F G H Q P hA hd k
  unfold rdCat at hd
  split at hd
  · obtain ⟨i1,i2,hz,p⟩:=hd
    obtain ⟨b,ys,G1,rfl,hb,rb,_,_⟩:=(hA.told mem_mid).list_inv
    obtain ⟨a,xs,G2,rfl,ha,ra,_,_⟩:=(hA.told mem_mid2).list_inv
    have l1:=ra.len
    have l2:=rb.len
    refine ⟨a,b,xs,ys,rfl,rfl,ha,hb,sz2 (by omega),fun q hq=>?_⟩
    exact k _ _ _ _ (hA.drop2.newI (ra.app rb) (by rw [immAll_app,i1,i2]; rfl) (by rw [List.length_append]; exact sz2 (by omega)) hq .ow) p
  · exact hd.elim
theorem os_rep:OpS K rRep rdRep:=by
  intro H0 X n S T x y v w F G H Q P hA hd k
  unfold rdRep at hd
  split at hd
  · obtain ⟨i1,k0,k1,hz,p⟩:=hd
    obtain ⟨rfl,_⟩:=(hA.told mem_mid).int_inv
    obtain ⟨a,xs,G2,rfl,ha,ra,_,_⟩:=(hA.told mem_mid2).list_inv
    have l1:=ra.len
    obtain rfl:=ra.imm i1
    rename_i j
    refine ⟨a,_,xs,rfl,rfl,ha,by omega,by omega,sz2 (by rw [l1]; exact hz),fun q hq=>?_⟩
    refine k _ _ _ _ (hA.drop2.newI (ra.rep _) ?_ (by rw [len_rep,Nat.mul_comm]; exact sz2 hz) hq .ow) p
    refine immAll_iff.mpr fun z hz'=>?_
    obtain ⟨l,hl,hz'⟩:=List.mem_flatten.mp hz'
    rw [(List.mem_replicate.mp hl).2] at hz'
    exact immAll_iff.mp i1 z hz'
  · exact hd.elim
theorem os_catT:OpS K (rCatX K) rdCatT:=by
  intro H0 X n S T x y v w F G H Q P hA hd k
  unfold rdCatT at hd
  split at hd
  · obtain ⟨i1,i2,hz,p⟩:=hd
    obtain ⟨b,ys,rfl,hb,rb,zb⟩:=(hA.told mem_mid).tup_inv
    obtain ⟨a,xs,rfl,ha,ra,za⟩:=(hA.told mem_mid2).tup_inv
    have l1:=ra.len
    have l2:=rb.len
    obtain rfl:=ra.imm i1
    obtain rfl:=rb.imm i2
    refine ⟨a,b,xs,ys,rfl,rfl,SqT.of ha,SqT.of hb,sz2 (by omega),fun e=>?_,fun e=>?_,fun q hq=>?_⟩
    · subst e
      obtain rfl:=List.length_eq_zero_iff.mp (l1.symm.trans rfl)
      exact k _ _ [] _ (hA.drop2.pushI (.tup hb zb rb)) p
    · subst e
      obtain rfl:=List.length_eq_zero_iff.mp (l2.symm.trans rfl)
      rw [List.append_nil] at p
      exact k _ _ [] _ (hA.drop2.pushI (.tup ha za ra)) p
    · have s1:=same_new hq (.tup (xs++ys))
      exact k _ _ [] _ ((hA.drop2.grow s1 (Nat.le_refl _)).pushI (.tup upd_same (by rw [List.length_append]; exact sz2 (by omega)) ((ra.app rb).kp (Kp.of s1)))) p
  · exact hd.elim
end
section
variable {X:Cx} {a b:Expr} {da db:DE} {pos:Pos}
theorem dp_cat (ha:PED X a da) (hb:PED X b db):PED X (.BinOp a .Add b pos) (dOp rdCat da db):=dp_op op_cat os_cat ha hb
theorem dp_catT (ha:PED X a da) (hb:PED X b db):PED X (.BinOp a .Add b pos) (dOp rdCatT da db):=dp_op op_catX os_catT ha hb
theorem dp_rep (ha:PED X a da) (hb:PED X b db):PED X (.BinOp a .Mult b pos) (dOp rdRep da db):=dp_op op_rep os_rep ha hb
end
abbrev DO:=DS→(Option Int→DS→Prop)→Prop
def LO (K:PySem.W.Frag) (do_:DO):TO:=fun σ H Q=>∃ (H0:Hp) (X:Addr→Prop) (S T:List Ent) (δ:DS) (P:Option Int→DS→Prop),vs S=σ∧Sl S δ∧At K H0 X δ.n (S++T) H∧do_ δ P ∧
  ∀ o δ' S' H',vs S'=σ→Sl S' δ'→At K H0 X δ'.n (S'++T) H'→P o δ'→Q o H'
abbrev POD (X:Cx) (e:Option Expr) (d:DO):Prop:=PO X e (LO X.K d)
theorem PO.imp {X:Cx} {e:Option Expr} {t t':TO} (h:PO X e t) (k:∀ σ H Q,t' σ H Q→t σ H Q):PO X e t':=fun pins s σ H Q I q=>h pins s σ H Q I (k σ H Q q)
def dNoPart:DO:=fun δ P=>P none δ
def dPart (de:DE):DO:=fun δ P=>de δ fun x δ'=>match x with
  | .dat _ (.int i)=>P (some i) δ'
  | _=>False
section
variable {X:Cx} {e:Expr} {de:DE} {lo hi:Option Expr} {dl dh:DO} {pos p2:Pos}
theorem dpo_none:POD X none dNoPart:=by
  refine PO.imp po_none fun σ H Q h=>?_
  obtain ⟨H0,Y,S,T,δ,P,rfl,hS,hA,hd,k⟩:=h
  exact k _ δ S H rfl hS hA hd
theorem dpo_some (h:PED X e de):POD X (some e) (dPart de):=by
  refine PO.imp (po_some h) fun σ H Q h=>?_
  obtain ⟨H0,Y,S,T,δ,P,rfl,hS,hA,hd,k⟩:=h
  refine ⟨H0,Y,S,T,δ,_,rfl,hS,hA,hd,fun x δ' v F S' H' e1 e2 hA' p=>?_⟩
  split at p
  · obtain ⟨rfl,_⟩:=(hA'.told mem_mid).int_inv
    exact ⟨_,rfl,k _ δ' S' H' e1 e2 hA'.drop p⟩
  · exact p.elim
end
end DL
namespace NdS
open PySem PyProof.Rows
end NdS
namespace Nd
open PySem PySem.Spec PyProof.Rows L2 NdS
def rSetL (w:World) (K:PySem.W.Frag):List V→Hp→VK→Prop:=fun xs H Q=>∃ (a:Addr) (ns U:List Int),xs=[.ref a]∧SqL K H a (ns.map V.int)∧U.length≤62∧Among U ns∧∀ p,H p=none→Q (.ref p) (upd H p (SetO w p ns))
end Nd
namespace DL
open PySem L2 Nd
def ins1 (x:Int):List Int→List Int
  | []=>[x]
  | y::l=>if x<y then x::y::l else if x=y then y::l else y::ins1 x l
def sset (ns:List Int):List Int:=ns.foldr ins1 []
theorem mem_ins1 {x z:Int}:∀ {l:List Int},z∈ins1 x l↔z=x∨z∈l
  | []=>by simp [ins1]
  | y::l=>by
    unfold ins1
    split
    · simp
    · split
      · rename_i h1 h2
        subst h2
        simp
      · simp only [List.mem_cons,mem_ins1 (l:=l)]
        constructor
        · rintro (h | h | h) <;> simp [h]
        · rintro (h | h | h) <;> simp [h]
theorem ins1_rise {x:Int}:∀ {l:List Int},l.Pairwise (· < ·)→(ins1 x l).Pairwise (· < ·)
  | [],_=>List.pairwise_singleton _ _
  | y::l,h=>by
    obtain ⟨h1,h2⟩:=List.pairwise_cons.mp h
    unfold ins1
    split
    · rename_i hx
      refine List.pairwise_cons.mpr ⟨fun z hz=>?_,h⟩
      rcases List.mem_cons.mp hz with rfl | hz
      · exact hx
      · exact Int.lt_trans hx (h1 z hz)
    · split
      · exact h
      · refine List.pairwise_cons.mpr ⟨fun z hz=>?_,ins1_rise h2⟩
        rcases mem_ins1.mp hz with rfl | hz
        · omega
        · exact h1 z hz
theorem sset_rise:∀ ns:List Int,(sset ns).Pairwise (· < ·)
  | []=>List.Pairwise.nil
  | n::ns=>ins1_rise (sset_rise ns)
theorem mem_sset {x:Int}:∀ {ns:List Int},x∈sset ns↔x∈ns
  | []=>Iff.rfl
  | n::ns=>by
    rw [show sset (n::ns)=ins1 n (sset ns) from rfl,mem_ins1,mem_sset (ns:=ns),List.mem_cons]
theorem sset_eq {l ns:List Int} (h:l.Pairwise (· < ·)) (m:∀ x,x∈l↔x∈ns):l=sset ns:=rising_eq h (sset_rise ns) fun x=>(m x).trans mem_sset.symm
abbrev DC:=List DV→(DV→Prop)→Prop
def CallS (K:PySem.W.Frag) (r:List V→Hp→VK→Prop) (rd:DC):Prop:=∀ (H0:Hp) (X:Addr→Prop) (n:Nat) (S T As:List Ent) (us:List V) (H:Hp) (Q:VK) (P:DV→Prop),
  As.map Ent.v=us.map some→At K H0 X n (S++(As++T)) H→rd (As.map Ent.x) P→(∀ z u F' H',At K H0 X n (S++⟨some u,z,F'⟩::T) H'→P z→Q u H')→r us H Q
def dCB (rd:DC) (da:DA):DE:=fun δ P=>da δ fun xs δ1=>rd xs fun z=>P z δ1
section
variable {X:Cx} {x:Str} {p pos:Pos} {e:Expr} {es:List Expr} {da:DA} {id T:String} {r:List V→Hp→VK→Prop} {rd:DC}
theorem cb_le {K:PySem.W.Frag} (o:CallS K r rd):∀ σ H Q,LE K (dCB rd da) σ H Q→tCB r (LA K da) σ H Q:=by
  intro σ H Q h
  obtain ⟨H0,Y,S,T,δ,P,rfl,hS,hA,hd,k⟩:=h
  refine ⟨H0,Y,S,T,δ,_,rfl,hS,hA,hd,fun xs δ' As us S' H' e1 e2 ex eu hA' p=>?_⟩
  subst ex
  exact o H0 Y δ'.n S' T As us H' Q _ eu hA' p fun z u F' H'' hA3 p3=>k z δ' u F' S' H'' e1 e2 hA3 p3
theorem dp_callB (hc:CallR X (.builtin id) r) (o:CallS X.K r rd) (hg:Gl X x) (hm:X.mg x=none) (hv:bootBuiltins x=some (.builtin id)) (ha:PAD X (e::es) da) (hn:x ≠ "__name__" := by decide) (hdb:(x == ("__debug__" : Str))=false:=by decide) (he:starEach (e::es) X.env=(false,eval e X.env)::starEach es X.env:=by rfl) (hpl:(backTo pos (starEach es X.env)).any (·.1)=false:=by rfl):PED X (.Call (.Name x p) (e::es) [] pos) (dCB rd da) :=
  PE.imp (pe_callB hc hg hm hv ha hn hdb he hpl) (cb_le o)
theorem dp_callTy (hc:CallR X (.type T) r) (o:CallS X.K r rd) (hg:Gl X x) (hm:X.mg x=none) (hv:bootBuiltins x=some (.type T)) (ha:PAD X (e::es) da) (hn:x ≠ "__name__" := by decide) (hdb:(x == ("__debug__" : Str))=false:=by decide) (he:starEach (e::es) X.env=(false,eval e X.env)::starEach es X.env:=by rfl) (hpl:(backTo pos (starEach es X.env)).any (·.1)=false:=by rfl):PED X (.Call (.Name x p) (e::es) [] pos) (dCB rd da) :=
  PE.imp (pe_callTy hc hg hm hv ha hn hdb he hpl) (cb_le o)
end
theorem map1 {α β:Type} {f:α→β} {l:List α} {x:β} (h:l.map f=[x]):∃ a,l=[a]∧f a=x:=by
  cases l with
  | nil=>cases h
  | cons a t =>
    obtain ⟨h1,h2⟩:=List.cons.inj h
    exact ⟨a,by rw [List.map_eq_nil_iff.mp h2],h1⟩
theorem map2 {α β:Type} {f:α→β} {l:List α} {x y:β} (h:l.map f=[x,y]):∃ a b,l=[a,b]∧f a=x∧f b=y:=by
  cases l with
  | nil=>cases h
  | cons a t =>
    obtain ⟨h1,h2⟩:=List.cons.inj h
    obtain ⟨b,rfl,h3⟩:=map1 h2
    exact ⟨a,b,rfl,h1,h3⟩
theorem one_arg {K:PySem.W.Frag} {H0 H:Hp} {X:Addr→Prop} {n:Nat} {S T As:List Ent} {us:List V} {x:DV} (eu:As.map Ent.v=us.map some) (hA:At K H0 X n (S++(As++T)) H) (ex:As.map Ent.x=[x]):∃ v F,us=[v]∧At K H0 X n (S++⟨some v,x,F⟩::T) H:=by
  obtain ⟨⟨v,y,F⟩,rfl,h1⟩:=map1 ex
  obtain ⟨u,rfl,h2⟩:=map1 eu.symm
  have h1':y=x:=h1
  have h2':some u=v:=h2
  subst h1' h2'
  exact ⟨u,F,rfl,hA⟩
theorem two_args {K:PySem.W.Frag} {H0 H:Hp} {X:Addr→Prop} {n:Nat} {S T As:List Ent} {us:List V} {x y:DV} (eu:As.map Ent.v=us.map some) (hA:At K H0 X n (S++(As++T)) H) (ex:As.map Ent.x=[x,y]):∃ v F w G,us=[v,w]∧At K H0 X n (S++⟨some v,x,F⟩::⟨some w,y,G⟩::T) H:=by
  obtain ⟨⟨v,x',F⟩,⟨w,y',G⟩,rfl,h1,h2⟩:=map2 ex
  obtain ⟨u,u',rfl,h3,h4⟩:=map2 eu.symm
  have h1':x'=x:=h1
  have h2':y'=y:=h2
  have h3':some u=v:=h3
  have h4':some u'=w:=h4
  subst h1' h2' h3' h4'
  exact ⟨u,F,u',G,rfl,hA⟩
def rdLen:DC:=fun xs P=>match xs with
  | [.dat _ (.list ds)]=>P (.dat .ow (.int ds.length))
  | [.dat _ (.tuple ds)]=>P (.dat .ow (.int ds.length))
  | [.dat _ (.str z)]=>z.length≤1000000∧P (.dat .ow (.int z.length))
  | _=>False
def rdList (i:Bool):DC:=fun xs P=>match xs with
  | [.dat m (.list ds)]=>nlist i m ds P
  | [.dat m (.tuple ds)]=>nlist i m ds P
  | _=>False
def rdTuple (i:Bool):DC:=fun xs P=>match xs with
  | [.dat m (.list ds)]=>ntup i m ds P
  | [.dat m (.tuple ds)]=>P (.dat m (.tuple ds))
  | _=>False
def rdInt:DC:=fun xs P=>match xs with
  | [.dat _ (.int i)]=>P (.dat .ow (.int i))
  | [.dat _ (.bool b)]=>P (.dat .ow (.int (if b=true then 1 else 0)))
  | _=>False
def tyD:PyData→String
  | .none => "NoneType"
  | .bool _ => "bool"
  | .int _ => "int"
  | .str _ => "str"
  | .list _ => "list"
  | .tuple _ => "tuple"
  | .dict _ => "dict"
def isiD (d:PyData) (n:String):Bool:=tyD d == n || (tyD d == "bool" && n == "int")
def rdIsi:DC:=fun xs P=>match xs with
  | [.dat _ d,.val (.ty n)]=>(n = "int" ∨ n = "bool" ∨ n = "str" ∨ n = "list" ∨ n = "tuple")∧P (.dat .ow (.bool (isiD d n)))
  | _=>False
section
variable {K:PySem.W.Frag}
theorem cs_len:CallS K (fun xs H Q=>∃ x n,xs=[x]∧LenV K x H n∧Q (.int n) H) rdLen:=by
  intro H0 X n S T As us H Q P eu hA hd k
  unfold rdLen at hd
  split at hd
  · rename_i ex
    obtain ⟨v,F,rfl,hA⟩:=one_arg eu hA ex
    obtain ⟨a,xs,G,rfl,ha,ra,_,_⟩:=(hA.told mem_mid).list_inv
    exact ⟨_,_,rfl,.inl ⟨xs,SqL.of ha,ra.len.symm⟩,k _ _ [] H (hA.drop.pushI (.int _)) hd⟩
  · rename_i ex
    obtain ⟨v,F,rfl,hA⟩:=one_arg eu hA ex
    obtain ⟨a,xs,rfl,ha,ra,_⟩:=(hA.told mem_mid).tup_inv
    exact ⟨_,_,rfl,.inr ⟨xs,SqT.of ha,ra.len.symm⟩,k _ _ [] H (hA.drop.pushI (.int _)) hd⟩
  · rename_i ex
    obtain ⟨v,F,rfl,hA⟩:=one_arg eu hA ex
    obtain ⟨rfl,_⟩:=(hA.told mem_mid).str_inv
    exact ⟨_,_,rfl,⟨sz2 hd.1,rfl⟩,k _ _ [] H (hA.drop.pushI (.int _)) hd.2⟩
  · exact hd.elim
theorem cs_list {i:Bool}:CallS K (rLstC K) (rdList i):=by
  intro H0 X n S T As us H Q P eu hA hd k
  unfold rdList at hd
  split at hd
  · rename_i ex
    obtain ⟨v,F,rfl,hA⟩:=one_arg eu hA ex
    obtain ⟨a,xs,G,rfl,ha,ra,rfl,hz⟩:=(hA.told mem_mid).list_inv
    refine ⟨a,xs,rfl,.inl (SqL.of ha),fun l hl=>?_⟩
    obtain ⟨z,F',h1,h2⟩:=hA.newL ra (List.sublist_cons_self _ _) hz hl hd
    exact k _ _ _ _ h1 h2
  · rename_i ex
    obtain ⟨v,F,rfl,hA⟩:=one_arg eu hA ex
    obtain ⟨a,xs,rfl,ha,ra,hz⟩:=(hA.told mem_mid).tup_inv
    refine ⟨a,xs,rfl,.inr (SqT.of ha),fun l hl=>?_⟩
    obtain ⟨z,F',h1,h2⟩:=hA.newL ra (List.Sublist.refl _) hz hl hd
    exact k _ _ _ _ h1 h2
  · exact hd.elim
theorem cs_tuple {i:Bool}:CallS K (rTupC K) (rdTuple i):=by
  intro H0 X n S T As us H Q P eu hA hd k
  unfold rdTuple at hd
  split at hd
  · rename_i ex
    obtain ⟨v,F,rfl,hA⟩:=one_arg eu hA ex
    obtain ⟨a,xs,G,rfl,ha,ra,rfl,hz⟩:=(hA.told mem_mid).list_inv
    refine ⟨a,xs,rfl,.inl ⟨SqL.of ha,fun l hl=>?_⟩⟩
    obtain ⟨z,F',h1,h2⟩:=hA.newT ra (List.sublist_cons_self _ _) hz hl hd
    exact k _ _ _ _ h1 h2
  · rename_i ex
    obtain ⟨v,F,rfl,hA⟩:=one_arg eu hA ex
    obtain ⟨a,xs,rfl,ha,ra,hz⟩:=(hA.told mem_mid).tup_inv
    exact ⟨a,xs,rfl,.inr ⟨SqT.of ha,k _ _ F H hA hd⟩⟩
  · exact hd.elim
theorem cs_int:CallS K (fun xs H Q=>(∃ i,xs=[V.int i]∧Q (.int i) H)∨∃ k,xs=[V.bl k]∧Q (.int (if k then 1 else 0)) H) rdInt:=by
  intro H0 X n S T As us H Q P eu hA hd k
  unfold rdInt at hd
  split at hd
  · rename_i ex
    obtain ⟨v,F,rfl,hA⟩:=one_arg eu hA ex
    obtain ⟨rfl,_⟩:=(hA.told mem_mid).int_inv
    exact .inl ⟨_,rfl,k _ _ [] H (hA.drop.pushI (.int _)) hd⟩
  · rename_i ex
    obtain ⟨v,F,rfl,hA⟩:=one_arg eu hA ex
    obtain ⟨rfl,_⟩:=(hA.told mem_mid).bl_inv
    exact .inr ⟨_,rfl,k _ _ [] H (hA.drop.pushI (.int _)) hd⟩
  · exact hd.elim
theorem kit_sub {T n:String} {b:Bool} (h1:(Value.type T == Value.type n)=false) (h2:PySem.W.kitMeta n=true) (h3:(fastBuiltinMro T).map (fun x=>x.contains (Value.type n))=some b):PySem.W.kitOne K (.type T) (.type n)=some b:=kit_bb h1 h2 h3
theorem kit_isi {d:PyData} {n:String} (hn:n = "int" ∨ n = "bool" ∨ n = "str" ∨ n = "list" ∨ n = "tuple"):PySem.W.kitOne K (.type (tyD d)) (.type n)=some (isiD d n):=by
  have main:∀ T:String,(T = "NoneType" ∨ T = "bool" ∨ T = "int" ∨ T = "str" ∨ T = "list" ∨ T = "tuple" ∨ T = "dict")→PySem.W.kitOne K (.type T) (.type n)=some (T == n || (T == "bool" && n == "int")):=by
    intro T hT
    rcases hT with rfl | rfl | rfl | rfl | rfl | rfl | rfl <;> rcases hn with rfl | rfl | rfl | rfl | rfl <;> first | exact kit_eq | exact kit_sub (by decide +kernel) (by decide +kernel) (by decide +kernel)
  unfold isiD
  refine main _ ?_
  cases d <;> simp [tyD]
theorem cs_isi:CallS K (rIs K) rdIsi:=by
  intro H0 X n S T As us H Q P eu hA hd k
  unfold rdIsi at hd
  split at hd
  · rename_i ex
    obtain ⟨v,F,w,G,rfl,hA⟩:=two_args eu hA ex
    have hw:w=.ty _:=Option.some.inj (hA.ok _ mem_mid2).1
    subst hw
    have r:=hA.told mem_mid
    refine ⟨v,_,.type (tyD _),_,rfl,?_,kit_isi hd.1,k _ _ [] H (hA.drop2.pushI (.bl _)) hd.2⟩
    · cases r with
      | non=>exact .non
      | bl b=>exact .bl b
      | int i=>exact .int i
      | str x=>exact .str x
      | lst h l hs=>exact .lst h
      | tup h l hs=>exact .tup h
      | dic h e hs=>exact .dT h
  · exact hd.elim
end
def dV (v:V):DE:=fun δ P=>P (.val v) δ
section
variable {X:Cx} {e:Expr}
theorem dp_val {v:V} (h:PE X e (tC v)):PED X e (dV v):=by
  refine PE.imp h fun σ H Q h=>?_
  obtain ⟨H0,Y,S,T,δ,P,rfl,hS,hA,hd,k⟩:=h
  exact k _ δ v [] S H rfl hS ((hA.push (e:=⟨some v,.val v,[]⟩) ⟨rfl,rfl⟩ (fun f _=>⟨fun _ a ha=>(nomatch ha),fun _ a _=>List.not_mem_nil⟩) (fun a ha=>(nomatch ha))).tomid) hd
theorem dp_ty {x:Str} {n:String} {pos:Pos} (hg:Gl X x) (hm:X.mg x=none) (hv:bootBuiltins x=some (.type n)) (hn:x ≠ "__name__" := by decide) (hd:(x == ("__debug__" : Str))=false:=by decide):PED X (.Name x pos) (dV (.ty n)):=dp_val (pe_bltn hg hm hv rfl hn hd)
end
theorem sset_len {ns:List Int} (h:∀ x∈ns,0≤x∧x<60):(sset ns).length≤60 :=
  Nat.le_trans (NdS.len_leI ((sset_rise ns).imp fun {x y} h=>Int.ne_of_lt h) fun e he=>mem_U60 (h e (mem_sset.mp he)).1 (h e (mem_sset.mp he)).2) (by decide)
end DL
namespace Nd
open PySem PySem.Spec PyProof.Rows L2
end Nd
namespace Nd
open PySem PySem.Spec PyProof.Rows L2
open AutoSeq1 (wpAny_loadPart')
end Nd
namespace DL
open PySem L2 Nd
def dB (de:DE):DT:=fun δ P=>de δ fun x δ'=>match x with
  | .dat _ (.bool b)=>P b δ'
  | _=>False
def dNotT (dt:DT):DT:=fun δ P=>dt δ fun b δ'=>P (!b) δ'
def dAndT (dt du:DT):DT:=fun δ P=>dt δ fun b δ'=>match b with
  | true=>du δ' P
  | false=>P false δ'
def dOrT (dt du:DT):DT:=fun δ P=>dt δ fun b δ'=>match b with
  | true=>P true δ'
  | false=>du δ' P
def dIfE (dt:DT) (da db:DE):DE:=fun δ P=>dt δ fun b δ'=>match b with
  | true=>da δ' P
  | false=>db δ' P
section
variable {K:PySem.W.Frag} {de:DE}
theorem b_le:∀ σ H Q,LT K (dB de) σ H Q→LE K de σ H fun x H'=>∃ k,x=.bl k∧Q k H':=by
  intro σ H Q h
  obtain ⟨H0,Y,S,T,δ,P,rfl,hS,hA,hd,k⟩:=h
  refine ⟨H0,Y,S,T,δ,_,rfl,hS,hA,hd,fun x δ1 v F S1 H1 e1 e2 hA1 p1=>?_⟩
  split at p1
  · obtain ⟨rfl,_⟩:=(hA1.told mem_mid).bl_inv
    exact ⟨_,rfl,k _ δ1 S1 H1 e1 e2 hA1.drop p1⟩
  · exact p1.elim
end
section
variable {X:Cx} {a b c e:Expr} {da db de:DE} {dt du:DT} {pos:Pos} {rest:List Expr}
theorem dt_val (h:PED X e de) (he:∀ whole,isTrue e X.env whole=(do let v ← whole; standAt e.pos; holding [v] (truthy v)):=by intro _; rfl):PTD X e (dB de):=PT.imp (pt_val h he) b_le
theorem dt_cmp {op:CmpOp} {r:R2} {rd:D2} (ho:OpR X (compareOp op) r) (o:OpS X.K r rd) (ha:PED X a da) (hb:PED X b db) (hm:behindInMarks op b=false):PTD X (.Compare a [op] [b] pos) (dB (dOp rd da db)):=by
  refine PT.imp (pt_cmpR ho ha hb hm) fun σ H Q h=>?_
  exact op_le o _ _ _ (b_le σ H Q h)
theorem dt_eq (hu:X.A.units+64<cLine) (ha:PED X a da) (hb:PED X b db):PTD X (.Compare a [.Eq] [b] pos) (dB (dOp (rdEq false) da db)):=dt_cmp (op_eqD hu) os_eq ha hb (nomark _)
theorem dt_ne (hu:X.A.units+64<cLine) (ha:PED X a da) (hb:PED X b db):PTD X (.Compare a [.NotEq] [b] pos) (dB (dOp (rdEq true) da db)):=dt_cmp (op_neD hu) os_ne ha hb (nomark _)
theorem dt_in (hu:X.A.units+64<cLine) (ha:PED X a da) (hb:PED X b db) (hm:behindInMarks .In b=false:=by with_unfolding_all rfl):PTD X (.Compare a [.In] [b] pos) (dB (dOp (rdIn false) da db)):=dt_cmp (op_inD hu) os_in ha hb hm
theorem dt_notIn (hu:X.A.units+64<cLine) (ha:PED X a da) (hb:PED X b db) (hm:behindInMarks .NotIn b=false:=by with_unfolding_all rfl):PTD X (.Compare a [.NotIn] [b] pos) (dB (dOp (rdIn true) da db)):=dt_cmp (op_notInD hu) os_in ha hb hm
theorem dt_not (h:PTD X a dt):PTD X (.UnaryOp .Not a pos) (dNotT dt):=by
  refine PT.imp (pt_not h) fun σ H Q h=>?_
  obtain ⟨H0,Y,S,T,δ,P,rfl,hS,hA,hd,k⟩:=h
  exact ⟨H0,Y,S,T,δ,_,rfl,hS,hA,hd,fun b δ' S' H' e1 e2 hA' p=>k _ δ' S' H' e1 e2 hA' p⟩
theorem dw_and1 (h:PTD X a dt):PWD X (.BoolOp .And [a] pos) dt:=pw_and1 h
theorem dw_or1 (h:PTD X a dt):PWD X (.BoolOp .Or [a] pos) dt:=pw_or1 h
theorem dw_and (h:PTD X a dt) (hb:PWD X (.BoolOp .And (b::rest) pos) du):PWD X (.BoolOp .And (a::b::rest) pos) (dAndT dt du):=by
  refine PW.imp (pw_and h hb) fun σ H Q h=>?_
  obtain ⟨H0,Y,S,T,δ,P,rfl,hS,hA,hd,k⟩:=h
  refine ⟨H0,Y,S,T,δ,_,rfl,hS,hA,hd,fun b δ' S' H' e1 e2 hA' p=>?_⟩
  cases b with
  | true=>exact iteT ⟨H0,Y,S',T,δ',P,e1,e2,hA',p,k⟩
  | false=>exact iteF (k _ δ' S' H' e1 e2 hA' p)
theorem dw_or (h:PTD X a dt) (hb:PWD X (.BoolOp .Or (b::rest) pos) du):PWD X (.BoolOp .Or (a::b::rest) pos) (dOrT dt du):=by
  refine PW.imp (pw_or h hb) fun σ H Q h=>?_
  obtain ⟨H0,Y,S,T,δ,P,rfl,hS,hA,hd,k⟩:=h
  refine ⟨H0,Y,S,T,δ,_,rfl,hS,hA,hd,fun b δ' S' H' e1 e2 hA' p=>?_⟩
  cases b with
  | true=>exact iteT (k _ δ' S' H' e1 e2 hA' p)
  | false=>exact iteF ⟨H0,Y,S',T,δ',P,e1,e2,hA',p,k⟩
theorem dt_w (h:PWD X a dt):PTD X a dt:=PW.pt h
theorem dp_ifE (hc:PTD X c dt) (ha:PED X a da) (hb:PED X b db):PED X (.IfExp c a b pos) (dIfE dt da db):=by
  refine PE.imp (pe_ifExp hc ha hb) fun σ H Q h=>?_
  obtain ⟨H0,Y,S,T,δ,P,rfl,hS,hA,hd,k⟩:=h
  refine ⟨H0,Y,S,T,δ,_,rfl,hS,hA,hd,fun b δ' S' H' e1 e2 hA' p=>?_⟩
  cases b with
  | true=>exact iteT ⟨H0,Y,S',T,δ',P,e1,e2,hA',p,k⟩
  | false=>exact iteF ⟨H0,Y,S',T,δ',P,e1,e2,hA',p,k⟩
end
theorem PS.impD {X:Cx} {st:Stmt} {t t':TS} (h:PS X st t) (k:∀ D σ H,t' D σ H→t D σ H):PS X st t':=fun pins s σ H D I q=>h pins s σ H D I (k D σ H q)
theorem PSs.impD {X:Cx} {st:List Stmt} {t t':TS} (h:PSs X st t) (k:∀ D σ H,t' D σ H→t D σ H):PSs X st t':=fun pins s σ H D I q=>h pins s σ H D I (k D σ H q)
def dSkip:DB:=fun D δ=>D.nx δ
def dSeq (t u:DB):DB:=fun D δ=>t { D with nx:=fun δ'=>u D δ' } δ
def dRet (de:DE):DB:=fun D δ=>de δ D.rt
def dIf (dt:DT) (t u:DB):DB:=fun D δ=>dt δ fun b δ'=>match b with
  | true=>t D δ'
  | false=>u D δ'
def dAsg (de:DE) (dg:DG):DB:=fun D δ=>de δ fun x δ'=>dg x δ' D.nx
section
variable {X:Cx} {st:Stmt} {e tg c:Expr} {t u:DB} {rest:List Stmt} {de:DE} {dg:DG} {dt:DT} {pos:Pos}
theorem ds_nil:PSsD X [] dSkip:=by
  refine PSs.impD pss_nil fun D σ H h=>?_
  obtain ⟨H0,Y,S,T,δ,P,rfl,hS,hT,hA,hd,k1,k2,k3,k4⟩:=h
  exact k1 δ S H hS hA hd
theorem ds_cons (h1:PSD X st t) (h2:PSsD X rest u):PSsD X (st::rest) (dSeq t u):=by
  refine PSs.impD (pss_cons h1 h2) fun D σ H h=>?_
  obtain ⟨H0,Y,S,T,δ,P,rfl,hS,hT,hA,hd,k1,k2,k3,k4⟩:=h
  exact ⟨H0,Y,S,T,δ,_,rfl,hS,hT,hA,hd,fun δ' S' H' e2 hA' p=>⟨H0,Y,S',T,δ',P,rfl,e2,hT,hA',p,k1,k2,k3,k4⟩,k2,k3,k4⟩
theorem ds_one (h1:PSD X st t):PSsD X [st] t:=pss_one h1
theorem ds_ret (he:PED X e de):PSD X (.Return (some e) pos) (dRet de):=by
  refine PS.impD (ps_ret he) fun D σ H h=>?_
  obtain ⟨H0,Y,S,T,δ,P,rfl,hS,hT,hA,hd,k1,k2,k3,k4⟩:=h
  exact ⟨H0,Y,S,T,δ,_,rfl,hS,hA,hd,fun x δ' v F S' H' e1 e2 hA' p=>k2 x δ' v F S' H' e2 hA' p⟩
theorem ds_if {a b:List Stmt} (hc:PTD X c dt) (ha:PSsD X a t) (hb:PSsD X b u):PSD X (.If c a b pos) (dIf dt t u):=by
  refine PS.impD (ps_if hc ha hb) fun D σ H h=>?_
  obtain ⟨H0,Y,S,T,δ,P,rfl,hS,hT,hA,hd,k1,k2,k3,k4⟩:=h
  refine ⟨H0,Y,S,T,δ,_,rfl,hS,hA,hd,fun b δ' S' H' e1 e2 hA' p=>?_⟩
  cases b with
  | true=>exact iteT ⟨H0,Y,S',T,δ',P,e1,e2,hT,hA',p,k1,k2,k3,k4⟩
  | false=>exact iteF ⟨H0,Y,S',T,δ',P,e1,e2,hT,hA',p,k1,k2,k3,k4⟩
theorem asg_le {K:PySem.W.Frag} {te:TE} {g:TG} (h1:∀ σ H Q,LE K de σ H Q→te σ H Q) (h2:∀ v σ H Q,LG K dg v σ H Q→g v σ H Q):∀ D σ H,LS K (dAsg de dg) D σ H→tAsg te g D σ H:=by
  intro D σ H h
  obtain ⟨H0,Y,S,T,δ,P,rfl,hS,hT,hA,hd,k1,k2,k3,k4⟩:=h
  refine h1 _ _ _ ⟨H0,Y,S,T,δ,_,rfl,hS,hA,hd,fun x δ' v F S' H' e1 e2 hA' p=>?_⟩
  exact h2 _ _ _ _ ⟨H0,Y,S',T,δ',x,F,P.nx,e1,e2,hA',p,fun δ2 S2 H2 e3 hA2 q=>k1 δ2 S2 H2 e3 hA2 q⟩
end
def dgName (i:Nat):DG:=fun x δ P=>match x with
  | .dat .pk _=>False
  | .dat _ d=>P ⟨δ.sl.set i (.dat .sh d),δ.n⟩
  | .val v=>P ⟨δ.sl.set i (.val v),δ.n⟩
  | .drw=>P ⟨δ.sl.set i .drw,δ.n⟩
  | .dT kvs=>P ⟨δ.sl.set i (.dT kvs),δ.n⟩
  | _=>False
def dgOwn (i:Nat):DG:=fun x δ P=>match x with
  | .dat .ow d=>P ⟨δ.sl.set i (.dat .ow d),δ.n⟩
  | .dat .tp d=>P ⟨δ.sl.set i (.dat .tp d),δ.n⟩
  | _=>False
theorem At.store {K:PySem.W.Frag} {H0 H:Hp} {X:Addr→Prop} {n:Nat} {S T:List Ent} {e:Ent} {i:Nat} (h:At K H0 X n (S++e::T) H):At K H0 X n (S.set i e++T) H:=by
  by_cases hi:i<S.length
  · have hx:S[i]? = some S[i]:=by simp [hi]
    have p:(S++e::T).Perm (S[i]::(S.set i e++T)):=by
      refine List.perm_middle.trans ?_
      rw [← List.cons_append,← List.cons_append]
      exact (set_perm hx).append_right T
    exact (h.perm p).sub (List.sublist_cons_self _ _)
  · rw [List.set_eq_of_length_le (by omega)]
    exact h.drop
theorem vs_set {S:List Ent} {i:Nat} {v:V} {x:DV} {F:List Addr}:vs (S.set i ⟨some v,x,F⟩)=(vs S).set i (some v):=by
  unfold vs
  rw [List.map_set]
theorem sl_set {S:List Ent} {δ:DS} {i n:Nat} {v:V} {x:DV} {F:List Addr} (h:Sl S δ):Sl (S.set i ⟨some v,x,F⟩) ⟨δ.sl.set i x,n⟩:=by
  unfold Sl at h ⊢
  rw [List.map_set,h]
theorem name_le {K:PySem.W.Frag} {i:Nat}:∀ v σ H Q,LG K (dgName i) v σ H Q→gName i v σ H Q:=by
  intro v σ H Q h
  obtain ⟨H0,Y,S,T,δ,x,F,P,rfl,hS,hA,hd,k⟩:=h
  show Q ((vs S).set i (some v)) H
  have fin:∀ y,At K H0 Y δ.n (S++⟨some v,y,F⟩::T) H→P ⟨δ.sl.set i y,δ.n⟩→Q ((vs S).set i (some v)) H:=fun y hA' p=>by
    rw [← vs_set (x:=y) (F:=F)]
    exact k _ _ H (sl_set hS) hA'.store p
  unfold dgName at hd
  split at hd
  · exact hd.elim
  · rename_i m d hm
    refine fin _ ?_ hd
    refine (hA.mid.wk ?_).tomid
    cases m <;> first | rfl | exact (hm rfl).elim
  · exact fin _ hA hd
  · exact fin _ hA hd
  · exact fin _ hA hd
  · exact hd.elim
theorem own_le {K:PySem.W.Frag} {i:Nat}:∀ v σ H Q,LG K (dgOwn i) v σ H Q→gName i v σ H Q:=by
  intro v σ H Q h
  obtain ⟨H0,Y,S,T,δ,x,F,P,rfl,hS,hA,hd,k⟩:=h
  show Q ((vs S).set i (some v)) H
  have fin:∀ y,At K H0 Y δ.n (S++⟨some v,y,F⟩::T) H→P ⟨δ.sl.set i y,δ.n⟩→Q ((vs S).set i (some v)) H:=fun y hA' p=>by
    rw [← vs_set (x:=y) (F:=F)]
    exact k _ _ H (sl_set hS) hA'.store p
  unfold dgOwn at hd
  split at hd
  · exact fin _ hA hd
  · exact fin _ hA hd
  · exact hd.elim
section
variable {X:Cx} {pos:Pos}
theorem dg_name {i:Nat} {x:Str} (hN:X.N.Nodup) (hi:X.N[i]? = some x) (hx:Loc X.env.scope x) (hf:X.fn x=true∨X.env.scope.names.lookup x=some .local:=by first | exact .inl rfl | exact .inr rfl | assumption):PGD X (.Name x pos) (dgName i):=PG.imp (pg_name hN hi hx hf) name_le
theorem ds_set {i:Nat} {x:Str} {e:Expr} {de:DE} {pos':Pos} (hN:X.N.Nodup) (hi:X.N[i]? = some x) (hx:Loc X.env.scope x) (he:PED X e de) (hs:swapsWith e (some (.Name x pos')) pos.line X.env=pure false:=by rfl) (hf:X.fn x=true∨X.env.scope.names.lookup x=some .local:=by first | exact .inl rfl | exact .inr rfl | assumption):PSD X (.Assign [.Name x pos'] e pos) (dAsg de (dgName i)):=PS.impD (ps_set hN hi hx he hs hf) (asg_le (fun _ _ _ h=>h) name_le)
theorem ds_setO {i:Nat} {x:Str} {e:Expr} {de:DE} {pos':Pos} (hN:X.N.Nodup) (hi:X.N[i]? = some x) (hx:Loc X.env.scope x) (he:PED X e de) (hs:swapsWith e (some (.Name x pos')) pos.line X.env=pure false:=by rfl) (hf:X.fn x=true∨X.env.scope.names.lookup x=some .local:=by first | exact .inl rfl | exact .inr rfl | assumption):PSD X (.Assign [.Name x pos'] e pos) (dAsg de (dgOwn i)):=PS.impD (ps_set hN hi hx he hs hf) (asg_le (fun _ _ _ h=>h) own_le)
end
end DL
namespace DL
open PySem L2 Nd
theorem sep_of {K:PySem.W.Frag} {H0 H:Hp} {X:Addr→Prop} {n:Nat} {E:List Ent} (h:At K H0 X n E H):∀ {e f:Ent},e∈E→f∈E→e=f∨SepR e f:=by
  have main:∀ {E:List Ent},E.Pairwise SepR→∀ {e f:Ent},e∈E→f∈E→e=f∨SepR e f:=by
    intro E
    induction E with
    | nil=>intro _ e f he; cases he
    | cons g E ih =>
      intro hp e f he hf
      have hc:=List.pairwise_cons.mp hp
      rcases List.mem_cons.mp he with he | he
      · subst he
        rcases List.mem_cons.mp hf with hf | hf
        · exact .inl hf.symm
        · exact .inr (hc.1 f hf)
      · rcases List.mem_cons.mp hf with hf | hf
        · rw [hf]
          exact .inr (hc.1 e he).symm
        · exact ih hc.2 he hf
  intro e f he hf
  exact main h.sep he hf
abbrev DI:=DS→(Md→List PyData→DS→Prop)→Prop
structure IterOk (K:PySem.W.Frag) (J:It) (hid:List Ent) (m:Md) (ds:List PyData):Prop where
  md:m=.sh∨m=.pk
  hd:∀ e∈hid,cells e=[]
  np:m=.sh→∀ e∈hid,isPk e.x=false
  go:∀ H n i,(∀ e∈hid,EntOk K H n e)→i<ds.length→J.go i H
  yld:∀ H n i x H',(∀ e∈hid,EntOk K H n e)→i<ds.length→J.yld i H x H'→Same H H'∧∃ d F,ds[i]? = some d∧RdF K H' x d F∧∀ a∈F,∃ e∈hid,a∈e.F
  stop:∀ H n,(∀ e∈hid,EntOk K H n e)→J.stop ds.length H
def LI (K:PySem.W.Frag) (di:DI):TI:=fun σ H R=>∃ (H0:Hp) (X:Addr→Prop) (S T:List Ent) (δ:DS) (P:Md→List PyData→DS→Prop),vs S=σ∧Sl S δ∧At K H0 X δ.n (S++T) H∧di δ P ∧
  ∀ m ds δ' J hid S' H',vs S'=σ→Sl S' δ'→At K H0 X δ'.n (S'++(hid++T)) H'→IterOk K J hid m ds→ds.length≤sizeLine→P m ds δ'→R J H'
abbrev PID (X:Cx) (tg iter:Expr) (di:DI):Prop:=PI X tg iter (LI X.K di)
theorem PI.imp {X:Cx} {tg e:Expr} {t t':TI} (h:PI X tg e t) (k:∀ σ H Q,t' σ H Q→t σ H Q):PI X tg e t':=fun pins s σ H Q I q=>h pins s σ H Q I (k σ H Q q)
def mdIt:Md→Md
  | .pk=>.pk
  | _=>.sh
theorem mdIt_wk (m:Md):wk m (mdIt m)=true:=by cases m <;> rfl
theorem At.item {K:PySem.W.Frag} {H0 H H':Hp} {X:Addr→Prop} {n:Nat} {S T hid:List Ent} {m:Md} {v:V} {d:PyData} {F:List Addr} (h:At K H0 X n (S++(hid++T)) H) (s:Same H H') (r:RdF K H' v d F) (hF:∀ a∈F,∃ e∈hid,a∈e.F) (md:m=.sh∨m=.pk) (hh:∀ e∈hid,cells e=[]) (np:m=.sh→∀ e∈hid,isPk e.x=false):At K H0 X n (S++⟨some v,.dat m d,F⟩::(hid++T)) H':=by
  have h1:=h.grow (n':=n) s (Nat.le_refl _)
  have c0:∀ a,a∉cells ⟨some v,.dat m d,F⟩:=fun a ha=>by
    rcases md with rfl | rfl <;> exact nomatch ha
  refine (h1.push (e:=⟨some v,.dat m d,F⟩) ⟨v,rfl,r,fun z=>?_,fun z=>?_⟩ (fun f hf=>⟨fun _ a ha=>absurd ha (c0 a),fun hq a ha z=>?_⟩) fun a ha=>absurd ha (c0 a)).tomid
  · rcases md with rfl | rfl <;> cases z
  · rcases md with rfl | rfl <;> cases z
  · obtain ⟨e,he,ze⟩:=hF a z
    have he':e∈S++(hid++T):=List.mem_append_right _ (List.mem_append_left _ he)
    rcases sep_of h he' hf with rfl | q
    · rw [hh e he] at ha
      cases ha
    · refine q.2 ?_ a ha ze
      rcases hq with hq | hq
      · refine .inl (np ?_ e he)
        rcases md with rfl | rfl
        · rfl
        · cases hq
      · exact .inr hq
def diSeq (de:DE):DI:=fun δ P=>de δ fun x δ'=>match x with
  | .dat m (.list ds)=>P (mdIt m) ds δ'
  | .dat m (.tuple ds)=>P (mdIt m) ds δ'
  | _=>False
def diRange1 (da:DA):DI:=fun δ P=>da δ fun xs δ'=>match xs with
  | [.dat _ (.int j)]=>-1000000≤j∧j≤1000000∧P .sh ((List.range j.toNat).map fun i:Nat=>.int i) δ'
  | _=>False
def diEnum (da:DA):DI:=fun δ P=>da δ fun xs δ'=>match xs with
  | [.dat m (.list ds)]=>P (mdIt m) (ds.zipIdx.map fun p=>.tuple [.int p.2,p.1]) δ'
  | _=>False
def diEnumT (da:DA):DI:=fun δ P=>da δ fun xs δ'=>match xs with
  | [.dat m (.tuple ds)]=>P (mdIt m) (ds.zipIdx.map fun p=>.tuple [.int p.2,p.1]) δ'
  | _=>False
def mdZip:Md→Md→Md
  | .pk,_=>.pk
  | _,.pk=>.pk
  | _,_=>.sh
section
variable {K:PySem.W.Frag}
theorem told_of {H:Hp} {n:Nat} {v:V} {m:Md} {d:PyData} {F:List Addr} {hid:List Ent} (h:∀ e∈hid,EntOk K H n e) (he:⟨some v,.dat m d,F⟩∈hid):RdF K H v d F:=by
  obtain ⟨w,e1,h1,_⟩:=h _ he
  cases e1
  exact h1
theorem cells_it {v:Option V} {m:Md} {d:PyData} {F:List Addr}:cells ⟨v,.dat (mdIt m) d,F⟩=[]:=by cases m <;> rfl
theorem hid_it {v:Option V} {m:Md} {d:PyData} {F:List Addr}:∀ e∈[(⟨v,.dat (mdIt m) d,F⟩ : Ent)],cells e=[]:=fun e he=>by
  rw [List.mem_singleton.mp he]
  exact cells_it
theorem np_it {v:Option V} {m:Md} {d:PyData} {F:List Addr}:mdIt m=.sh→∀ e∈[(⟨v,.dat (mdIt m) d,F⟩ : Ent)],isPk e.x=false:=fun z e he=>by
  rw [List.mem_singleton.mp he]
  show isPk (.dat (mdIt m) d)=false
  rw [z]
  rfl
theorem mdIt_or (m:Md):mdIt m=.sh∨mdIt m=.pk:=by cases m <;> simp [mdIt]
theorem iter_list {a:Addr} {m:Md} {ds:List PyData} {F:List Addr}:IterOk K (Itl K a) [⟨some (.ref a),.dat (mdIt m) (.list ds),F⟩] (mdIt m) ds where
  md:=mdIt_or m
  hd:=hid_it
  np:=np_it
  go:=fun H n i h hi=>by
    obtain ⟨b,xs,G,e,hb,rb,_,_⟩:=(told_of h List.mem_cons_self).list_inv
    cases e
    have hl:=rb.len
    exact ⟨xs,xs[i],SqL.of hb,by simp [show i<xs.length by omega]⟩
  yld:=fun H n i x H' h hi y=>by
    obtain ⟨b,xs,G,e,hb,rb,rfl,_⟩:=(told_of h List.mem_cons_self).list_inv
    cases e
    obtain ⟨rfl,y⟩:=y
    have hx:=y xs (SqL.of hb)
    obtain ⟨x',F',h1,h2,h3⟩:=rb.get (i:=i) (e:=ds[i]) (by simp [hi])
    rw [hx] at h1
    cases h1
    exact ⟨Same.refl _,ds[i],F',by simp [hi],h2,fun c hc=>⟨_,List.mem_cons_self,List.mem_cons_of_mem _ (h3.subset hc)⟩⟩
  stop:=fun H n h=>by
    obtain ⟨b,xs,G,e,hb,rb,_,_⟩:=(told_of h List.mem_cons_self).list_inv
    cases e
    exact ⟨xs,SqL.of hb,by rw [rb.len]; exact Nat.le_refl _⟩
theorem iter_tup {a:Addr} {m:Md} {ds:List PyData} {F:List Addr}:IterOk K (Itt K a) [⟨some (.ref a),.dat (mdIt m) (.tuple ds),F⟩] (mdIt m) ds where
  md:=mdIt_or m
  hd:=hid_it
  np:=np_it
  go:=fun H n i h hi=>by
    obtain ⟨b,xs,e,hb,rb,_⟩:=(told_of h List.mem_cons_self).tup_inv
    cases e
    have hl:=rb.len
    exact ⟨xs,xs[i],SqT.of hb,by simp [show i<xs.length by omega]⟩
  yld:=fun H n i x H' h hi y=>by
    obtain ⟨b,xs,e,hb,rb,_⟩:=(told_of h List.mem_cons_self).tup_inv
    cases e
    obtain ⟨rfl,y⟩:=y
    have hx:=y xs (SqT.of hb)
    obtain ⟨x',F',h1,h2,h3⟩:=rb.get (i:=i) (e:=ds[i]) (by simp [hi])
    rw [hx] at h1
    cases h1
    exact ⟨Same.refl _,ds[i],F',by simp [hi],h2,fun c hc=>⟨_,List.mem_cons_self,h3.subset hc⟩⟩
  stop:=fun H n h=>by
    obtain ⟨b,xs,e,hb,rb,_⟩:=(told_of h List.mem_cons_self).tup_inv
    cases e
    exact ⟨xs,SqT.of hb,by rw [rb.len]; exact Nat.le_refl _⟩
theorem iter_range {lo:Int} {n:Nat}:IterOk K (Itr lo n) [] .sh ((List.range n).map fun i:Nat=>.int (lo+i)) where
  md:=.inl rfl
  hd:=fun _ z=>nomatch z
  np:=fun _ _ z=>nomatch z
  go:=fun H k i h hi=>by
    show i<n
    simpa using hi
  yld:=fun H k i x H' h hi y=>by
    obtain ⟨rfl,rfl⟩:=y
    rw [List.length_map,List.length_range] at hi
    exact ⟨Same.refl _,.int (lo+i),[],by simp [hi],.int _,fun _ z=>nomatch z⟩
  stop:=fun H k h=>by simp [Itr]
theorem iter_enum {a:Addr} {m:Md} {ds:List PyData} {F:List Addr}:IterOk K (Ite K a) [⟨some (.ref a),.dat (mdIt m) (.list ds),F⟩] (mdIt m) (ds.zipIdx.map fun p=>.tuple [.int p.2,p.1]) where
  md:=mdIt_or m
  hd:=hid_it
  np:=np_it
  go:=fun H n i h hi=>by
    obtain ⟨b,xs,G,e,hb,rb,_,_⟩:=(told_of h List.mem_cons_self).list_inv
    cases e
    have hl:=rb.len
    rw [List.length_map,List.length_zipIdx] at hi
    exact ⟨xs,xs[i],SqL.of hb,by simp [show i<xs.length by omega]⟩
  yld:=fun H n i x H' h hi y=>by
    obtain ⟨b,xs,G,e,hb,rb,rfl,_⟩:=(told_of h List.mem_cons_self).list_inv
    cases e
    rw [List.length_map,List.length_zipIdx] at hi
    obtain ⟨t,z,rfl,nt,rfl,y⟩:=y
    have hx:=y xs (SqL.of hb)
    obtain ⟨x',F',h1,h2,h3⟩:=rb.get (i:=i) (e:=ds[i]) (by simp [hi])
    rw [hx] at h1
    cases h1
    have s1:=same_new nt (.tup [.int i,z])
    refine ⟨s1,.tuple [.int i,ds[i]],F',by simp [hi],.tup upd_same (by simp [sizeLine_eq]) ?_,fun c hc=>⟨_,List.mem_cons_self,List.mem_cons_of_mem _ (h3.subset hc)⟩⟩
    have:=RdFs.cons (F:=[]) (.int (i:Int)) (RdFs.cons (h2.kp (Kp.of s1)) RdFs.nil)
    rw [List.append_nil] at this
    exact this
  stop:=fun H n h=>by
    obtain ⟨b,xs,G,e,hb,rb,_,_⟩:=(told_of h List.mem_cons_self).list_inv
    cases e
    exact ⟨xs,SqL.of hb,by rw [List.length_map,List.length_zipIdx,rb.len]; exact Nat.le_refl _⟩
end
section
variable {X:Cx} {tg e:Expr} {de:DE} {di:DI}
def dL (de:DE):DI:=fun δ P=>de δ fun x δ'=>match x with
  | .dat m (.list ds)=>P (mdIt m) ds δ'
  | _=>False
def dTp (de:DE):DI:=fun δ P=>de δ fun x δ'=>match x with
  | .dat m (.tuple ds)=>P (mdIt m) ds δ'
  | _=>False
theorem dil (h:PED X e de):PID X tg e (dL de):=by
  refine PI.imp (pi_list h) fun σ H R h=>?_
  obtain ⟨H0,Y,S,T,δ,P,rfl,hS,hA,hd,k⟩:=h
  refine ⟨H0,Y,S,T,δ,_,rfl,hS,hA,hd,fun x δ1 v F S1 H1 e1 e2 hA1 p1=>?_⟩
  split at p1
  · obtain ⟨a,xs,G,rfl,ha,ra,rfl,hz⟩:=(hA1.told mem_mid).list_inv
    exact ⟨a,rfl,⟨xs,SqL.of ha⟩,k _ _ δ1 _ [_] S1 H1 e1 e2 ((hA1.mid.wk (mdIt_wk _)).tomid) iter_list hz p1⟩
  · exact p1.elim
theorem dit (h:PED X e de):PID X tg e (dTp de):=by
  refine PI.imp (pi_tup h) fun σ H R h=>?_
  obtain ⟨H0,Y,S,T,δ,P,rfl,hS,hA,hd,k⟩:=h
  refine ⟨H0,Y,S,T,δ,_,rfl,hS,hA,hd,fun x δ1 v F S1 H1 e1 e2 hA1 p1=>?_⟩
  split at p1
  · obtain ⟨a,xs,rfl,ha,ra,hz⟩:=(hA1.told mem_mid).tup_inv
    exact ⟨a,rfl,⟨xs,SqT.of ha⟩,k _ _ δ1 _ [_] S1 H1 e1 e2 ((hA1.mid.wk (mdIt_wk _)).tomid) iter_tup hz p1⟩
  · exact p1.elim
variable {es:List Expr} {da:DA} {a b:Expr} {p pos tp:Pos} {elts:List Expr} {kt:Nat}
theorem di_range1 (hg:Gl X "range") (hm:X.mg "range" = none) (ha:PAD X [a] da) (hs:starEach [a] X.env=[(false,eval a X.env)]:=by rfl):PID X tg (.Call (.Name "range" p) [a] [] pos) (diRange1 da):=by
  refine PI.imp (pi_range1 hg hm ha hs) fun σ H R h=>?_
  obtain ⟨H0,Y,S,T,δ,P,rfl,hS,hA,hd,k⟩:=h
  refine ⟨H0,Y,S,T,δ,_,rfl,hS,hA,hd,fun xs δ' As us S' H' e1 e2 ex eu hA' p=>?_⟩
  split at p
  · obtain ⟨v,F,rfl,hA2⟩:=one_arg eu hA' ex
    obtain ⟨rfl,_⟩:=(hA2.told mem_mid).int_inv
    obtain ⟨j0,j1,pp⟩:=p
    refine ⟨_,rfl,by omega,by omega,k _ _ δ' _ [] S' H' e1 e2 hA2.drop iter_range (by rw [List.length_map,List.length_range]; exact sz2 (by omega)) ?_⟩
    simpa using pp
  · exact p.elim
theorem di_enum (hg:Gl X "enumerate") (hm:X.mg "enumerate" = none) (ha:PAD X [a] da) (hs:starEach [a] X.env=[(false,eval a X.env)]:=by rfl):PID X (.Tuple elts kt tp) (.Call (.Name "enumerate" p) [a] [] pos) (diEnum da):=by
  refine PI.imp (pi_enum hg hm ha hs) fun σ H R h=>?_
  obtain ⟨H0,Y,S,T,δ,P,rfl,hS,hA,hd,k⟩:=h
  refine ⟨H0,Y,S,T,δ,_,rfl,hS,hA,hd,fun xs δ' As us S' H' e1 e2 ex eu hA' p=>?_⟩
  split at p
  · obtain ⟨v,F,rfl,hA2⟩:=one_arg eu hA' ex
    obtain ⟨a,xs,G,rfl,ha,ra,rfl,hz⟩:=(hA2.told mem_mid).list_inv
    exact ⟨a,rfl,⟨xs,SqL.of ha⟩,k _ _ δ' _ [_] S' H' e1 e2 ((hA2.mid.wk (mdIt_wk _)).tomid) iter_enum (by rw [List.length_map,List.length_zipIdx]; exact hz) p⟩
  · exact p.elim
end
def dFor (di:DI) (dg:DG) (db:DB):DB:=fun D δ=>di δ fun m ds δ1=>m=.sh∧∃ I:Nat→DS→Prop,I 0 δ1 ∧
  (∀ i d δ',ds[i]? = some d→I i δ'→dg (.dat .sh d) δ' fun δ2=>db { D with nx:=I (i+1),ct:=I (i+1),bk:=D.nx } δ2)∧∀ δ',I ds.length δ'→D.nx δ'
section
variable {X:Cx} {tg iter:Expr} {di:DI} {dg:DG} {db:DB} {body:List Stmt} {pos:Pos}
theorem At.dropH {K:PySem.W.Frag} {H0 H:Hp} {X:Addr→Prop} {n:Nat} {S T hid:List Ent} {e:Ent} (h:At K H0 X n (S++e::(hid++T)) H):At K H0 X n (S++e::T) H:=h.sub ((List.Sublist.refl S).append ((List.sublist_append_right hid T).cons₂ e))
theorem ds_for (hp:PassesOwn (model X.prog X.w) X.A X.env X.xe) (hc:X.calm=true) (hi:PID X tg iter di) (hg:PGD X tg dg) (hb:PSsD X body db) (hs:∀ x,foldedSetIterable iter X.env x=pure x:=by intro _; rfl):PSD X (.For tg iter body [] pos) (dFor di dg db):=by
  refine PS.impD (ps_for hp hc hi hg hb hs) fun D σ H h=>?_
  obtain ⟨H0,Y,S,T,δ,P,rfl,hS,hT,hA,hd,k1,k2,k3,k4⟩:=h
  refine ⟨H0,Y,S,T,δ,_,rfl,hS,hA,hd,fun m ds δ1 J hid S1 H1 e1 e2 hA1 it hz p1=>?_⟩
  obtain ⟨rfl,I,h0,hs,hf⟩:=p1
  rw [← e1]
  have hT':∀ e∈hid++T,isPk e.x=false:=fun e he=>by
    rcases List.mem_append.mp he with he | he
    · exact it.np rfl e he
    · exact hT e he
  refine ⟨fun i q σ H=>q=ds.length - i∧i≤ds.length∧∃ S δ,vs S=σ∧Sl S δ∧At X.K H0 Y δ.n (S++(hid++T)) H∧I i δ,⟨ds.length,by simp,Nat.zero_le _,S1,δ1,rfl,e2,hA1,h0⟩,?_⟩
  rintro i q σ H ⟨rfl,hi,S2,δ2,rfl,e3,hA2,hI⟩
  have hid_ok:∀ e∈hid,EntOk X.K H δ2.n e:=fun e he=>hA2.ok e (List.mem_append_right _ (List.mem_append_left _ he))
  by_cases hlt:i<ds.length
  · refine .inr ⟨it.go H δ2.n i hid_ok hlt,fun σ' H'=>∃ S δ,vs S=σ'∧Sl S δ∧At X.K H0 Y δ.n (S++(hid++T)) H'∧I (i+1) δ,fun σ' H' q=>⟨ds.length - (i+1),by omega,rfl,hlt,q⟩,fun x H' y=>?_⟩
    obtain ⟨s1,d,F,h1,h2,h3⟩:=it.yld H δ2.n i x H' hid_ok hlt y
    refine ⟨H0,Y,S2,hid++T,δ2,.dat .sh d,F,_,rfl,e3,hA2.item s1 h2 h3 it.md it.hd it.np,hs i d δ2 h1 hI,fun δ3 S3 H3 e4 hA3 p3=>?_⟩
    refine ⟨H0,Y,S3,hid++T,δ3,_,rfl,e4,hT',hA3,p3,fun δ4 S4 H4 e5 hA4 p4=>⟨S4,δ4,rfl,e5,hA4,p4⟩,fun x δ4 v F S4 H4 e5 hA4 p4=>k2 x δ4 v F S4 H4 e5 hA4.dropH p4,
      fun δ4 S4 H4 e5 hA4 p4=>k1 δ4 S4 H4 e5 hA4.dropL p4,fun δ4 S4 H4 e5 hA4 p4=>⟨S4,δ4,rfl,e5,hA4,p4⟩⟩
  · have e:i=ds.length:=by omega
    subst e
    exact .inl ⟨it.stop H δ2.n hid_ok,k1 δ2 S2 H e3 hA2.dropL (hf δ2 hI)⟩
end
end DL
namespace Nd
open PySem PySem.Spec PyProof.Rows L2
end Nd
namespace Nd
open PySem PySem.Spec PyProof.Rows L2
end Nd
namespace DL
open PySem L2 Nd
def al (e:Ent):Ent:=match e.x with
  | .dat m d=>⟨e.v,.dat (pkOf m) d,e.F⟩
  | .val _=>e
  | .scr _=>e
  | _=>⟨e.v,.un,[]⟩
def alD:DV→DV
  | .dat m d=>.dat (pkOf m) d
  | .val v=>.val v
  | .scr ns=>.scr ns
  | _=>.un
def frAt (S:List Ent) (j:Nat):Ent:=match S[j]? with
  | some e=>al e
  | none=>⟨none,.un,[]⟩
def frE (S:List Ent) (js:List Nat):List Ent:=js.map (frAt S)
def frD1 (sl:List DV) (j:Nat):DV:=match sl[j]? with
  | some x=>alD x
  | none=>.un
def frD (sl:List DV) (js:List Nat):List DV:=js.map (frD1 sl)
theorem al_v (e:Ent):(al e).v=e.v:=by
  obtain ⟨v,x,F⟩:=e
  cases x <;> rfl
theorem al_x (e:Ent):(al e).x=alD e.x:=by
  obtain ⟨v,x,F⟩:=e
  cases x <;> rfl
theorem vs_fr (S:List Ent) (js:List Nat):vs (frE S js)=frees (vs S) js:=by
  unfold vs frE frees
  rw [List.map_map]
  refine List.map_congr_left fun j _=>?_
  rw [List.getElem?_map]
  simp only [Function.comp,frAt]
  cases S[j]? with
  | none=>rfl
  | some e=>exact al_v e
theorem sl_fr {S:List Ent} {δ:DS} (h:Sl S δ) (js:List Nat):(frE S js).map Ent.x=frD δ.sl js:=by
  unfold Sl at h
  unfold frE frD
  rw [List.map_map]
  refine List.map_congr_left fun j _=>?_
  simp only [Function.comp,frAt,frD1]
  rw [← h,List.getElem?_map]
  cases S[j]? with
  | none=>rfl
  | some e=>exact al_x e
section
variable {K:PySem.W.Frag} {H0 H H':Hp} {X:Addr→Prop} {n:Nat} {E S T:List Ent}
theorem cells_al (e:Ent):cells (al e)=[]:=by
  obtain ⟨v,x,F⟩:=e
  cases x with
  | dat m d=>cases m <;> rfl
  | _=>rfl
theorem At.view1 (h:At K H0 X n E H) {e:Ent} (he:e∈E):At K H0 X n (al e::E) H:=by
  refine h.push ?_ (fun f hf=>⟨fun _ a ha=>(by rw [cells_al] at ha; cases ha),fun hq a ha z=>?_⟩) fun a ha=>(by rw [cells_al] at ha; cases ha)
  · have:=h.ok e he
    obtain ⟨v,x,F⟩:=e
    cases x with
    | dat m d =>
      obtain ⟨w,h1,h2,_⟩:=this
      exact ⟨w,h1,h2,fun z=>(by cases m <;> cases z),fun z=>(by cases m <;> cases z)⟩
    | val v=>exact this
    | scr ns=>exact this
    | _=>exact (rfl:([]:List Addr)=[])
  · obtain ⟨v,x,F⟩:=e
    cases x with
    | dat m d =>
      rcases sep_of h he hf with rfl | q
      · rcases hq with hq | hq
        · cases m <;> first | cases hq; done | exact nomatch ha
        · cases hq
      · refine q.2 ?_ a ha z
        rcases hq with hq | hq
        · refine .inl ?_
          cases m <;> first | rfl | exact hq
        · exact .inr hq
    | val v =>
      rw [show F=[] from (h.ok _ he).2] at z
      cases z
    | scr ns =>
      obtain ⟨_,_,hF,_⟩:=h.ok _ he
      rw [show F=[] from hF] at z
      cases z
    | _=>exact nomatch z
theorem At.blank (h:At K H0 X n E H) {v:Option V}:At K H0 X n (⟨v,.un,[]⟩::E) H :=
  h.push (rfl:([]:List Addr)=[]) (fun f _=>⟨fun _ a ha=>(nomatch ha),fun _ a _=>List.not_mem_nil⟩) (fun a ha=>(nomatch ha))
theorem At.view (h:At K H0 X n E H) (hS:∀ e∈S,e∈E):∀ js:List Nat,At K H0 X n (frE S js++E) H
  | []=>h
  | j::js=>by
    have ih:=At.view h hS js
    show At K H0 X n (frAt S j::(frE S js++E)) H
    unfold frAt
    cases e:S[j]? with
    | none=>exact ih.blank
    | some x=>exact ih.view1 (List.mem_append_right _ (hS x (List.mem_of_getElem? e)))
theorem At.accNew (h:At K H0 X n E H) {D:Addr} (hD:H D=Option.none):At K H0 X n (⟨some (.ref D),.acc [],[D]⟩::E) (upd H D (.lst [])):=by
  have s1:=same_new hD (.lst [])
  refine (h.grow (n':=n) s1 (Nat.le_refl _)).push ⟨D,[],[],rfl,rfl,upd_same,.nil,Nat.zero_le _,List.not_mem_nil⟩ (fun f hf=>?_) fun a ha=>?_
  · have nf:=h.free hD f hf
    refine ⟨fun _ a ha z=>?_,fun _ a ha z=>?_⟩
    · rw [List.mem_singleton.mp ha] at z
      exact nf z
    · rw [List.mem_singleton.mp z] at ha
      exact nf (cells_sub _ _ ha)
  · rw [List.mem_singleton.mp ha]
    exact .inl (h.new0 hD)
theorem At.accPutG {D:Addr} {ds:List PyData} {v:V} {m:Md} {e:PyData} {F G:List Addr} (h:At K H0 X n (⟨some (.ref D),.acc ds,D::G⟩::⟨some v,.dat m e,F⟩::E) H) (hm:m≠.pk) (hz:ds.length+1≤sizeLine):∃ xs,H D=some (.lst xs)∧xs.length=ds.length∧At K H0 X n (⟨some (.ref D),.acc (ds++[e]),D::(G++F)⟩::E) (upd H D (.lst (xs++[v]))):=by
  obtain ⟨a,xs,G',e1,e0,ha,ra,_,nG⟩:=h.ok _ List.mem_cons_self
  have e1':some (V.ref D)=some (V.ref a):=e1
  cases e1'
  have e0':D::G=D::G':=e0
  cases e0'
  have r:RdF K H v e F:=h.told (List.mem_cons_of_mem _ List.mem_cons_self)
  have hs:=List.pairwise_cons.mp h.sep
  have hs2:=List.pairwise_cons.mp hs.2
  have h1:=(h.sub (List.sublist_cons_self _ _)).sub (List.sublist_cons_self _ _)
  have npk:isPk (.dat m e)=false:=by cases m <;> first | rfl | exact absurd rfl hm
  have nF:D∉F:=(hs.1 _ List.mem_cons_self).1 (.inr rfl) D List.mem_cons_self
  have kp:∀ {F:List Addr},D∉F→Kp F H (upd H D (.lst (xs++[v]))):=fun {F} hF b o q z=>by
    have : b≠D:=by
      rintro rfl
      rw [ha] at q
      cases q
      rcases z with z | z
      · exact hF z
      · rcases z with ⟨_,z⟩ | ⟨_,_,z⟩ <;> cases z
    rw [upd_ne this]
    exact q
  have nD:H0 D=Option.none:=by
    rcases h.new _ List.mem_cons_self D List.mem_cons_self with z | z
    · exact z
    · cases z.2
  refine ⟨xs,ha,ra.len,?_⟩
  refine ⟨fun f hf=>?_,?_,fun f hf=>?_,fun b o nx q=>?_,fun b o q=>?_,fun b hb=>?_⟩
  rotate_right
  · obtain ⟨z,c,k,f,h1,h2⟩:=h.xd b hb
    refine ⟨z,c,k,f,(upd_ne ?_).trans h1,h2⟩
    rintro rfl
    exact z nD
  · rcases List.mem_cons.mp hf with rfl | hf
    · exact ⟨D,xs++[v],G++F,rfl,rfl,upd_same,(ra.kp (kp nG)).snoc (r.kp (kp nF)),by rw [List.length_append]; exact hz,fun z=>(List.mem_append.mp z).elim nG nF⟩
    · exact (h1.ok f hf).kp (kp ((hs.1 f (List.mem_cons_of_mem _ hf)).1 (.inr rfl) D List.mem_cons_self)) (Nat.le_refl _)
  · refine List.pairwise_cons.mpr ⟨fun f hf=>⟨fun hq a ha'=>(hs.1 f (List.mem_cons_of_mem _ hf)).1 (.inr rfl) a ha',fun hq a ha' z=>?_⟩,hs2.2⟩
    have z1:=(hs.1 f (List.mem_cons_of_mem _ hf)).2 (.inl rfl) a ha'
    rcases List.mem_cons.mp z with z | z
    · exact z1 (z▸List.mem_cons_self)
    · rcases List.mem_append.mp z with z | z
      · exact z1 (List.mem_cons_of_mem _ z)
      · exact (hs2.1 f hf).2 (.inl npk) a ha' z
  · rcases List.mem_cons.mp hf with rfl | hf
    · intro a ha'
      rw [List.mem_singleton.mp ha']
      exact .inl nD
    · exact h1.new f hf
  · rw [upd_ne (ne_of_none q nD)]
    exact h.same b o nx q
  · rw [upd_ne (ne_of_none q nD)]
    exact h.dom b o q
theorem At.accPut {D:Addr} {ds:List PyData} {v:V} {e:PyData} (h:At K H0 X n (⟨some (.ref D),.acc ds,[D]⟩::E) H) (r:RdF K H v e []) (hz:ds.length+1≤sizeLine):∃ xs,H D=some (.lst xs)∧xs.length=ds.length∧At K H0 X n (⟨some (.ref D),.acc (ds++[e]),[D]⟩::E) (upd H D (.lst (xs++[v]))) :=
  At.accPutG (m:=.ow) (At.pushI (S:=[⟨some (.ref D),.acc ds,[D]⟩]) h r) (by decide) hz
def accMd:Bool→Md
  | true=>.ow
  | false=>.tp
theorem At.accGetG {D:Addr} {ds:List PyData} {b:Bool} {G:List Addr} (h:At K H0 X n (⟨some (.ref D),.acc ds,D::G⟩::E) H) (hb:b=true→G=[]):At K H0 X n (⟨some (.ref D),.dat (accMd b) (.list ds),D::G⟩::E) H:=by
  obtain ⟨a,xs,G',e1,e0,ha,ra,hz,nG⟩:=h.ok _ List.mem_cons_self
  have e1':some (V.ref D)=some (V.ref a):=e1
  cases e1'
  have e0':D::G=D::G':=e0
  cases e0'
  have hs:=List.pairwise_cons.mp h.sep
  have cs:∀ a∈cells ⟨some (.ref D),.dat (accMd b) (.list ds),D::G⟩,a=D:=fun a ha'=>by
    cases b with
    | true=>rw [hb rfl] at ha'; exact List.mem_singleton.mp ha'
    | false=>exact List.mem_singleton.mp ha'
  refine (h.sub (List.sublist_cons_self _ _)).push ⟨_,rfl,.lst ha hz ra,fun z=>?_,fun _ a l e=>?_⟩ (fun f hf=>⟨fun hq a ha'=>?_,fun hq a ha'=>(hs.1 f hf).2 (.inl rfl) a ha'⟩) fun a ha'=>?_
  · cases b with
    | true=>rw [hb rfl]; exact List.nodup_cons.mpr ⟨List.not_mem_nil,List.nodup_nil⟩
    | false=>cases z
  · have e:D::G=a::l:=e
    cases e
    exact nG
  · rw [cs a ha']
    exact (hs.1 f hf).1 (.inr rfl) D List.mem_cons_self
  · rw [cs a ha']
    rcases h.new _ List.mem_cons_self D List.mem_cons_self with z | z
    · exact .inl z
    · cases z.2
end
def dNoTest:DT:=fun δ P=>P true δ
def itemOk (b:Bool) (m:Md) (e:PyData):Prop:=match b with
  | true=>imm e=true
  | false=>m≠.pk
def compStepG (b:Bool) (dc:DT) (de:DE) (δ:DS) (yes:PyData→Nat→Prop) (no:Nat→Prop):Prop:=dc δ fun c δ2=>match c with
  | true=>de δ2 fun y δ3=>match y with
    | .dat m e=>itemOk b m e∧yes e δ3.n
    | _=>False
  | false=>no δ2.n
def dCompG (b:Bool) (di:DI) (js:List Nat) (dc:DT) (de:DE):DE:=fun δ P=>di δ fun m ds δ1=>∃ I:Nat→List PyData→Nat→Prop,I 0 [] δ1.n ∧
  (∀ i d acc n,ds[i]? = some d→I i acc n→compStepG b dc de ⟨.dat m d::frD δ1.sl js,n⟩ (fun e n'=>I (i+1) (acc++[e]) n') (fun n'=>I (i+1) acc n')) ∧
  ∀ acc n,I ds.length acc n→P (.dat (accMd b) (.list acc)) ⟨δ1.sl,n⟩
def dCompG2 (b:Bool) (di:DI) (js:List Nat) (dc:DT) (de:DE):DE:=fun δ P=>di δ fun m ds δ1=>∃ I:Nat→List PyData→Nat→Prop,I 0 [] δ1.n ∧
  (∀ i d acc n,ds[i]? = some d→I i acc n→∃ d1 d2,d=.tuple [d1,d2]∧compStepG b dc de ⟨.dat m d1::.dat m d2::frD δ1.sl js,n⟩ (fun e n'=>I (i+1) (acc++[e]) n') (fun n'=>I (i+1) acc n')) ∧
  ∀ acc n,I ds.length acc n→P (.dat (accMd b) (.list acc)) ⟨δ1.sl,n⟩
def compStep:DT→DE→DS→(PyData→Nat→Prop)→(Nat→Prop)→Prop:=compStepG true
def dComp:DI→List Nat→DT→DE→DE:=dCompG true
def dComp2:DI→List Nat→DT→DE→DE:=dCompG2 true
section
variable {K:PySem.W.Frag} {H0 H H':Hp} {Y:Addr→Prop} {n:Nat} {E S T:List Ent}
theorem step_leG {b:Bool} {dc:DT} {de:DE} {δ:DS} {yes:PyData→Nat→Prop} {no:Nat→Prop} {D:Addr} {G:List Addr} {acc:List PyData} {N1:Hp→Prop} {N2:VK} (hS:Sl S δ) (hb:b=true→G=[]) (hA:At K H0 Y δ.n (S++⟨some (.ref D),.acc acc,D::G⟩::T) H) (h:compStepG b dc de δ yes no) (hz:acc.length+1≤sizeLine) (k1:∀ n' H',At K H0 Y n' (⟨some (.ref D),.acc acc,D::G⟩::T) H'→no n'→N1 H') (k2:∀ e n' v H' G',(b=true→G'=[])→(∃ xs,H' D=some (.lst xs)∧xs.length=acc.length∧At K H0 Y n' (⟨some (.ref D),.acc (acc++[e]),D::G'⟩::T) (upd H' D (.lst (xs++[v]))))→yes e n'→N2 v H'):LT K dc (vs S) H fun c H2=>if c=true then LE K de (vs S) H2 N2 else N1 H2:=by
  refine ⟨H0,Y,S,⟨some (.ref D),.acc acc,D::G⟩::T,δ,_,rfl,hS,hA,h,fun c δ2 S2 H2 e1 e2 hA2 p2=>?_⟩
  cases c with
  | false=>exact iteF (k1 _ _ (hA2.sub (List.sublist_append_right _ _)) p2)
  | true =>
    refine iteT ⟨H0,Y,S2,⟨some (.ref D),.acc acc,D::G⟩::T,δ2,_,e1,e2,hA2,p2,fun y δ3 v F S3 H3 e3 e4 hA3 p3=>?_⟩
    split at p3
    · rename_i m e
      have r:=hA3.told mem_mid
      cases b with
      | true =>
        obtain rfl:=r.imm p3.1
        obtain rfl:=hb rfl
        exact k2 _ _ _ _ [] (fun _=>rfl) ((hA3.drop.sub (List.sublist_append_right _ _)).accPut r hz) p3.2
      | false =>
        have hA4:At K H0 Y δ3.n (⟨some v,.dat m e,F⟩::⟨some (.ref D),.acc acc,D::G⟩::T) H3:=hA3.sub (List.sublist_append_right _ _)
        exact k2 _ _ _ _ (G++F) (fun z=>nomatch z) ((hA4.perm (List.Perm.swap _ _ _)).accPutG p3.1 hz) p3.2
    · exact p3.elim
theorem noTest_le {dt:TT}:∀ σ H Q,LT K dNoTest σ H Q→tNoTest σ H Q:=by
  intro σ H Q h
  obtain ⟨H0,Y,S,T,δ,P,rfl,hS,hA,hd,k⟩:=h
  exact k true δ S H rfl hS hA hd
theorem PTs.imp {X:Cx} {e:List Expr} {t t':TT} (h:PTs X e t) (k:∀ σ H Q,t' σ H Q→t σ H Q):PTs X e t':=fun pins s σ H Q I q=>h pins s σ H Q I (k σ H Q q)
theorem comp_le {b:Bool} {di:DI} {js:List Nat} {dc:DT} {de:DE}:∀ σ H Q,LE K (dCompG b di js dc de) σ H Q→tComp (LI K di) js (LT K dc) (LE K de) σ H Q:=by
  intro σ H Q h
  obtain ⟨H0,Y,S,T,δ,P,rfl,hS,hA,hd,k⟩:=h
  refine ⟨H0,Y,S,T,δ,_,rfl,hS,hA,hd,fun m ds δ1 J hid S1 H1 e1 e2 hA1 it hz p1=>?_⟩
  obtain ⟨I,h0,hs,hf⟩:=p1
  rw [← e1]
  intro D hD
  refine ⟨fun i q H=>q=ds.length - i∧i≤ds.length∧∃ acc n G,(b=true→G=[])∧At K H0 Y n (⟨some (.ref D),.acc acc,D::G⟩::(S1++(hid++T))) H∧acc.length≤i∧I i acc n,⟨ds.length,by simp,Nat.zero_le _,[],δ1.n,[],fun _=>rfl,hA1.accNew hD,Nat.le_refl _,h0⟩,?_⟩
  rintro i q H ⟨rfl,hi,acc,n,G,hG,hA2,hl,hI⟩
  have hid_ok:∀ e∈hid,EntOk K H n e:=fun e he=>hA2.ok e (List.mem_cons_of_mem _ (List.mem_append_right _ (List.mem_append_left _ he)))
  by_cases hlt:i<ds.length
  · refine .inr ⟨it.go H n i hid_ok hlt,fun x H' y=>?_⟩
    obtain ⟨s1,d,F,h1,h2,h3⟩:=it.yld H n i x H' hid_ok hlt y
    have hA3:At K H0 Y n ((⟨some (.ref D),.acc acc,D::G⟩::S1)++⟨some x,.dat m d,F⟩::(hid++T)) H':=At.item (S:=⟨some (.ref D),.acc acc,D::G⟩::S1) hA2 s1 h2 h3 it.md it.hd it.np
    have hA4:=hA3.mid
    have hA5:=At.view (S:=S1) hA4 (fun e he=>List.mem_cons_of_mem _ (List.mem_append_left _ (List.mem_cons_of_mem _ he))) js
    have hA6:At K H0 Y n ((⟨some x,.dat m d,F⟩::frE S1 js)++⟨some (.ref D),.acc acc,D::G⟩::(S1++(hid++T))) H':=hA5.mid
    have hS6:Sl (⟨some x,.dat m d,F⟩::frE S1 js) ⟨.dat m d::frD δ1.sl js,n⟩:=by
      unfold Sl
      rw [List.map_cons,sl_fr e2]
    have hv:vs (⟨some x,.dat m d,F⟩::frE S1 js)=some x::frees (vs S1) js:=by
      rw [← vs_fr]
      rfl
    refine ⟨fun H2=>∃ m',m'<ds.length - i∧_,fun y H3=>∃ acc,H3 D=some (.lst acc)∧acc.length<sizeLine∧∃ m',m'<ds.length - i∧_,fun H2 q=>q,fun y H3 q=>q,?_⟩
    rw [← hv]
    refine step_leG hS6 hG hA6 (hs i d acc n h1 hI) (by omega) (fun n' H2 hA7 p=>?_) (fun e n' v H2 G' hG' hA7 p=>?_)
    · exact ⟨ds.length - (i+1),by omega,rfl,hlt,acc,n',G,hG,hA7,by omega,p⟩
    · obtain ⟨xs,g1,g2,g3⟩:=hA7
      exact ⟨xs,g1,by omega,ds.length - (i+1),by omega,rfl,hlt,acc++[e],n',G',hG',g3,by rw [List.length_append]; simp; omega,p⟩
  · have e:i=ds.length:=by omega
    subst e
    refine .inl ⟨it.stop H n hid_ok,k _ ⟨δ1.sl,n⟩ _ (D::G) S1 H e1 e2 ?_ (hf acc n hI)⟩
    have hA3:=hA2.accGetG hG
    have hA4:At K H0 Y n (⟨some (.ref D),.dat (accMd b) (.list acc),D::G⟩::(S1++T)) H:=hA3.sub (((List.Sublist.refl S1).append (List.sublist_append_right hid T)).cons₂ _)
    exact hA4.tomid
theorem comp2_le {b:Bool} {di:DI} {js:List Nat} {dc:DT} {de:DE}:∀ σ H Q,LE K (dCompG2 b di js dc de) σ H Q→tComp2 K (LI K di) js (LT K dc) (LE K de) σ H Q:=by
  intro σ H Q h
  obtain ⟨H0,Y,S,T,δ,P,rfl,hS,hA,hd,k⟩:=h
  refine ⟨H0,Y,S,T,δ,_,rfl,hS,hA,hd,fun m ds δ1 J hid S1 H1 e1 e2 hA1 it hz p1=>?_⟩
  obtain ⟨I,h0,hs,hf⟩:=p1
  rw [← e1]
  intro D hD
  refine ⟨fun i q H=>q=ds.length - i∧i≤ds.length∧∃ acc n G,(b=true→G=[])∧At K H0 Y n (⟨some (.ref D),.acc acc,D::G⟩::(S1++(hid++T))) H∧acc.length≤i∧I i acc n,⟨ds.length,by simp,Nat.zero_le _,[],δ1.n,[],fun _=>rfl,hA1.accNew hD,Nat.le_refl _,h0⟩,?_⟩
  rintro i q H ⟨rfl,hi,acc,n,G,hG,hA2,hl,hI⟩
  have hid_ok:∀ e∈hid,EntOk K H n e:=fun e he=>hA2.ok e (List.mem_cons_of_mem _ (List.mem_append_right _ (List.mem_append_left _ he)))
  by_cases hlt:i<ds.length
  · refine .inr ⟨it.go H n i hid_ok hlt,fun x H' y=>?_⟩
    obtain ⟨s1,d,F,h1,h2,h3⟩:=it.yld H n i x H' hid_ok hlt y
    obtain ⟨d1,d2,rfl,hst⟩:=hs i d acc n h1 hI
    obtain ⟨t,xs,rfl,ht,rt,_⟩:=h2.tup_inv
    cases rt with
    | @cons w1 _ xs _ F1 _ r1 rt =>
      cases rt with
      | @cons w2 _ xs _ F2 G r2 rt =>
        cases rt
        have hA3:At K H0 Y n ((⟨some (.ref D),.acc acc,D::G⟩::S1)++⟨some w1,.dat m d1,F1⟩::(hid++T)) H':=At.item (S:=⟨some (.ref D),.acc acc,D::G⟩::S1) hA2 s1 r1 (fun a ha=>h3 a (List.mem_append_left _ ha)) it.md it.hd it.np
        have hA3':At K H0 Y n ((⟨some w1,.dat m d1,F1⟩::⟨some (.ref D),.acc acc,D::G⟩::S1)++(hid++T)) H':=hA3.mid
        have hA3'':At K H0 Y n ((⟨some w1,.dat m d1,F1⟩::⟨some (.ref D),.acc acc,D::G⟩::S1)++⟨some w2,.dat m d2,F2⟩::(hid++T)) H':=At.item hA3' (Same.refl _) r2 (fun a ha=>h3 a (List.mem_append_right _ (List.mem_append_left _ ha))) it.md it.hd it.np
        have hA4:At K H0 Y n (⟨some w1,.dat m d1,F1⟩::⟨some w2,.dat m d2,F2⟩::⟨some (.ref D),.acc acc,D::G⟩::(S1++(hid++T))) H':=hA3''.mid.perm (List.Perm.swap _ _ _)
        have hA5:=At.view (S:=S1) hA4 (fun e he=>List.mem_cons_of_mem _ (List.mem_cons_of_mem _ (List.mem_cons_of_mem _ (List.mem_append_left _ he)))) js
        have hA6:At K H0 Y n ((⟨some w1,.dat m d1,F1⟩::⟨some w2,.dat m d2,F2⟩::frE S1 js)++⟨some (.ref D),.acc acc,D::G⟩::(S1++(hid++T))) H':=by
          have z:=hA5.mid
          refine z.perm ?_
          exact (List.perm_middle).cons _
        have hS6:Sl (⟨some w1,.dat m d1,F1⟩::⟨some w2,.dat m d2,F2⟩::frE S1 js) ⟨.dat m d1::.dat m d2::frD δ1.sl js,n⟩:=by
          unfold Sl
          rw [List.map_cons,List.map_cons,sl_fr e2]
        have hv:vs (⟨some w1,.dat m d1,F1⟩::⟨some w2,.dat m d2,F2⟩::frE S1 js)=some w1::some w2::frees (vs S1) js:=by
          rw [← vs_fr]
          rfl
        refine ⟨t,w1,w2,rfl,SqT.of ht,fun H2=>∃ m',m'<ds.length - i∧_,fun y H3=>∃ acc,H3 D=some (.lst acc)∧acc.length<sizeLine∧∃ m',m'<ds.length - i∧_,fun H2 q=>q,fun y H3 q=>q,?_⟩
        rw [← hv]
        refine step_leG hS6 hG hA6 hst (by omega) (fun n' H2 hA7 p=>?_) (fun e n' v H2 G' hG' hA7 p=>?_)
        · exact ⟨ds.length - (i+1),by omega,rfl,hlt,acc,n',G,hG,hA7,by omega,p⟩
        · obtain ⟨xs,g1,g2,g3⟩:=hA7
          exact ⟨xs,g1,by omega,ds.length - (i+1),by omega,rfl,hlt,acc++[e],n',G',hG',g3,by rw [List.length_append]; simp; omega,p⟩
  · have e:i=ds.length:=by omega
    subst e
    refine .inl ⟨it.stop H n hid_ok,k _ ⟨δ1.sl,n⟩ _ (D::G) S1 H e1 e2 ?_ (hf acc n hI)⟩
    have hA3:=hA2.accGetG hG
    have hA4:At K H0 Y n (⟨some (.ref D),.dat (accMd b) (.list acc),D::G⟩::(S1++T)) H:=hA3.sub (((List.Sublist.refl S1).append (List.sublist_append_right hid T)).cons₂ _)
    exact hA4.tomid
end
section
variable {X:Cx} {elt iter c:Expr} {x x2 y0:Str} {px px2 pt py pos spos:Pos} {kt i0:Nat} {ifs:List Expr} {scope:Scope} {cl:List (Str×Addr)} {ys:List Str} {js:List Nat} {di:DI} {dc:DT} {de:DE}
theorem dts_none:PTs X [] (LT X.K dNoTest):=PTs.imp pts_none (noTest_le (dt:=tNoTest))
theorem dts_one (h:PTD X c dc):PTs X [c] (LT X.K dc):=pts_one h
theorem dp_comp (C:CompScope X scope cl x ys js) (hc:X.calm=true) (hi:PID X (.Name x px) iter di) (ht:∀ fp s H,PTs (cxComp X scope cl (x::ys) fp s H) ifs (LT X.K dc)) (he:∀ fp s H,PED (cxComp X scope cl (x::ys) fp s H) elt de) (hs:∀ x,foldedSetIterable iter X.env x=pure x:=by intro _; rfl):PED X (.ListComp elt [⟨.Name x px,iter,ifs,0⟩] scope pos) (dComp di js dc de):=PE.imp (pe_comp C hc hi ht he hs) comp_le
theorem dp_comp2 (C:CompScope X scope cl x ys js) (own2:OwnN scope x2) (nd2:(x::x2::ys).Nodup) (hc:X.calm=true) (hi:PID X (.Tuple [.Name x px,.Name x2 px2] kt pt) iter di) (ht:∀ fp s H,PTs (cxComp X scope cl (x::x2::ys) fp s H) ifs (LT X.K dc)) (he:∀ fp s H,PED (cxComp X scope cl (x::x2::ys) fp s H) elt de) (hs:∀ x,foldedSetIterable iter X.env x=pure x:=by intro _; rfl):PED X (.ListComp elt [⟨.Tuple [.Name x px,.Name x2 px2] kt pt,iter,ifs,0⟩] scope pos) (dComp2 di js dc de):=PE.imp (pe_comp2 C own2 nd2 hc hi ht he hs) comp2_le
def dgN (o:Bool) (i:Nat):DG:=match o with
  | true=>dgOwn i
  | false=>dgName i
theorem n_le {K:PySem.W.Frag} {o:Bool} {i:Nat}:∀ v σ H Q,LG K (dgN o i) v σ H Q→gName i v σ H Q:=by
  cases o with
  | true=>exact own_le
  | false=>exact name_le
theorem ds_setC {o:Bool} (hN:X.N.Nodup) (hi0:X.N[i0]? = some y0) (hy0:X.env.scope.names.lookup y0=some .local) (C:CompScope X scope cl x ys js) (hc:X.calm=true) (hi:PID X (.Name x px) iter di) (ht:∀ fp s H,PTs (cxComp X scope cl (x::ys) fp s H) ifs (LT X.K dc)) (he:∀ fp s H,PED (cxComp X scope cl (x::ys) fp s H) elt de) (hs:∀ x,foldedSetIterable iter X.env x=pure x:=by intro _; rfl) (hsw:swapsWith (.ListComp elt [⟨.Name x px,iter,ifs,0⟩] scope pos) (some (.Name y0 py)) spos.line X.env=pure true:=by rfl):PSD X (.Assign [.Name y0 py] (.ListComp elt [⟨.Name x px,iter,ifs,0⟩] scope pos) spos) (dAsg (dComp di js dc de) (dgN o i0)):=PS.impD (ps_setC hN hi0 hy0 C hc hi ht he hs hsw) (asg_le comp_le n_le)
end
end DL
namespace DL
open PySem PySem.Spec PyProof.Rows L2 Nd
section
variable {K:PySem.W.Frag} {H0 H H':Hp} {X:Addr→Prop} {n n':Nat} {E S T:List Ent}
theorem At.pushF (h:At K H0 X n E H) {v:V} {d:PyData} {F:List Addr} (r:RdF K H v d F) (nd:F.Nodup) (fr:∀ a∈F,∀ f∈E,a∉f.F) (f0:∀ a∈F,H0 a=none):At K H0 X n (⟨some v,.dat .ow d,F⟩::E) H:=by
  refine h.push ⟨v,rfl,r,fun _=>nd,fun z=>nomatch z⟩ (fun f hf=>⟨fun _ a ha z=>fr a ha f hf z,fun _ a ha z=>fr a z f hf (cells_sub _ _ ha)⟩) fun a ha=>.inl (f0 a ha)
theorem At.drawn (h:At K H0 X n E H) {e:Ent} {dr:Addr} (he:e∈E) (hx:e.x=.drw) (hv:e.v=some (.ref dr)) (s:SameB dr H H') (hd:∃ c k f,Draw H' dr c k f∧0≤k∧k≤(n':Int)) (hn:n≤n'):At K H0 X n' E H':=by
  obtain ⟨v,x,F⟩:=e
  have hx':x=.drw:=hx
  subst hx'
  obtain ⟨dr',c0,k0,f0,hv',hF,hd0,_⟩:=h.ok _ he
  have e1:some (V.ref dr)=some (V.ref dr'):=hv.symm.trans hv'
  cases e1
  have hF':F=[dr]:=hF
  subst hF'
  refine ⟨fun f hf=>?_,h.sep,h.new,fun b o nx q=>?_,fun b o q=>?_,fun b hb=>?_⟩
  rotate_right
  · obtain ⟨z,c,k,f,h1,h2,h3⟩:=h.xd b hb
    by_cases hbd:b=dr
    · subst hbd
      exact ⟨z,hd⟩
    · exact ⟨z,c,k,f,s _ _ hbd h1,h2,by omega⟩
  · rcases sep_of h he hf with rfl | q
    · obtain ⟨c,k,fl,h1,h2,h3⟩:=hd
      exact ⟨dr,c,k,fl,hv',rfl,h1,h2,h3⟩
    · have nf:dr∉f.F:=q.1 (.inr rfl) dr List.mem_cons_self
      refine (h.ok f hf).kp (fun b o eb z=>?_) hn
      by_cases hb:b=dr
      · subst hb
        rcases z with z | z
        · exact absurd z nf
        · have hd0':H b=some (.lst _):=hd0
          rw [eb] at hd0'
          cases hd0'
          rcases z with ⟨_,z⟩ | ⟨_,_,z⟩ <;> cases z
      · exact s b o hb eb
  · have hb:b≠dr:=by
      rintro rfl
      rcases h.new _ he b List.mem_cons_self with z | z
      · rw [z] at q; cases q
      · exact nx z.1
    exact s b o hb (h.same b o nx q)
  · by_cases hb:b=dr
    · subst hb
      obtain ⟨c,k,fl,h1,_⟩:=hd
      exact ⟨_,h1⟩
    · obtain ⟨o',z⟩:=h.dom b o q
      exact ⟨o',s b o' hb z⟩
end
abbrev PF:=List PyData→(PyData→Prop)→Prop
abbrev DF:=List PyData→Nat→(PyData→Nat→Prop)→Prop
def SpP (K:PySem.W.Frag) (pf:PF):Sp:=fun us H Q _=>∃ (As:List Ent) (n:Nat) (ds:List PyData) (R:PyData→Prop),As.map Ent.v=us.map some∧(∀ e∈As,EntOk K H n e)∧datas (As.map Ent.x)=some ds∧pf ds R ∧
  ∀ v d F H',R d→RdF K H' v d F→F.Nodup→(∀ a∈F,H a=none)→Same H H'→Q v H'
def SpW (K:PySem.W.Frag) (df:DF):Sp:=fun us H Q _=>∃ (dr:Addr) (ws:List V) (As:List Ent) (n:Nat) (ds:List PyData) (R:PyData→Nat→Prop),us=.ref dr::ws∧As.map Ent.v=ws.map some∧(∀ e∈As,EntOk K H n e)∧(∀ e∈As,dr∉e.F)∧(∃ c k f,Draw H dr c k f∧0≤k∧k≤(n:Int))∧datas (As.map Ent.x)=some ds∧df ds n R ∧
  ∀ v d F n' H',n≤n'→R d n'→RdF K H' v d F→F.Nodup→(∀ a∈F,H a=none)→(∃ c k f,Draw H' dr c k f∧0≤k∧k≤(n':Int))→SameB dr H H'→Q v H'
def dCall (pf:PF) (da:DA):DE:=fun δ P=>da δ fun xs δ1=>match datas xs with
  | some ds=>pf ds fun d=>P (.dat .ow d) δ1
  | none=>False
def dCallW (i:Nat) (df:DF) (da:DA):DE:=fun δ P=>match δ.sl[i]? with
  | some .drw=>da δ fun xs δ1=>match δ1.sl[i]? with
    | some .drw=>match datas xs with
      | some ds=>df ds δ1.n fun d n'=>P (.dat .ow d) ⟨δ1.sl,n'⟩
      | none=>False
    | _=>False
  | _=>False
section
variable {X:Cx} {CX:CXT} {k:Nat} {f:Addr} {fd:FuncData} {ps:List Str} {pf:PF} {df:DF} {E:XK} {x:Str} {p pos:Pos} {e e0:Expr} {es:List Expr} {da:DA}
theorem dp_call (F:FnOk X.prog X.w X.K X.mg X.base CX k f fd ps (SpP X.K pf)) (hr:Room k X.A) (hg:Gl X x) (hm:X.mg x=some (.ref f)) (hk:PySem.W.keepIn X.K (.ref f)=true) (hb:Binds X.K fd ps []) (hx:Passes CX X E) (ha:PAD X (e::es) da) (hdb:(x == ("__debug__" : Str))=false:=by decide) (he:starEach (e::es) X.env=(false,eval e X.env)::starEach es X.env:=by rfl) (hpl:(backTo pos (starEach es X.env)).any (·.1)=false:=by rfl):PED X (.Call (.Name x p) (e::es) [] pos) (dCall pf da):=by
  refine PE.imp (pe_call F hr hg hm hk hb .nil hx ha hdb he hpl) fun σ H Q h=>?_
  obtain ⟨H0,Y,S,T,δ,P,rfl,hS,hA,hd,kk⟩:=h
  refine ⟨H0,Y,S,T,δ,_,rfl,hS,hA,hd,fun xs δ' As us S' H' e1 e2 ex eu hA' p=>?_⟩
  subst ex
  cases q:datas (As.map Ent.x) with
  | none=>rw [q] at p; exact p.elim
  | some ds =>
    rw [q] at p
    rw [List.append_nil]
    refine ⟨As,δ'.n,ds,_,eu,fun e he=>hA'.ok e (List.mem_append_right _ (List.mem_append_left _ he)),q,p,fun v d F H'' r rd nd fr s=>?_⟩
    exact kk _ δ' v F S' H'' e1 e2 (((hA'.dropL.grow s (Nat.le_refl _)).pushF rd nd (fun a ha=>hA'.dropL.free (fr a ha)) (fun a ha=>hA'.new0 (fr a ha))).tomid) r
theorem dp_call0 (F:FnOk X.prog X.w X.K X.mg X.base CX k f fd ps (SpP X.K pf)) (hr:Room k X.A) (hg:Gl X x) (hm:X.mg x=some (.ref f)) (hk:PySem.W.keepIn X.K (.ref f)=true) (hb:Binds X.K fd ps []) (hx:Passes CX X E) (hdb:(x == ("__debug__" : Str))=false:=by decide):PED X (.Call (.Name x p) [] [] pos) (dCall pf dNil):=by
  refine PE.imp (pe_call0 F hr hg hm hk hb .nil hx hdb) fun σ H Q h=>?_
  obtain ⟨H0,Y,S,T,δ,P,rfl,hS,hA,hd,kk⟩:=h
  show SpP X.K pf [] H Q E
  refine ⟨[],δ.n,[],_,rfl,fun e he=>(nomatch he),rfl,hd,fun v d F H'' r rd nd fr s=>?_⟩
  exact kk _ δ v F S H'' rfl hS (((hA.grow s (Nat.le_refl _)).pushF rd nd (fun a ha=>hA.free (fr a ha)) (fun a ha=>hA.new0 (fr a ha))).tomid) r
theorem dp_callW {i:Nat} (F:FnOk X.prog X.w X.K X.mg X.base CX k f fd ps (SpW X.K df)) (hr:Room k X.A) (hg:Gl X x) (hm:X.mg x=some (.ref f)) (hk:PySem.W.keepIn X.K (.ref f)=true) (hb:Binds X.K fd ps []) (hx:Passes CX X E) (h0:PE X e0 (tVar i)) (ha:PAD X es da) (hdb:(x == ("__debug__" : Str))=false:=by decide) (he:starEach (e0::es) X.env=(false,eval e0 X.env)::starEach es X.env:=by rfl) (hpl:(backTo pos (starEach es X.env)).any (·.1)=false:=by rfl):PED X (.Call (.Name x p) (e0::es) [] pos) (dCallW i df da):=by
  refine PE.imp (pe_call F hr hg hm hk hb .nil hx (pa_cons h0 ha he) hdb he hpl) fun σ H Q h=>?_
  obtain ⟨H0,Y,S,T,δ,P,rfl,hS,hA,hd,kk⟩:=h
  unfold dCallW at hd
  split at hd
  case h_2=>exact hd.elim
  rename_i hsl0
  have main:∀ w,(vs S)[i]? = some (some w)→LA X.K da (vs S) H fun xs H2=>SpW X.K df ((w::xs)++[]) H2 Q E:=fun w hw=>by
    refine ⟨H0,Y,S,T,δ,_,rfl,hS,hA,hd,fun xs δ' As us S' H' e1 e2 ex eu hA' p=>?_⟩
    subst ex
    split at p
    · rename_i hsl
      obtain ⟨ent,s1,s2⟩:=slot_of e2 hsl
      have hm':ent∈S':=List.mem_of_getElem? s1
      have hv:ent.v=some w:=by
        have:=vs_at s1
        rw [e1,hw] at this
        exact (Option.some.inj this).symm
      obtain ⟨u,z,F⟩:=ent
      have s2':z=.drw:=s2
      subst s2'
      have hE:(⟨u,.drw,F⟩ : Ent)∈S'++(As++T):=List.mem_append_left _ hm'
      obtain ⟨dr,c0,k0,f0,hv0,hF0,hd0,hk0,hk1⟩:=hA'.ok _ hE
      have ew:some w=some (V.ref dr):=hv.symm.trans hv0
      cases ew
      have hF':F=[dr]:=hF0
      subst hF'
      cases q:datas (As.map Ent.x) with
      | none=>rw [q] at p; exact p.elim
      | some ds =>
        rw [q] at p
        rw [List.append_nil]
        refine ⟨dr,us,As,δ'.n,ds,_,rfl,eu,fun e he=>hA'.ok e (List.mem_append_right _ (List.mem_append_left _ he)),fun e he=>?_,⟨c0,k0,f0,hd0,hk0,hk1⟩,q,p,fun v d F n' H'' hn r rd nd fr hdr s=>?_⟩
        · rcases List.pairwise_append.mp hA'.sep with ⟨_,_,hp⟩
          exact (hp _ hm' e (List.mem_append_left _ he)).1 (.inr rfl) dr List.mem_cons_self
        · have hA2:=hA'.dropL.drawn (List.mem_append_left _ hm') rfl hv s hdr hn
          exact kk _ ⟨δ'.sl,n'⟩ v F S' H'' e1 e2 ((hA2.pushF rd nd (fun a ha=>hA'.dropL.free (fr a ha)) (fun a ha=>hA'.new0 (fr a ha))).tomid) r
    · exact p.elim
  obtain ⟨ent,s1,s2⟩:=slot_of hS hsl0
  have hm':ent∈S:=List.mem_of_getElem? s1
  obtain ⟨u,z,F⟩:=ent
  have s2':z=.drw:=s2
  subst s2'
  obtain ⟨dr,c0,k0,f0,hv0,_⟩:=hA.ok _ (List.mem_append_left _ hm')
  have hw:(vs S)[i]? = some (some (.ref dr)):=(vs_at s1).trans (congrArg some hv0)
  exact ⟨_,hw,main _ hw⟩
def spDrawsD:Sp:=fun vs H Q _=>∃ c:Int,vs=[.int c]∧∀ (p:Addr) (c':Int) (f:Bool) (H':Hp),H p=none→Draw H' p c' 0 f→Same H H'→Q (.ref p) H'
def dDraws (da:DA):DE:=fun δ P=>da δ fun xs δ1=>match xs with
  | [.dat _ (.int _)]=>P .drw δ1
  | _=>False
theorem dp_draws (F:FnOk X.prog X.w X.K X.mg X.base CX k f fd ps spDrawsD) (hr:Room k X.A) (hg:Gl X x) (hm:X.mg x=some (.ref f)) (hk:PySem.W.keepIn X.K (.ref f)=true) (hb:Binds X.K fd ps []) (hx:Passes CX X E) (ha:PAD X (e::es) da) (hdb:(x == ("__debug__" : Str))=false:=by decide) (he:starEach (e::es) X.env=(false,eval e X.env)::starEach es X.env:=by rfl) (hpl:(backTo pos (starEach es X.env)).any (·.1)=false:=by rfl):PED X (.Call (.Name x p) (e::es) [] pos) (dDraws da):=by
  refine PE.imp (pe_call F hr hg hm hk hb .nil hx ha hdb he hpl) fun σ H Q h=>?_
  obtain ⟨H0,Y,S,T,δ,P,rfl,hS,hA,hd,kk⟩:=h
  refine ⟨H0,Y,S,T,δ,_,rfl,hS,hA,hd,fun xs δ' As us S' H' e1 e2 ex eu hA' p=>?_⟩
  split at p
  · obtain ⟨v,F,rfl,hA2⟩:=one_arg eu hA' ex
    obtain ⟨rfl,_⟩:=(hA2.told mem_mid).int_inv
    refine ⟨_,rfl,fun q c' fl H'' nq hdr s=>?_⟩
    have h3:=hA2.drop.grow (n':=δ'.n) s (Nat.le_refl _)
    refine kk _ δ' _ [q] S' H'' e1 e2 ((h3.push (e:=⟨some (.ref q),.drw,[q]⟩) ⟨q,_,0,fl,rfl,rfl,hdr,by decide,by omega⟩ (fun f hf=>?_) fun a ha=>?_).tomid) p
    · have nf:=hA2.drop.free nq f hf
      refine ⟨fun _ a ha z=>?_,fun _ a ha z=>?_⟩
      · rw [List.mem_singleton.mp ha] at z
        exact nf z
      · rw [List.mem_singleton.mp z] at ha
        exact nf (cells_sub _ _ ha)
    · rw [List.mem_singleton.mp ha]
      exact .inl (hA2.new0 nq)
  · exact p.elim
end
def args0 (ds:List PyData) (k:Nat):List DV:=ds.map (fun d=>.dat .sh d)++List.replicate k .un
def toSh (e:Ent):Ent:=match e.x with
  | .dat _ d=>⟨e.v,.dat .sh d,e.F⟩
  | _=>e
theorem datas_len:∀ {xs:List DV} {ds:List PyData},datas xs=some ds→xs.length=ds.length
  | [],ds,h=>by cases h; rfl
  | x::xs,ds,h=>by
    cases x with
    | dat m d =>
      cases q:datas xs with
      | none=>simp [datas,q] at h
      | some es =>
        simp [datas,q] at h
        subst h
        rw [List.length_cons,List.length_cons,datas_len q]
    | _=>cases h
theorem datas_sh:∀ {As:List Ent} {ds:List PyData},datas (As.map Ent.x)=some ds→(As.map toSh).map Ent.x=ds.map (fun d=>.dat .sh d)
  | [],ds,h=>by cases h; rfl
  | ⟨v,x,F⟩::As,ds,h=>by
    rw [List.map_cons] at h
    cases x with
    | dat m d =>
      cases q:datas (As.map Ent.x) with
      | none=>simp [datas,q] at h
      | some es =>
        simp [datas,q] at h
        subst h
        rw [List.map_cons,List.map_cons,List.map_cons,datas_sh q]
        rfl
    | _=>cases h
theorem datas_dat:∀ {As:List Ent} {ds:List PyData},datas (As.map Ent.x)=some ds→∀ e∈As,∃ m d,e.x=.dat m d
  | [],ds,h,e,he=>nomatch he
  | ⟨v,x,F⟩::As,ds,h,e,he=>by
    rw [List.map_cons] at h
    cases x with
    | dat m d =>
      cases q:datas (As.map Ent.x) with
      | none=>simp [datas,q] at h
      | some es =>
        rcases List.mem_cons.mp he with rfl | he
        · exact ⟨m,d,rfl⟩
        · exact datas_dat q e he
    | _=>cases h
theorem sh_v (As:List Ent):(As.map toSh).map Ent.v=As.map Ent.v:=by
  rw [List.map_map]
  refine List.map_congr_left fun e _=>?_
  obtain ⟨v,x,F⟩:=e
  cases x <;> rfl
def blanks (k:Nat):List Ent:=List.replicate k ⟨none,.un,[]⟩
theorem sh_soft {As:List Ent} {ds:List PyData} (q:datas (As.map Ent.x)=some ds) (k:Nat):∀ e∈As.map toSh++blanks k,cells e=[]∧hard e.x=false:=fun e he=>by
  rcases List.mem_append.mp he with he | he
  · obtain ⟨f,hf,rfl⟩:=List.mem_map.mp he
    obtain ⟨m,d,hx⟩:=datas_dat q f hf
    obtain ⟨v,x,F⟩:=f
    have hx':x=.dat m d:=hx
    subst hx'
    exact ⟨rfl,rfl⟩
  · rw [(List.mem_replicate.mp he).2]
    exact ⟨rfl,rfl⟩
theorem pair_mem {α:Type} {R:α→α→Prop}:∀ {l:List α},(∀ a∈l,∀ b∈l,R a b)→l.Pairwise R
  | [],_=>List.Pairwise.nil
  | a::l,h=>List.pairwise_cons.mpr ⟨fun b hb=>h a List.mem_cons_self b (List.mem_cons_of_mem _ hb),pair_mem fun x hx y hy=>h x (List.mem_cons_of_mem _ hx) y (List.mem_cons_of_mem _ hy)⟩
theorem sh_ok {K:PySem.W.Frag} {H:Hp} {n:Nat} {As:List Ent} {ds:List PyData} (q:datas (As.map Ent.x)=some ds) (ok:∀ e∈As,EntOk K H n e) (k:Nat):∀ e∈As.map toSh++blanks k,EntOk K H n e:=fun e he=>by
  rcases List.mem_append.mp he with he | he
  · obtain ⟨f,hf,rfl⟩:=List.mem_map.mp he
    obtain ⟨m,d,hx⟩:=datas_dat q f hf
    have o:=ok f hf
    obtain ⟨v,x,F⟩:=f
    have hx':x=.dat m d:=hx
    subst hx'
    obtain ⟨w,h1,h2,_⟩:=o
    exact ⟨w,h1,h2,fun z=>(nomatch z),fun z=>(nomatch z)⟩
  · rw [(List.mem_replicate.mp he).2]
    exact (rfl:([]:List Addr)=[])
theorem rep_map {α β:Type} (f:α→β) (k:Nat) (a:α):(List.replicate k a).map f=List.replicate k (f a):=by
  rw [List.map_replicate]
def retE (R:PyData→Prop):DEnds where
  nx:=fun _=>R .none
  rt:=fun x _=>∃ d,x=.dat .ow d∧R d
def retW (n:Nat) (R:PyData→Nat→Prop):DEnds where
  nx:=fun δ=>n≤δ.n∧R .none δ.n
  rt:=fun x δ=>n≤δ.n∧∃ d,x=.dat .ow d∧R d δ.n
section
variable {P:Program} {w:World} {K:PySem.W.Frag} {mg:Str→Option Value} {base:Heap}
theorem fn_pure {x qual:Str} {st:Stmt} {f:Addr} {fd:FuncData} {N ps:List Str} {k:Nat} {pf:PF} {db:DB} (F:Fun K x qual st f fd) (S:FnScope N ps (defScope st)) (hb:∀ (cdv:Value) (A:Around) (outer:List Env) (s:Shared) (H:Hp) (E:XK),Room k (A.deeper (envOfC qual (defScope st) s.heap.objs.size f cdv))→PSsD (cxOf CX0 P w K mg base N qual (defScope st) f cdv A outer s H E).nox (defBody st) db) (h:∀ ds R,pf ds R→ds.length=ps.length∧db (retE R) ⟨args0 ds (N.length - ps.length),0⟩):FnOk P w K mg base CX0 (k+1) f fd ps (SpP K pf):=by
  refine F.ok S (fun vs H Q E z=>?_) fun cdv A outer s H us Q E hr z=>?_
  · obtain ⟨As,n,ds,R,eu,ok,q,hp,_⟩:=z
    have l1:=(h ds R hp).1
    have l2:=datas_len q
    rw [List.length_map] at l2
    have l3:=congrArg List.length eu
    rw [List.length_map,List.length_map] at l3
    omega
  · obtain ⟨As,n,ds,R,eu,ok,q,hp,k1⟩:=z
    obtain ⟨l1,hd⟩:=h ds R hp
    have l2:=datas_len q
    rw [List.length_map] at l2
    have l3:=congrArg List.length eu
    rw [List.length_map,List.length_map] at l3
    refine ⟨_,hb cdv A outer s H E hr,H,fun _=>False,As.map toSh++blanks (N.length - ps.length),[],⟨args0 ds (N.length - ps.length),0⟩,retE R,?_,?_,fun _ z=>(nomatch z),?_,hd,fun δ' S' H' e1 hA p=>?_,fun x δ' v F' S' H' e1 hA p=>?_,fun _ _ _ _ _ p=>p.elim,fun _ _ _ _ _ p=>p.elim⟩
    · unfold vs L2.start blanks
      rw [List.map_append,sh_v,eu,rep_map,show us.length=ps.length by omega]
    · unfold Sl args0 blanks
      rw [List.map_append,datas_sh q,rep_map]
    · rw [List.append_nil]
      have hs:=sh_soft q (N.length - ps.length)
      refine ⟨fun e he=>?_,pair_mem fun a ha b hb'=>⟨fun hq c hc=>?_,fun hq c hc=>?_⟩,fun e he a ha=>?_,fun b o _ e=>e,fun b o e=>⟨o,e⟩,fun b hb=>hb.elim⟩
      · have:=sh_ok q ok (N.length - ps.length) e he
        obtain ⟨v,x,F⟩:=e
        cases x with
        | drw=>exact absurd (hs _ he).2 (by show ¬ (true=false); decide)
        | _=>exact this
      · rw [(hs a ha).1] at hc; cases hc
      · rw [(hs b hb').1] at hc; cases hc
      · rw [(hs e he).1] at ha; cases ha
    · exact k1 .non .none [] H' p .non List.nodup_nil (fun _ z=>(nomatch z)) fun b o e=>hA.same b o (fun z=>z) e
    · obtain ⟨d,rfl,r⟩:=p
      rw [show S'++[(⟨some v,.dat .ow d,F'⟩ : Ent)]=S'++⟨some v,.dat .ow d,F'⟩::[] from rfl] at hA
      obtain ⟨u,e2,rd,nd,_⟩:=hA.ok _ mem_mid
      cases e2
      refine k1 v d F' H' r rd (nd rfl) (fun a ha=>?_) fun b o e=>hA.same b o (fun z=>z) e
      rcases hA.new _ mem_mid a ha with z | z
      · exact z
      · exact z.1.elim
theorem fn_draw {x qual:Str} {st:Stmt} {f:Addr} {fd:FuncData} {N ps:List Str} {p0:Str} {k:Nat} {df:DF} {db:DB} (F:Fun K x qual st f fd) (S:FnScope N (p0::ps) (defScope st)) (hb:∀ (cdv:Value) (A:Around) (outer:List Env) (s:Shared) (H:Hp) (E:XK),Room k (A.deeper (envOfC qual (defScope st) s.heap.objs.size f cdv))→PSsD (cxOf CX0 P w K mg base N qual (defScope st) f cdv A outer s H E).nox (defBody st) db) (h:∀ ds n R,df ds n R→ds.length=ps.length∧db (retW n R) ⟨.drw::args0 ds (N.length - (p0::ps).length),n⟩):FnOk P w K mg base CX0 (k+1) f fd (p0::ps) (SpW K df):=by
  refine F.ok S (fun vs H Q E z=>?_) fun cdv A outer s H us Q E hr z=>?_
  · obtain ⟨dr,ws,As,n,ds,R,rfl,eu,ok,nd,hdr,q,hp,_⟩:=z
    have l1:=(h ds n R hp).1
    have l2:=datas_len q
    rw [List.length_map] at l2
    have l3:=congrArg List.length eu
    rw [List.length_map,List.length_map] at l3
    rw [List.length_cons,List.length_cons]
    omega
  · obtain ⟨dr,ws,As,n,ds,R,rfl,eu,ok,ndr,hdr,q,hp,k1⟩:=z
    obtain ⟨l1,hd⟩:=h ds n R hp
    have l2:=datas_len q
    rw [List.length_map] at l2
    have l3:=congrArg List.length eu
    rw [List.length_map,List.length_map] at l3
    -- what the end tells of the draws: they stand in an old cell
    have ends:∀ {E':List Ent} {n':Nat} {H':Hp},At K H (·=dr) n' E' H'→∀ b o,b≠dr→H b=some o→H' b=some o:=fun hA b o nb e=>hA.same b o nb e
    refine ⟨_,hb cdv A outer s H E hr,H,(·=dr),⟨some (.ref dr),.drw,[dr]⟩::(As.map toSh++blanks (N.length - (p0::ps).length)),[],⟨.drw::args0 ds (N.length - (p0::ps).length),n⟩,retW n R,?_,?_,fun _ z=>(nomatch z),?_,hd,fun δ' S' H' e1 hA p=>?_,fun x δ' v F' S' H' e1 hA p=>?_,fun _ _ _ _ _ p=>p.elim,fun _ _ _ _ _ p=>p.elim⟩
    · unfold vs L2.start blanks
      rw [List.map_cons,List.map_append,sh_v,eu,rep_map,List.length_cons,List.length_cons,show ws.length=ps.length by omega]
      rfl
    · unfold Sl args0 blanks
      rw [List.map_cons,List.map_append,datas_sh q,rep_map]
    · rw [List.append_nil]
      have hs:=sh_soft q (N.length - (p0::ps).length)
      have hsub:∀ e∈As.map toSh++blanks (N.length - (p0::ps).length),dr∉e.F:=fun e he=>by
        rcases List.mem_append.mp he with he | he
        · obtain ⟨f,hf,rfl⟩:=List.mem_map.mp he
          obtain ⟨v,x,F⟩:=f
          have:=ndr _ hf
          cases x <;> exact this
        · rw [(List.mem_replicate.mp he).2]
          exact List.not_mem_nil
      refine ⟨fun e he=>?_,List.pairwise_cons.mpr ⟨fun b hb'=>⟨fun hq c hc=>?_,fun hq c hc=>?_⟩,pair_mem fun a ha b hb'=>⟨fun hq c hc=>?_,fun hq c hc=>?_⟩⟩,fun e he a ha=>?_,fun b o _ e=>e,fun b o e=>⟨o,e⟩,fun b hb=>?_⟩
      rotate_right
      · subst hb
        obtain ⟨c,kk,fl,z1,z2⟩:=hdr
        exact ⟨fun z=>(by rw [show H b=some _ from z1] at z; cases z),c,kk,fl,z1,z2⟩
      · rcases List.mem_cons.mp he with rfl | he
        · obtain ⟨c,kk,fl,z1,z2,z3⟩:=hdr
          exact ⟨dr,c,kk,fl,rfl,rfl,z1,z2,z3⟩
        · exact sh_ok q ok _ e he
      · rw [List.mem_singleton.mp hc]
        exact hsub b hb'
      · rw [(hs b hb').1] at hc; cases hc
      · rw [(hs a ha).1] at hc; cases hc
      · rw [(hs b hb').1] at hc; cases hc
      · rcases List.mem_cons.mp he with rfl | he
        · rw [List.mem_singleton.mp ha]
          exact .inr ⟨rfl,rfl⟩
        · rw [(hs e he).1] at ha; cases ha
    · exact k1 .non .none [] δ'.n H' p.1 p.2 .non List.nodup_nil (fun _ z=>(nomatch z)) (hA.xd dr rfl).2 (ends hA)
    · obtain ⟨hn,d,rfl,r⟩:=p
      rw [show S'++[(⟨some v,.dat .ow d,F'⟩ : Ent)]=S'++⟨some v,.dat .ow d,F'⟩::[] from rfl] at hA
      obtain ⟨u,e2,rd,nd,_⟩:=hA.ok _ mem_mid
      cases e2
      refine k1 v d F' δ'.n H' hn r rd (nd rfl) (fun a ha=>?_) (hA.xd dr rfl).2 (ends hA)
      rcases hA.new _ mem_mid a ha with z | z
      · exact z
      · cases z.2
end
end DL
namespace L2
open PySem PySem.Spec PyProof.Rows
theorem law_callD {P:Program} {w:World} {K:PySem.W.Frag} {mg mb:Str→Option Value} {CX:CXT} {k:Nat} {fa a:Addr} {fd:FuncData} {x:Str} {sp:Sp} {s₁:Shared} {vs:List Value} {ns:List Int} (KX:K.In s₁.heap) (hns:s₁.heap.Ns mainGlobals mg) (hb:s₁.heap.Ns builtinsNs mb) (hbb:∀ x:Str,x ≠ "__name__" → mb x=bootBuiltins x) (hlim:s₁.heap.NoLimit) (hg:s₁.gens=#[]) (ha:s₁.heap.get? a=some { cls:=.type "list",data:=.seq vs.toArray }) (hi:IntsAre vs ns) (hl:ns.length≤sizeLine) (hr:Room k callerA) (F:∀ base:Heap,K.In base→base.Ns mainGlobals mg→FnOk P w K mg base CX k fa fd [x] sp) (hbind:∀ (s:Shared) (u:Value),BindsTo s fd ⟨[u],[]⟩ [(x,u)]) (hsp:∀ H:Hp,Only H→DL.KL K H a (ns.map V.int)→sp [.ref a] H (fun v _=>v=.bl true) fun _ _ _=>False) (hCX:∀ H e s',CX [] H s₁ (fun _ _ _=>False) e s'→False):codeAny (model P w) callerA (.call (.ref fa) ⟨[.ref a],[]⟩) (fun r s'=>r=.ok (.ret (.bool true))∧OldK s₁.heap s'.heap∧s'.os=s₁.os∧AllBare s'.gens) s₁:=by
  have rv:=vals_ints hi
  have lenV:=hi.length
  -- from an abstract heap in which nothing but the script may be tracked
  have core:∀ H:Hp,Only H→DL.KL K H a (ns.map V.int)→HOk P w H s₁.heap→(∀ b,H b≠none→b=a)→(H a≠none→K.lookup a=none) →
      codeAny (model P w) callerA (.call (.ref fa) ⟨[.ref a],[]⟩) (fun r s'=>r=.ok (.ret (.bool true))∧OldK s₁.heap s'.heap∧s'.os=s₁.os∧AllBare s'.gens) s₁:=by
    intro H hO hS hok hA hK
    have base_of:∀ {b:Addr} {o:Obj},s₁.heap.get? b=some o→H b=none→(hidT s₁.heap H).get? b=some o:=fun e n=>hidT_get e n
    have noA:∀ {b:Addr} {o:Obj} {es:Array DictEntry} {ep:Nat},s₁.heap.get? b=some o→o.data=.dict es ep→H b=none:=fun {b o es ep} e d=>by
      cases q:H b with
      | none=>rfl
      | some u =>
        have e':b=a:=hA b (by rw [q]; simp)
        subst e'
        rw [ha] at e; cases e
        have d':Data.seq vs.toArray _=Data.dict es ep:=d
        cases d'
    have nsK:∀ {b:Addr} {m:Str→Option Value},s₁.heap.Ns b m→(hidT s₁.heap H).Ns b m:=fun {b m} ⟨o,es,ep,e,d,r⟩=>⟨o,es,ep,base_of e (noA e d),d,r⟩
    have hKb:K.In (hidT s₁.heap H):=fun b o e=>base_of (KX b o e) (by
      cases q:H b with
      | none=>rfl
      | some u =>
        have e':b=a:=hA b (by rw [q]; simp)
        subst e'
        rw [hK (by rw [q]; simp)] at e; cases e)
    have hM:Mod K mg (hidT s₁.heap H):=⟨hKb,nsK hns,⟨mb,nsK hb,hbb⟩,let ⟨mc,h1,h2⟩:=hlim; ⟨mc,nsK h1,h2⟩⟩
    have e0:Env0 P w K mg (hidT s₁.heap H) callerA [] s₁ H:=⟨rfl,hM,fun b o e=>of_hidT e,Nat.le_of_eq (hidT_size _ _),trivial,fun b hb=>absurd (show b∈([]:List Addr) from hb) (by simp),hok,.of_eq hg⟩
    refine codeAny_mono ((F _ hKb (nsK hns)).run callerA [] s₁ H ⟨[.ref a],[]⟩ [.ref a] [.ref a] _ _ hr e0 (hbind s₁ (.ref a)) (.cons rfl .nil) (hsp H hO hS)) fun r s' h=>?_
    cases r with
    | error e=>exact (hCX H e s' h).elim
    | ok fl =>
      cases fl with
      | next=>exact False.elim h
      | brk=>exact False.elim h
      | cont=>exact False.elim h
      | ret u =>
        obtain ⟨v,H',os,bare,un,hok',r',q⟩:=h
        have q':v=.bl true:=q
        subst q'
        obtain rfl:u=Value.bool true:=r'
        refine ⟨rfl,OldK.of_keep fun b o e=>?_,os,bare⟩
        cases q:H b with
        | none=>exact un.keep b o e q (by intro z; exact absurd (show b∈([]:List Addr) from z) (by simp)) (by simp)
        | some u =>
          rcases hO b with z | ⟨ob,xs,z⟩
          · rw [q] at z; cases z
          · have z2:=un.frzs b ob _ z
            obtain ⟨e1,_⟩:=hok b _ z
            obtain ⟨e2,_⟩:=hok' b _ z2
            rw [e] at e1; cases e1
            exact e2
  cases hk:K.lookup a with
  | some o =>
    -- the script is one of the module's own objects
    have e:=KX a o hk
    rw [ha] at e
    cases e
    refine core (fun _=>none) (fun _=>.inl rfl) (.inr ⟨vs.toArray,_,hk,by rw [List.size_toArray,lenV]; exact hl,by simpa using rv⟩) (fun b u z=>by have z':(none:Option HO)=some u:=z; cases z') (fun b z=>absurd rfl z) fun z=>absurd rfl z
  | none =>
    refine core (fun b=>if b=a then some (.frz { cls:=.type "list",data:=.seq vs.toArray } (.lst (ns.map V.int))) else none) (fun b=>?_) (.inl ⟨{ cls:=.type "list",data:=.seq vs.toArray },if_pos rfl⟩) (fun b u z=>?_) (fun b z=>?_) fun _=>hk
    · by_cases hb:b=a
      · exact .inr ⟨_,_,if_pos hb⟩
      · exact .inl (if_neg hb)
    · by_cases hb:b=a
      · have z':=(if_pos hb).symm.trans z
        cases z'
        subst hb
        exact ⟨ha,by rw [List.length_map]; exact hl,vs,_,rv,ha⟩
      · have z':=(if_neg hb).symm.trans z
        cases z'
    · by_cases hb:b=a
      · exact hb
      · exact absurd (if_neg hb) z
theorem walk_ofD {l:PySem.W.OpenLaw} {n k:Nat} {q:Program} {loose:List Str} {XP:(Str→Option Value)→Heap→Prop} {YP:World→Heap→Prop} {d:DefRec} {K:Params→PySem.W.Frag} {CX:World→CXT} {sp:World→Sp} {x:Str} (hn:l.most=some n) (hn2:n≤sizeLine) (hdf:d.params.defaults=[]) (hr:Room k callerA) (hY:∀ (w:World) (h:Heap),YP w h→(K w.params).In h) (F:∀ (w:World) (mg:Str→Option Value) (fa:Addr) (h:Heap),(K w.params).In h→h.Ns mainGlobals mg→mg d.name=some (.ref fa)→∃ fd:FuncData,(∀ (s:Shared) (u:Value),BindsTo s fd ⟨[u],[]⟩ [(x,u)])∧∀ base:Heap,(K w.params).In base→base.Ns mainGlobals mg→FnOk l.prog w (K w.params) mg base (CX w) k fa fd [x] (sp w)) (hsp:∀ (w:World) (H:Hp) (a:Addr) (ns:List Int),ns.length≤n→Only H→DL.KL (K w.params) H a (ns.map V.int)→sp w [.ref a] H (fun v _=>v=.bl true) fun _ _ _=>False) (hCX:∀ (w:World) (H:Hp) (s:Shared) (e:Value) (s':Shared),CX w [] H s (fun _ _ _=>False) e s'→False):PySem.W.WalkO q loose XP YP l.row.toRowW d [] (fun f vs=>PySem.call f vs):=by
  refine Att.attach_call hn hdf fun w s₀ s₁ mg mb fa o pm cd doc a vs ns G Y ho hd hcd hmg hobj hints hlen hg=>?_
  have KX:=hY w _ Y
  obtain ⟨fd,hb,hF⟩:=F w mg fa _ KX G.T.g hmg
  exact law_callD KX G.T.g G.T.b G.T.builtins G.T.nolimit hg hobj hints (Nat.le_trans hlen hn2) hr hF hb (fun H hO hS=>hsp w H a ns hlen hO hS) fun H e s'=>hCX w H s₁ e s'
end L2
namespace DL
open PySem PySem.Spec PyProof.Rows L2 Nd
def npk:List DV→Bool
  | []=>true
  | .dat .pk _::_=>false
  | _::xs=>npk xs
theorem npk_ok:∀ {S:List Ent} {sl:List DV},S.map Ent.x=sl→npk sl=true→∀ e∈S,isPk e.x=false
  | [],_,_,_,e,he=>nomatch he
  | ⟨v,x,F⟩::S,_,h,hn,e,he=>by
    subst h
    rw [List.map_cons] at hn
    have : isPk x=false∧npk (S.map Ent.x)=true:=by
      cases x with
      | dat m d=>cases m <;> first | exact ⟨rfl,hn⟩ | cases hn
      | _=>exact ⟨rfl,hn⟩
    rcases List.mem_cons.mp he with rfl | he
    · exact this.1
    · exact npk_ok rfl this.2 e he
def own1:Md→Bool
  | .ow=>true
  | .tp=>true
  | _=>false
section
variable {K:PySem.W.Frag} {H0 H:Hp} {X:Addr→Prop} {n:Nat} {E:List Ent}
theorem At.write {v:Option V} {m:Md} {ds es:List PyData} {a:Addr} {F G:List Addr} {ys:List V} (h:At K H0 X n (⟨v,.dat m (.list ds),a::F⟩::E) H) (ho:own1 m=true) (hv:v=some (.ref a)) (np:∀ e∈E,isPk e.x=false) (r:RdFs K H ys es G) (hG:G.Sublist F) (hz:es.length≤sizeLine):At K H0 X n (⟨v,.dat m (.list es),a::G⟩::E) (upd H a (.lst ys)):=by
  obtain ⟨w,e1,rd,hn,ht⟩:=h.ok _ List.mem_cons_self
  obtain ⟨b,xs,G0,e2,ha,ra,eF,_⟩:=rd.list_inv
  have eF':a::F=b::G0:=eF
  cases eF'
  have hs:=List.pairwise_cons.mp h.sep
  have naF:a∉F:=by
    cases m with
    | ow=>exact (List.nodup_cons.mp (hn rfl)).1
    | tp=>exact ht rfl a F rfl
    | sh=>cases ho
    | pk=>cases ho
  have ca:a∈cells ⟨v,.dat m (.list ds),a::F⟩:=by
    cases m <;> first | exact List.mem_cons_self | cases ho
  have kp:∀ {F':List Addr},a∉F'→Kp F' H (upd H a (.lst ys)):=fun {F'} hF b o q z=>by
    have : b≠a:=by
      rintro rfl
      rw [ha] at q
      cases q
      rcases z with z | z
      · exact hF z
      · rcases z with ⟨_,z⟩ | ⟨_,_,z⟩ <;> cases z
    rw [upd_ne this]
    exact q
  have n0:H0 a=none:=by
    rcases h.new _ List.mem_cons_self a ca with z | z
    · exact z
    · cases z.2
  have cs:∀ c∈cells ⟨v,.dat m (.list es),a::G⟩,c∈cells ⟨v,.dat m (.list ds),a::F⟩:=fun c hc=>by
    cases m with
    | ow =>
      rcases List.mem_cons.mp hc with z | z
      · exact List.mem_cons.mpr (.inl z)
      · exact List.mem_cons.mpr (.inr (hG.subset z))
    | tp=>exact hc
    | sh=>cases ho
    | pk=>cases ho
  have hsub:∀ c∈a::G,c∈a::F:=fun c hc=>by
    rcases List.mem_cons.mp hc with z | z
    · exact List.mem_cons.mpr (.inl z)
    · exact List.mem_cons.mpr (.inr (hG.subset z))
  have naG:a∉G:=fun z=>naF (hG.subset z)
  refine ⟨fun f hf=>?_,?_,fun f hf=>?_,fun b o nx q=>?_,fun b o q=>?_,fun b hb=>?_⟩
  · rcases List.mem_cons.mp hf with rfl | hf
    · refine ⟨.ref a,hv,.lst upd_same hz (r.kp (kp naG)),fun z=>?_,fun z c l e=>?_⟩
      · exact List.nodup_cons.mpr ⟨naG,(List.nodup_cons.mp (hn z)).2.sublist hG⟩
      · cases e
        exact naG
    · exact (h.ok f (List.mem_cons_of_mem _ hf)).kp (kp ((hs.1 f hf).1 (.inl (np f hf)) a ca)) (Nat.le_refl _)
  · refine List.pairwise_cons.mpr ⟨fun f hf=>⟨fun hq c hc=>(hs.1 f hf).1 (.inl (np f hf)) c (cs c hc),fun hq c hc z=>(hs.1 f hf).2 (.inl ?_) c hc (hsub c z)⟩,hs.2⟩
    cases m <;> first | rfl | cases ho
  · rcases List.mem_cons.mp hf with rfl | hf
    · exact fun c hc=>h.new _ List.mem_cons_self c (cs c hc)
    · exact h.new f (List.mem_cons_of_mem _ hf)
  · rw [upd_ne (ne_of_none q n0)]
    exact h.same b o nx q
  · rw [upd_ne (ne_of_none q n0)]
    exact h.dom b o q
  · obtain ⟨z,c,k,f,h1,h2⟩:=h.xd b hb
    refine ⟨z,c,k,f,(upd_ne ?_).trans h1,h2⟩
    rintro rfl
    exact z n0
end
theorem erase_perm {α:Type}:∀ {l:List α} {i:Nat} {x:α},l[i]? = some x→l.Perm (x::l.eraseIdx i)
  | [],i,x,h=>by simp at h
  | z::l,0,x,h=>by
    simp at h
    subst h
    exact List.Perm.refl _
  | z::l,i+1,x,h=>by
    have ih:=erase_perm (l:=l) (i:=i) (x:=x) (by simpa using h)
    rw [List.eraseIdx_cons_succ]
    exact (ih.cons z).trans (List.Perm.swap x z _)
theorem set_eperm {α:Type} {l:List α} {i:Nat} {x y:α} (h:l[i]? = some x):(l.set i y).Perm (y::l.eraseIdx i):=by
  have hlt:=(List.getElem?_eq_some_iff.mp h).1
  have q:=erase_perm (l:=l.set i y) (i:=i) (x:=y) (by rw [List.getElem?_set]; simp [hlt])
  rw [List.eraseIdx_set_eq] at q
  exact q
theorem slot_write {K:PySem.W.Frag} {H0 H:Hp} {X:Addr→Prop} {S T:List Ent} {δ:DS} {i:Nat} {m:Md} {ds es:List PyData} (hS:Sl S δ) (hT:∀ e∈T,isPk e.x=false) (hA:At K H0 X δ.n (S++T) H) (hi:δ.sl[i]? = some (.dat m (.list ds))) (ho:own1 m=true) (np:npk δ.sl=true):∃ a xs G,(vs S)[i]? = some (some (.ref a))∧H a=some (.lst xs)∧RdFs K H xs ds G∧ds.length≤sizeLine∧∀ ys G',RdFs K H ys es G'→G'.Sublist G→es.length≤sizeLine→∃ S',vs S'=vs S∧Sl S' ⟨δ.sl.set i (.dat m (.list es)),δ.n⟩∧At K H0 X δ.n (S'++T) (upd H a (.lst ys)):=by
  obtain ⟨ent,e2,e3⟩:=slot_of hS hi
  have hm:ent∈S:=List.mem_of_getElem? e2
  obtain ⟨u,x,F⟩:=ent
  have e3':x=.dat m (.list ds):=e3
  subst e3'
  obtain ⟨v,hv,rd,_⟩:=hA.ok _ (List.mem_append_left _ hm)
  obtain ⟨a,xs,G,rfl,ha,ra,eF,hz⟩:=rd.list_inv
  have eF':F=a::G:=eF
  subst eF'
  refine ⟨a,xs,G,by rw [vs_at e2]; exact congrArg some hv,ha,ra,hz,fun ys G' r hG hz'=>?_⟩
  have hn:=npk_ok hS np
  have pm:(S++T).Perm (⟨u,.dat m (.list ds),a::G⟩::(S.eraseIdx i++T)):=by
    exact (erase_perm e2).append_right T
  have h1:=(hA.perm pm).write (es:=es) (ys:=ys) ho hv (fun e he=>?_) r hG hz'
  · refine ⟨S.set i ⟨u,.dat m (.list es),a::G'⟩,?_,?_,h1.perm ?_⟩
    · unfold vs
      rw [List.map_set]
      apply List.ext_getElem?
      intro j
      rw [List.getElem?_set]
      split
      · rename_i hij
        subst hij
        rw [List.getElem?_map,e2]
        split
        · rfl
        · rename_i hj
          rw [List.length_map] at hj
          exact absurd (List.getElem?_eq_some_iff.mp e2).1 hj
      · rfl
    · unfold Sl at hS ⊢
      rw [List.map_set,hS]
    · exact ((set_eperm e2).append_right T).symm
  · rcases List.mem_append.mp he with he | he
    · exact hn e ((List.eraseIdx_sublist S i).subset he)
    · exact hT e he
def dAppend (i:Nat) (de:DE):DB:=fun D δ=>match δ.sl[i]? with
  | some (.dat _ (.list _))=>de δ fun y δ1=>match δ1.sl[i]?,y with
    | some (.dat m (.list ds)),.dat _ e=>own1 m=true∧npk δ1.sl=true∧imm e=true∧ds.length<1000000∧D.nx ⟨δ1.sl.set i (.dat m (.list (ds++[e]))),δ1.n⟩
    | _,_=>False
  | _=>False
section
variable {X:Cx} {o e:Expr} {de:DE} {apos cpos pos:Pos} {i:Nat}
theorem ds_append (ho:PE X o (tVar i)) (he:PED X e de) (hbase:attributeBase o "append" X.env (eval o X.env)=eval o X.env:=by rfl)
    (hfew:((backTo cpos (starEach [e] X.env)).all (fun x=>!x.1) && (backToKw cpos (keywordEach [] X.env)).all (fun x=>x.1.isSome)
      && decide (([e]:List Expr).length+([]:List Keyword).length+(if ([]:List Keyword).isEmpty then 0 else 1)<30))=true:=by rfl)
    (hline:(apos.endLine == cpos.line)=true:=by rfl) (hs:starEach [e] X.env=(false,eval e X.env)::starEach [] X.env:=by rfl) (hplain:(backTo cpos (starEach [] X.env)).any (·.1)=false:=by rfl)
    (hsw:swapsWith (.Call (.Attribute o "append" apos) [e] [] cpos) none pos.line X.env=pure false:=by rfl) :
    PSD X (.Expr (.Call (.Attribute o "append" apos) [e] [] cpos) pos) (dAppend i de):=by
  refine PS.impD (ps_expr (pe_bm PySem.F.plainAttrs_list PySem.F.slot_list_append PySem.F.type_list_append mt_append ho (pa_cons he pa_nil hs) hbase hfew hline hs hplain) hsw) fun D σ H h=>?_
  obtain ⟨H0,Y,S,T,δ,P,rfl,hS,hT,hA,hd,k1,k2,k3,k4⟩:=h
  unfold dAppend at hd
  split at hd
  case h_2=>exact hd.elim
  rename_i m0 ds0 hsl
  obtain ⟨ent,e2,e3⟩:=slot_of hS hsl
  have hm:ent∈S:=List.mem_of_getElem? e2
  obtain ⟨u,x,F⟩:=ent
  have e3':x=.dat m0 (.list ds0):=e3
  subst e3'
  obtain ⟨v,hv,rd,_⟩:=hA.ok _ (List.mem_append_left _ hm)
  obtain ⟨a,xs,G,rfl,ha,ra,eF,hz⟩:=rd.list_inv
  refine ⟨.ref a,by rw [vs_at e2]; exact congrArg some hv,.inl ⟨rfl,xs,SqL.of ha⟩,H0,Y,S,T,δ,_,rfl,hS,hA,hd,fun y δ1 w F1 S1 H1 e4 e5 hA1 p1=>?_⟩
  split at p1
  · rename_i m ds m' e' hsl1
    obtain ⟨p1,p2,p3,p4,p5⟩:=p1
    have r:=hA1.told mem_mid
    obtain rfl:=r.imm p3
    obtain ⟨b,xs1,G1,g1,g2,g3,g4,g5⟩:=slot_write (es:=ds++[e']) e5 hT hA1.drop hsl1 p1 p2
    rw [e4,vs_at e2] at g1
    have : some (V.ref b)=some (V.ref a):=(Option.some.inj g1).symm.trans hv
    cases this
    obtain ⟨S2,h1,h2,h3⟩:=g5 (xs1++[w]) (G1++[]) (g3.snoc r) (by rw [List.append_nil]; exact List.Sublist.refl _) (by rw [List.length_append]; exact sz2 (by simp; omega))
    have hl:=g3.len
    refine ⟨a,xs1,w,rfl,rfl,g2,Nat.lt_of_lt_of_le (by omega) (sz2 (n:=1000000) (Nat.le_refl _)),?_⟩
    rw [← e4,← h1]
    exact k1 ⟨_,_⟩ S2 _ h2 h3 p5
  · exact p1.elim
end
theorem RdFs.setI {K:PySem.W.Frag} {H:Hp}:∀ {xs:List V} {ds:List PyData} {j:Nat} {v:V} {e:PyData},RdFs K H xs ds []→RdF K H v e []→RdFs K H (xs.set j v) (ds.set j e) []:=by
  have main:∀ {xs:List V} {ds:List PyData} {F:List Addr} {j:Nat} {v:V} {e:PyData},RdFs K H xs ds F→F=[]→RdF K H v e []→RdFs K H (xs.set j v) (ds.set j e) []:=by
    intro xs ds F j v e h
    induction j generalizing xs ds F with
    | zero =>
      intro hF r
      cases h with
      | nil=>exact .nil
      | cons a t =>
        obtain ⟨rfl,rfl⟩:=List.append_eq_nil_iff.mp hF
        exact RdFs.cons (F:=[]) r t
    | succ j ih =>
      intro hF r
      cases h with
      | nil=>exact .nil
      | cons a t =>
        obtain ⟨rfl,rfl⟩:=List.append_eq_nil_iff.mp hF
        exact RdFs.cons (F:=[]) a (ih t rfl r)
  intro xs ds j v e h r
  exact main h rfl r
end DL
namespace DL
open PySem PySem.Spec PyProof.Rows L2 Nd
def spLawD (K:PySem.W.Frag):Sp:=fun us H Q _=>∃ (a:Addr) (ns:List Int),us=[.ref a]∧KL K H a (ns.map V.int)∧ns.length≤63∧∀ H',Q (.bl true) H'
def retL:DEnds where
  nx:=fun _=>False
  rt:=fun x _=>∃ m,x=.dat m (.bool true)
section
variable {P:Program} {w:World} {K:PySem.W.Frag} {mg:Str→Option Value} {base:Heap}
theorem fn_law {x qual p0:Str} {st:Stmt} {f:Addr} {fd:FuncData} {N:List Str} {k:Nat} {db:DB} (F:Fun K x qual st f fd) (S:FnScope N [p0] (defScope st)) (hb:∀ (cdv:Value) (A:Around) (outer:List Env) (s:Shared) (H:Hp) (E:XK),Room k (A.deeper (envOfC qual (defScope st) s.heap.objs.size f cdv))→PSsD (cxOf CX0 P w K mg base N qual (defScope st) f cdv A outer s H E).nox (defBody st) db) (h:∀ ns:List Int,ns.length≤63→db retL ⟨.scr ns::List.replicate (N.length - 1) .un,0⟩):FnOk P w K mg base CX0 (k+1) f fd [p0] (spLawD K):=by
  refine F.ok S (fun vs H Q E z=>?_) fun cdv A outer s H us Q E hr z=>?_
  · obtain ⟨a,ns,rfl,_⟩:=z
    rfl
  · obtain ⟨a,ns,rfl,hK,h63,k1⟩:=z
    refine ⟨_,hb cdv A outer s H E hr,H,fun _=>False,⟨some (.ref a),.scr ns,[]⟩::blanks (N.length - 1),[],⟨.scr ns::List.replicate (N.length - 1) .un,0⟩,retL,?_,?_,fun _ z=>(nomatch z),?_,h ns h63,fun δ' S' H' e1 hA p=>p.elim,fun x δ' v F' S' H' e1 hA p=>?_,fun _ _ _ _ _ p=>p.elim,fun _ _ _ _ _ p=>p.elim⟩
    · unfold vs L2.start blanks
      rw [List.map_cons,rep_map]
      rfl
    · unfold Sl blanks
      rw [List.map_cons,rep_map]
    · rw [List.append_nil]
      have hc:∀ e∈(⟨some (.ref a),.scr ns,[]⟩::blanks (N.length - 1):List Ent),cells e=[]:=fun e he=>by
        rcases List.mem_cons.mp he with rfl | he
        · rfl
        · rw [(List.mem_replicate.mp he).2]
          rfl
      refine ⟨fun e he=>?_,pair_mem fun a ha b hb'=>⟨fun hq c z=>?_,fun hq c z=>?_⟩,fun e he a ha=>?_,fun b o _ e=>e,fun b o e=>⟨o,e⟩,fun b hb=>hb.elim⟩
      · rcases List.mem_cons.mp he with rfl | he
        · exact ⟨a,rfl,rfl,hK,h63⟩
        · rw [(List.mem_replicate.mp he).2]
          exact (rfl:([]:List Addr)=[])
      · rw [hc a ha] at z; cases z
      · rw [hc b hb'] at z; cases z
      · rw [hc e he] at ha; cases ha
    · obtain ⟨m,rfl⟩:=p
      rw [show S'++[(⟨some v,.dat m (.bool true),F'⟩ : Ent)]=S'++⟨some v,.dat m (.bool true),F'⟩::[] from rfl] at hA
      obtain ⟨rfl,_⟩:=(hA.told mem_mid).bl_inv
      exact k1 H'
end
def dScrSl (i:Nat) (dl dh:DO):DE:=fun δ P=>match δ.sl[i]? with
  | some (.scr ns)=>dl δ fun l δ2=>dh δ2 fun h δ3=>P (.dat .ow (.list ((cutG ns l h).map PyData.int))) δ3
  | _=>False
section
variable {X:Cx} {e b:Expr} {de:DE} {lo hi:Option Expr} {dl dh:DO} {pos p2:Pos} {i:Nat}
theorem scr_at {K:PySem.W.Frag} {H0 H:Hp} {Y:Addr→Prop} {S T:List Ent} {δ:DS} {ns:List Int} (hS:Sl S δ) (hA:At K H0 Y δ.n (S++T) H) (hi:δ.sl[i]? = some (.scr ns)):∃ a,(vs S)[i]? = some (some (.ref a))∧(⟨some (.ref a),.scr ns,[]⟩ : Ent)∈S∧KL K H a (ns.map V.int)∧ns.length≤63:=by
  obtain ⟨ent,e2,e3⟩:=slot_of hS hi
  have hm:ent∈S:=List.mem_of_getElem? e2
  obtain ⟨u,x,F⟩:=ent
  have e3':x=.scr ns:=e3
  subst e3'
  obtain ⟨a,h1,h2,h3⟩:=hA.ok _ (List.mem_append_left _ hm)
  have h1':u=some (.ref a):=h1
  have h2':F=[]:=h2
  subst h1' h2'
  exact ⟨a,by rw [vs_at e2],hm,h3⟩
theorem dp_scrSl (he:PE X e (tVar i)) (hl:POD X lo dl) (hh:POD X hi dh):PED X (.Subscript e (.Slice lo hi none p2) pos) (dScrSl i dl dh):=by
  refine PE.imp (pe_slice (r:=rSlL X.K) sl_list he hl hh) fun σ H Q h=>?_
  obtain ⟨H0,Y,S,T,δ,P,rfl,hS,hA,hd,k⟩:=h
  unfold dScrSl at hd
  split at hd
  case h_2=>exact hd.elim
  rename_i ns hsl
  obtain ⟨a,ha,hm,hK,h63⟩:=scr_at hS hA hsl
  have hA0:At X.K H0 Y δ.n (S++⟨some (.ref a),.scr ns,[]⟩::T) H:=(At.view1 hA (List.mem_append_left _ hm)).tomid
  refine ⟨.ref a,ha,H0,Y,S,⟨some (.ref a),.scr ns,[]⟩::T,δ,_,rfl,hS,hA0,hd,fun l δ2 S2 H2 e3 e4 hA2 p2=>?_⟩
  refine ⟨H0,Y,S2,⟨some (.ref a),.scr ns,[]⟩::T,δ2,_,e3,e4,hA2,p2,fun h δ3 S3 H3 e5 e6 hA3 p3=>?_⟩
  obtain ⟨a',h1,_,hK3,_⟩:=hA3.ok _ mem_mid
  cases h1
  refine ⟨a,_,rfl,hK3.sq,fun p hp=>?_⟩
  have : cutV (ns.map V.int) l h=(cutG ns l h).map V.int:=by
    rw [← cutG_map]; rfl
  rw [this]
  refine k _ δ3 _ _ S3 _ e5 e6 (hA3.drop.newI (RdFs.ints _) (immAll_ints _) ?_ hp .ow) p3
  rw [List.length_map]
  have l1:=(cutG_sub ns l h).length_le
  exact sz (by omega)
end
def CPow2 (i j:Int):Prop:=0≤j∧(Builtin.Int.intBits i:Int) * j≤2 ^ 27
theorem op_pow2 {X:Cx}:OpR X (binaryOp .Pow) (rI CPow2 fun i j=>.int (i ^ j.toNat)):=opI fun _ _ _ _ _ _ _ hc q=>pow_int hc.1 hc.2 q
def dfNext:DF:=fun ds n R=>ds=[]∧n≤100000∧∀ r:Int,R (.int r) (n+1)
theorem next_ok {P:Program} {w:World} {K:PySem.W.Frag} {mg:Str→Option Value} {base:Heap} {k:Nat} {f:Addr} {fd:FuncData} {ps:List Str} (F:FnOk P w K mg base CX0 k f fd ps spNext):FnOk P w K mg base CX0 k f fd ps (SpW K dfNext):=by
  refine F.imp fun us H Q E h=>?_
  obtain ⟨dr,ws,As,n,ds,R,rfl,eu,ok,nd,⟨c,kk,fl,hdr,h0,h1⟩,q,hp,k1⟩:=h
  obtain ⟨rfl,hn,hR⟩:=hp
  have hAs:As=[]:=by
    have:=datas_len q
    rw [List.length_map] at this
    exact List.length_eq_zero_iff.mp this
  subst hAs
  have hws:ws=[]:=by
    cases ws with
    | nil=>rfl
    | cons _ _=>cases eu
  subst hws
  refine ⟨dr,c,kk,fl,rfl,hdr,h0,by omega,fun r c' H' hd' s=>?_⟩
  exact k1 (.int r) (.int r) [] (n+1) H' (by omega) (hR r) (.int r) List.nodup_nil (fun _ z=>(nomatch z)) ⟨c',kk+1,fl,hd',by omega,by omega⟩ s
end DL
namespace DL
open PySem PySem.Spec PyProof.Rows L2 Nd
def pfTog:PF:=fun ds R=>∃ a b:List Int,ds=[wordD a,wordD b]∧Rising 60 a∧Rising 60 b∧R (wordD (sset (a++b)))
theorem rising_len {ns:List Int} (r:Rising 60 ns):ns.length≤60:=Nat.le_trans (NdS.len_leI (r.1.imp fun {x y} h=>Int.ne_of_lt h) fun e he=>mem_U60 (r.2 e he).1 (r.2 e he).2) (by decide)
theorem word_inv {K:PySem.W.Frag} {H:Hp} {v:V} {F:List Addr} {ns:List Int} (r:RdF K H v (wordD ns) F):∃ a,v=.ref a∧H a=some (.tup (ns.map V.int)):=by
  obtain ⟨a,xs,rfl,ha,ra,_⟩:=RdF.tup_inv (ds:=ns.map PyData.int) r
  obtain ⟨rfl,_⟩:=ra.ints_inv
  exact ⟨a,rfl,ha⟩
theorem word_rd {K:PySem.W.Frag} {H:Hp} {a:Addr} {ns:List Int} (h:H a=some (.tup (ns.map V.int))) (l:ns.length≤1000000):RdF K H (.ref a) (wordD ns) []:=.tup h (by rw [List.length_map]; exact sz2 l) (RdFs.ints ns)
theorem two_told {K:PySem.W.Frag} {H:Hp} {n:Nat} {As:List Ent} {us:List V} {d1 d2:PyData} (eu:As.map Ent.v=us.map some) (ok:∀ e∈As,EntOk K H n e) (q:datas (As.map Ent.x)=some [d1,d2]):∃ v1 v2 F1 F2,us=[v1,v2]∧RdF K H v1 d1 F1∧RdF K H v2 d2 F2:=by
  have r:=datas_rd eu q ok
  generalize As.flatMap Ent.F=G0 at r
  cases r with
  | cons a t =>
    cases t with
    | cons b t =>
      cases t
      exact ⟨_,_,_,_,rfl,a,b⟩
section
variable {P:Program} {w:World} {K:PySem.W.Frag} {mg:Str→Option Value} {base:Heap} {k:Nat} {f:Addr} {fd:FuncData} {ps:List Str}
theorem tog_ok (F:FnOk P w K mg base CX0 k f fd ps (spTog K)):FnOk P w K mg base CX0 k f fd ps (SpP K pfTog):=by
  refine F.imp fun us H Q E h=>?_
  obtain ⟨As,n,ds,R,eu,ok,q,hp,k1⟩:=h
  obtain ⟨a,b,rfl,ra,rb,hR⟩:=hp
  obtain ⟨v1,v2,F1,F2,rfl,r1,r2⟩:=two_told eu ok q
  obtain ⟨p1,rfl,h1⟩:=word_inv r1
  obtain ⟨p2,rfl,h2⟩:=word_inv r2
  refine ⟨p1,p2,a,b,rfl,SqT.of h1,SqT.of h2,ra,rb,fun r ts H' nr er nd pw mem s=>?_⟩
  have e:ts=sset (a++b):=sset_eq (strict_of nd pw) mem
  subst e
  refine k1 (.ref r) _ [] H' hR (word_rd er ?_) List.nodup_nil (fun _ z=>(nomatch z)) s
  have:=sset_len (ns:=a++b) (fun x hx=>by
    rcases List.mem_append.mp hx with z | z
    · exact ra.2 x z
    · exact rb.2 x z)
  omega
end
end DL
namespace DL
open PySem PySem.Spec PyProof.Rows L2 Nd
end DL
namespace DL
open PySem PySem.Spec PyProof.Rows L2 Nd
end DL
namespace DL
open PySem PySem.Spec PyProof.Rows L2 Nd
end DL
namespace Nd
open PySem PySem.Spec PyProof.Rows L2
end Nd
namespace DL
open PySem PySem.Spec PyProof.Rows L2 Nd
end DL
namespace DL
open PySem PySem.Spec PyProof.Rows L2 Nd
end DL
namespace DL
open PySem PySem.Spec PyProof.Rows L2 Nd
end DL
namespace DL
open PySem PySem.Spec PyProof.Rows L2 Nd
end DL
namespace Nd
open PySem PySem.Spec PyProof.Rows
section
variable {prog:Program} {w:World} {κ:Type} [DecidableEq κ] (knd:HeapKind prog w κ)
def DictE (h:Heap) (d:Addr) (xs:List (κ×Addr×Value)):Prop :=
  ∃ (o:Obj) (es:Array DictEntry) (ep:Nat),h.get? d=some o∧o.ExactDict∧o.data=.dict es ep∧es.toList=xs.map (entryOfKey knd)∧(∀ x∈xs,knd.is h x.1 x.2.1)∧(xs.map (·.1)).Nodup∧ep=es.size
variable {knd}
variable {A:Around} {E:Value→Shared→Prop} {s:Shared} {d a:Addr} {xs:List (κ×Addr×Value)} {k:κ} {v:Value}
theorem more_keys {xs:List (κ×Addr×Value)} {k:κ} {a:Addr} {v:Value} (hn:(xs.map (·.1)).Nodup) (hk:k∉xs.map (·.1)):((xs++[(k,a,v)]).map (·.1)).Nodup:=by
  rw [List.map_append,List.nodup_append]
  refine ⟨hn,by simp,fun x hx y hy e=>hk ?_⟩
  rw [List.map_cons,List.map_nil,List.mem_singleton] at hy
  have hy:y=k:=hy
  rw [← hy,← e]
  exact hx
theorem push_new {o:Obj} {es:Array DictEntry} {ep:Nat} {h:Heap} (ho:h.get? d=some o) (hc:o.ExactDict) (hd:o.data=.dict es ep) (he:es.toList=xs.map (entryOfKey knd)) (his:∀ x∈xs,knd.is h x.1 x.2.1) (hn:(xs.map (·.1)).Nodup) (hep:ep=es.size) (hkey:knd.is h k a) (ha:atKey xs k=none) (hk:k∉xs.map (·.1)):DictE knd (h.update d (Obj.mapDictKeys fun es=>es.push ⟨knd.hash k,.ref a,v⟩)) d (storedH xs k a v):=by
  rw [storedH_new ha]
  refine ⟨_,_,ep+1,Heap.get?_update_self _ ho (Obj.isFreed_of_dict (Obj.data_mapDictKeys hd _)),hc.mapDictKeys _,Obj.data_mapDictKeys hd _,by simp [he,entryOfKey],fun x hx=>?_,more_keys hn hk,by rw [hep,Array.size_push]⟩
  rcases List.mem_append.mp hx with z | z
  · exact knd.keeps (his x z) ho hd (Heap.SameBut.update ..)
  · rw [List.mem_singleton.mp z]
    exact knd.keeps hkey ho hd (Heap.SameBut.update ..)
theorem dictSetE {Q:Unit→Shared→Prop} (hu:knd.room A) (hkey:knd.is s.heap k a) (hm:DictE knd s.heap d xs) (q:∀ h',DictE knd h' d (storedH xs k a v)→Heap.SameBut d s.heap h'→Q () { s with heap:=h',toks:=s.toks+knd.draws k }) (hz:xs.length≤sizeLine):wpAny (model prog w) A (dictSet d (.ref a) v) Q E s:=by
  obtain ⟨o,es,ep,ho,hc,hd,he,his,hn,hep⟩:=hm
  unfold dictSet
  try with_reducible refine wpAny_holding ?_
  refine wpAny_bind (knd.pyHash hu hkey ?_)
  unfold dictSetHashed
  try with_reducible refine wpAny_holding ?_
  refine wpAny_bind (wpAny_dictFind_heap (s:={ s with toks:=s.toks+knd.draws k }) hu hkey ho hd he his hn (fun no=>?_) fun j p hj=>?_)
  · exact wpAny_bind (wpAny_rule (wpAny_updateDictKeys (hz:=by have e:=size_of_entries he; omega) (s:={ s with toks:=s.toks+knd.draws k }) ho hd (q _ (push_new ho hc hd he his hn hep hkey (atKey_none_of_get no) (not_mem_keys_of_get no)) (Heap.SameBut.update ..))))
  · refine wpAny_bind (wpAny_rule (wpAny_bind (wpAny_updateDict (s:={ s with toks:=s.toks+knd.draws k }) ho hd (wpAny_point (q _ ?_ (Heap.SameBut.update ..))))))
    rw [storedH_old (atKey_of_get hn hj)]
    refine ⟨_,_,ep,Heap.get?_update_self _ ho (Obj.isFreed_of_dict (Obj.data_mapDict hd _)),hc.mapDict _,Obj.data_mapDict hd _,?_,fun x hx=>?_,by rw [keys_map_putAt]; exact hn,by rw [hep]; simp⟩
    · have e1:=modify_map_putAt (entryOfKey knd) (fun e:DictEntry=>{ e with val:=v }) k v (fun _ _=>rfl) hn hj
      rw [← he] at e1
      obtain ⟨l⟩:=es
      simpa using e1
    · obtain ⟨y,hy,rfl⟩:=List.mem_map.mp hx
      unfold putAt
      split <;> exact knd.keeps (his y hy) ho hd (Heap.SameBut.update ..)
end
end Nd
namespace L2
open PySem PySem.Spec PyProof.Rows
section
variable {κ:Type} [DecidableEq κ]
def valV (kvs:List (κ×V)) (k:κ):Option V:=(kvs.find? fun kv=>decide (kv.1=k)).map (·.2)
def putK (kvs:List (κ×V)) (k:κ) (v:V):List (κ×V) :=
  if (kvs.any fun kv=>decide (kv.1=k))=true then kvs.map (fun kv=>if kv.1=k then (kv.1,v) else kv) else kvs++[(k,v)]
theorem valV_pos {p:κ×V} {r:List (κ×V)} {k:κ} (e:p.1=k):valV (p::r) k=some p.2:=by simp [valV,List.find?_cons,e]
theorem valV_neg {p:κ×V} {r:List (κ×V)} {k:κ} (e:¬ p.1=k):valV (p::r) k=valV r k:=by simp [valV,List.find?_cons,e]
theorem valV_any (k:κ):∀ kvs:List (κ×V),(kvs.any fun kv=>decide (kv.1=k))=(valV kvs k).isSome
  | []=>rfl
  | p::r=>by
    rw [List.any_cons]
    by_cases e:p.1=k
    · simp only [valV_pos e,decide_eq_true e,Bool.true_or,Option.isSome_some]
    · rw [valV_neg e,decide_eq_false e,Bool.false_or]; exact valV_any k r
theorem length_putK (kvs:List (κ×V)) (k:κ) (v:V):(putK kvs k v).length≤kvs.length+1:=by
  unfold putK
  split
  · rw [List.length_map]; omega
  · rw [List.length_append,List.length_cons,List.length_nil]; omega
theorem RelO.isSome_eq {o:Option V} {u:Option Value} (r:RelO o u):o.isSome=u.isSome:=by
  cases o with
  | none=>cases u with
    | none=>rfl
    | some _=>exact (show False from r).elim
  | some _=>cases u with
    | none=>exact (show False from r).elim
    | some _=>rfl
theorem KV.val {kvs:List (κ×V)} {vs:List (κ×Value)} (r:KV kvs vs) (k:κ):RelO (valV kvs k) (valueAt vs k):=by
  unfold KV at r
  induction r with
  | nil=>exact True.intro
  | @cons p q ps qs h t ih =>
    obtain ⟨h1,h2⟩:=h
    by_cases e:p.1=k
    · have e':q.1=k:=h1.symm.trans e
      have b:valueAt (q::qs) k=some q.2:=by simp [valueAt,List.find?_cons,e']
      rw [valV_pos e,b]; exact h2
    · have e':¬ q.1=k:=fun z=>e (h1.trans z)
      have b:valueAt (q::qs) k=valueAt qs k:=by simp [valueAt,List.find?_cons,e']
      rw [valV_neg e,b]; exact ih
end
theorem kV_is {P:Program} {w:World} {k:Key} {u:Value} (r:RelV (kV k) u):(mixKind P w).is k u=true:=by
  cases k with
  | inl i=>obtain ⟨t,e⟩:=(show ∃ t,u=Value.int i t from r); subst e; exact mixKind_int P w i t
  | inr x=>obtain ⟨t,e⟩:=(show ∃ t,u=Value.str x t from r); subst e; exact mixKind_str P w x t
theorem items_are {P:Program} {w:World}:∀ {ks:List Key} {us:List Value},Vals (ks.map kV) us→ItemsAre (mixKind P w) ks us
  | [],_,r=>by rw [List.map_nil] at r; cases r; exact .nil
  | k::ks,_,r=>by
    rw [List.map_cons] at r
    cases r with
    | cons h t=>exact .cons (kV_is h) (items_are t)
abbrev KT (H:Hp):List (List Key×V)→List (List Key×Addr×Value)→Prop:=Paired fun p q=>p.1=q.1∧H q.2.1=some (.tup (p.1.map kV))∧RelV p.2 q.2.2
theorem KT.val {H:Hp} {kvs:List (List Key×V)} {xs:List (List Key×Addr×Value)} (r:KT H kvs xs) (k:List Key):RelO (valV kvs k) ((atKey xs k).map (·.2)):=by
  induction r with
  | nil=>exact True.intro
  | @cons p q ps qs h t ih =>
    obtain ⟨h1,_,h2⟩:=h
    by_cases e:p.1=k
    · have e':q.1=k:=h1.symm.trans e
      have b:atKey (q::qs) k=some q.2:=by simp [atKey,List.find?_cons,e']
      rw [valV_pos e,b]; exact h2
    · have e':¬ q.1=k:=fun z=>e (h1.trans z)
      have b:atKey (q::qs) k=atKey qs k:=by simp [atKey,List.find?_cons,e']
      rw [valV_neg e,b]; exact ih
theorem KT.repl {H:Hp} {kvs:List (List Key×V)} {xs:List (List Key×Addr×Value)} (r:KT H kvs xs) (k:List Key) {y:V} {u:Value} (ry:RelV y u):KT H (kvs.map fun kv=>if kv.1=k then (kv.1,y) else kv) (xs.map (putAt k u)):=by
  induction r with
  | nil=>exact .nil
  | @cons p q ps qs h t ih =>
    rw [List.map_cons,List.map_cons]
    refine .cons ?_ ih
    obtain ⟨h1,h2,h3⟩:=h
    unfold putAt
    by_cases e:p.1=k
    · rw [if_pos e,if_pos (h1.symm.trans e)]; exact ⟨h1,h2,ry⟩
    · rw [if_neg e,if_neg (fun z=>e (h1.trans z))]; exact ⟨h1,h2,h3⟩
theorem KT.put {H:Hp} {kvs:List (List Key×V)} {xs:List (List Key×Addr×Value)} (r:KT H kvs xs) (k:List Key) {b:Addr} {y:V} {u:Value} (hb:H b=some (.tup (k.map kV))) (ry:RelV y u):KT H (putK kvs k y) (storedH xs k b u):=by
  have e:(kvs.any fun kv=>decide (kv.1=k))=(atKey xs k).isSome:=by
    rw [valV_any,(r.val k).isSome_eq,Option.isSome_map]
  unfold putK storedH
  rw [e]
  by_cases q:(atKey xs k).isSome=true
  · rw [if_pos q,if_pos q]; exact r.repl k ry
  · rw [if_neg q,if_neg q]; exact Paired.snoc r ⟨rfl,hb,ry⟩
theorem KT.keeps {H H':Hp} {kvs:List (List Key×V)} {xs:List (List Key×Addr×Value)} (r:KT H kvs xs) (ht:∀ b ys,H b=some (.tup ys)→H' b=some (.tup ys)):KT H' kvs xs :=
  Paired.mapP r fun _ _ z=>⟨z.1,ht _ _ z.2.1,z.2.2⟩
section
variable {P:Program} {w:World} {H:Hp} {h:Heap} {a:Addr}
theorem rd_of {u:HO} (ok:HOk P w H h) (e:Rd H a u):ObjOk P w H h a u:=e.ok ok
theorem dk_rd {kvs:List (Key×V)} (ok:HOk P w H h) (e:Rd H a (.dK kvs)):kvs.length≤sizeLine∧(a == sysModules)=false∧∃ vs,KV kvs vs∧h.DictOf (mixKind P w) a vs :=
  show ObjOk P w H h a (.dK kvs) from rd_of ok e
theorem key_of {ks:List Key} (ok:HOk P w H h) (e:H a=some (.tup (ks.map kV))):(tupleKind (mixKind P w)).is h ks a:=by
  obtain ⟨_,its,r,o,h1,h2,n,h3⟩:=(show ObjOk P w H h a (.tup (ks.map kV)) from ok a _ e)
  exact ⟨o,its.toArray,n,h1,h2,h3,by simpa using items_are r⟩
theorem dt_rd {kvs:List (List Key×V)} (ok:HOk P w H h) (e:Rd H a (.dT kvs)):kvs.length≤sizeLine∧(a == sysModules)=false∧∃ xs,KT H kvs xs∧h.DictOfH (tupleKind (mixKind P w)) a xs:=by
  obtain ⟨z,y,xs,r,o,es,ep,h1,h2,h3,h4,h5,h6⟩:=(show ObjOk P w H h a (.dT kvs) from rd_of ok e)
  refine ⟨z,y,xs,r,o,es,ep,h1,h2,h3,h4,fun x hx=>?_,h5⟩
  have all:∀ {l:List (List Key×V)} {m:List (List Key×Addr×Value)},KT H l m→∀ x∈m,(tupleKind (mixKind P w)).is h x.1 x.2.1:=by
    intro l m q
    induction q with
    | nil=>intro x hx; exact nomatch hx
    | @cons p q ps qs hq t ih =>
      intro x hx
      rcases List.mem_cons.mp hx with e | hx
      · subst e
        exact key_of ok (by rw [← hq.1]; exact hq.2.1)
      · exact ih x hx
  exact all r x hx
theorem dt_rdE {kvs:List (List Key×V)} (ok:HOk P w H h) (e:Rd H a (.dT kvs)):kvs.length≤sizeLine∧(a == sysModules)=false∧∃ xs,KT H kvs xs∧Nd.DictE (tupleKind (mixKind P w)) h a xs:=by
  obtain ⟨z,y,xs,r,o,es,ep,h1,h2,h3,h4,h5,h6⟩:=(show ObjOk P w H h a (.dT kvs) from rd_of ok e)
  refine ⟨z,y,xs,r,o,es,ep,h1,h2,h3,h4,fun x hx=>?_,h5,h6⟩
  have all:∀ {l:List (List Key×V)} {m:List (List Key×Addr×Value)},KT H l m→∀ x∈m,(tupleKind (mixKind P w)).is h x.1 x.2.1:=by
    intro l m q
    induction q with
    | nil=>intro x hx; exact nomatch hx
    | @cons p q ps qs hq t ih =>
      intro x hx
      rcases List.mem_cons.mp hx with e | hx
      · subst e
        exact key_of ok (by rw [← hq.1]; exact hq.2.1)
      · exact ih x hx
  exact all r x hx
theorem dt_of {kvs:List (List Key×V)} (ok:HOk P w H h) (e:H a=some (.dT kvs)):kvs.length≤sizeLine∧(a == sysModules)=false∧∃ xs,KT H kvs xs∧h.DictOfH (tupleKind (mixKind P w)) a xs:=dt_rd ok (.inl e)
end
def DGet (H:Hp) (a:Addr) (y:V) (r:Option V):Prop :=
  (∃ kvs k,Rd H a (.dK kvs)∧y=kV k∧r=valV kvs k)∨∃ kvs k b,Rd H a (.dT kvs)∧y=.ref b∧H b=some (.tup (k.map kV))∧r=valV kvs k
theorem DGet.t {H:Hp} {a b:Addr} {kvs:List (List Key×V)} {k:List Key} (e:H a=some (.dT kvs)) (eb:H b=some (.tup (k.map kV))):DGet H a (.ref b) (valV kvs k):=.inr ⟨kvs,k,b,.inl e,rfl,eb,rfl⟩
section
variable {X:Cx} {pins:List (Addr×Obj)} {σ:St} {H:Hp} {s:Shared} {a:Addr} {y v:V} {u r:Value} {o:Option V} {A:Around} {E:Value→Shared→Prop}
theorem Inv.big (I:Inv X pins σ H s):sysModules<s.heap.objs.size:=by
  have h:mainGlobals<s.heap.objs.size:=(I.mod.glob.keeps I.bk).lt
  exact Nat.lt_trans (by decide) h
theorem d_getItem {Q:Value→Shared→Prop} (hu:A.units+1<cLine) (I:Inv X pins σ H s) (g:DGet H a y (some v)) (ry:RelV y u) (h:∀ w' s',Inv X pins σ H s'→RelV v w'→Q w' s'):wpAny (model X.prog X.w) A (getItem (.ref a) u) Q E s:=by
  rcases g with ⟨kvs,k,e,ey,l⟩ | ⟨kvs,k,b,e,ey,eb,l⟩
  · subst ey
    obtain ⟨z,hd,vs,rel,dd⟩:=dk_rd I.hok e
    obtain ⟨w',hw,rw'⟩:=RelO.some_of (v:=v) (o:=valueAt vs k) (by rw [l]; exact rel.val k)
    exact wpAny_getItem_of (kV_is ry) dd.mapOf hw (h w' _ (I.tok _) rw')
  · subst ey
    cases (show u=Value.ref b from ry)
    obtain ⟨z,hd,xs,rel,dd⟩:=dt_rd I.hok e
    obtain ⟨w',hw,rw'⟩:=RelO.some_of (v:=v) (o:=(atKey xs k).map (·.2)) (by rw [l]; exact rel.val k)
    obtain ⟨p,hp,hp2⟩:=Option.map_eq_some_iff.mp hw
    refine wpAny_getItem_heap (tupleKind_room_in1 hu) (key_of I.hok eb) dd hp ?_
    rw [hp2]
    exact h w' _ (I.tok _) rw'
theorem d_write {h':Heap} {t':Nat} {ob:HO} (I:Inv X pins σ H s) (mu:Mut (H a)) (hs:Heap.SameBut a s.heap h') (he:∃ q,h'.get? a=some q) (new:ObjOk X.prog X.w (upd H a ob) h' a ob):Inv X pins σ (upd H a ob) { s with heap:=h',toks:=t' } :=
  I.write (x:=a) (e:=a) mu (.inl rfl) (fun b q hb z=>(hs.2 b hb).trans z) he new
end
def NoSl (i:Expr):Prop:=∀ ov iv,subscripted i false ov iv=operate [ov,iv] (getItem ov iv)
theorem subD_of {prog:Program} {w:World} {A:Around} {E:Value→Shared→Prop} {s:Shared} {env:Env} {value slice:Expr} {pos:Pos} {T id:String} {Q:Value→Shared→Prop} (hl:typeLookup (.type T) "__getitem__" = pure (some (.builtin id))) (hs:NoSl slice) (h:wpAny (model prog w) A (eval value env) (fun o s₁=>wpAny (model prog w) A (eval slice env) (fun i s₂=>s₂.TypeIs o T∧wpAny (model prog w) A (getItem o i) Q E s₂) E s₁) E s):wpAny (model prog w) A (eval (.Subscript value slice pos) env) Q E s:=by
  refine Subscript_ (wpAny_mono h (fun o s₁ h₁=>wpAny_mono h₁ (fun i s₂ h₂=>?_) fun _ _ x=>x) fun _ _ x=>x)
  obtain ⟨hT,h₂⟩:=h₂
  unfold subscriptTail
  refine wpAny_bind ?_
  rw [getitemInPython_of_ne hT.not_modules]
  refine wpAny_bind (wpAny_specialOf hT hl ?_)
  have fin:wpAny (model prog w) A (subscripted slice false o i) (fun r s₃=>wpAny (model prog w) A (letTemporaryGo value o r >>= fun _=>pure r) Q E s₃) E s₂:=by
    rw [hs o i]
    exact wpAny_operating (wpAny_mono h₂ (fun r s₃ h₃=>wpAny_bind (wpAny_letTemporaryGo (wpAny_pure h₃))) fun _ _ x=>x)
  first
    | exact wpAny_pure (wpAny_bind fin)
    | exact wpAny_bind (wpAny_pure (wpAny_bind fin))
    | exact wpAny_bind fin
theorem dict_typeIs {X:Cx} {pins:List (Addr×Obj)} {σ:St} {H:Hp} {s:Shared} {a:Addr} {y:V} {o:Option V} (I:Inv X pins σ H s) (g:DGet H a y o):s.TypeIs (.ref a) "dict" := by
  rcases g with ⟨kvs,k,e,_,_⟩ | ⟨kvs,k,b,e,_,_,_⟩
  · obtain ⟨_,_,vs,_,dd⟩:=dk_rd I.hok e
    exact dd.typeIs
  · obtain ⟨_,_,xs,_,dd⟩:=dt_rd I.hok e
    exact dd.typeIs
def tDGet (td ty:TE):TE:=fun σ H Q=>td σ H fun x H1=>ty σ H1 fun y H2=>∃ a v,x=.ref a∧DGet H2 a y (some v)∧Q v H2
section
variable {X:Cx} {o i e value:Expr} {pos pos' tpos:Pos} {td ty tv:TE}
theorem pe_dget (hu:X.A.units+1<cLine) (ho:PE X o td) (hi:PE X i ty) (hs:NoSl i):PE X (.Subscript o i pos) (tDGet td ty):=by
  intro pins s σ H Q I h
  refine subD_of PySem.F.slot_dict_getitem.lookup hs (thn (ho pins s σ H _ I h) fun u s1 ⟨x,H1,I1,rx,q1⟩=>thn (hi pins s1 σ H1 _ I1 q1) fun iv s2 ⟨y,H2,I2,ry,a,v,ex,g,q2⟩=>?_)
  subst ex
  obtain rfl:u=Value.ref a:=rx
  exact ⟨dict_typeIs I2 g,d_getItem hu I2 g ry fun w' s3 I3 rw'=>⟨v,H2,I3,rw',q2⟩⟩
end
theorem dt_empty {P:Program} {w:World} {H:Hp} (h:Heap) (hb:sysModules<h.objs.size):ObjOk P w H (h.push { cls:=.type "dict",data:=.dict #[] }) h.objs.size (.dT []) :=
  ⟨Nat.zero_le _,beq_eq_false_iff_ne.mpr (Ne.symm (Nat.ne_of_lt hb)),[],.nil,_,#[],0,Heap.get?_push_size _ rfl,⟨rfl,rfl,rfl⟩,rfl,rfl,List.nodup_nil,rfl⟩
structure M1 (X:Cx) (o:Expr) (m:Str) (apos:Pos) (e:Expr) (cpos:Pos):Prop where
  base:attributeBase o m X.env (eval o X.env)=eval o X.env
  few:((backTo cpos (starEach [e] X.env)).all (fun x=>!x.1) && (backToKw cpos (keywordEach [] X.env)).all (fun x=>x.1.isSome)
    && decide (([e]:List Expr).length+([]:List Keyword).length+(if ([]:List Keyword).isEmpty then 0 else 1)<30))=true
  line:(apos.endLine == cpos.line)=true
  trees:backTo cpos (starEach [e] X.env)=[(false,eval e X.env)]
structure M2 (X:Cx) (o:Expr) (m:Str) (apos:Pos) (e f:Expr) (cpos:Pos):Prop where
  base:attributeBase o m X.env (eval o X.env)=eval o X.env
  few:((backTo cpos (starEach [e,f] X.env)).all (fun x=>!x.1) && (backToKw cpos (keywordEach [] X.env)).all (fun x=>x.1.isSome)
    && decide (([e,f]:List Expr).length+([]:List Keyword).length+(if ([]:List Keyword).isEmpty then 0 else 1)<30))=true
  line:(apos.endLine == cpos.line)=true
  trees:backTo cpos (starEach [e,f] X.env)=[(false,eval e X.env),(false,eval f X.env)]
end L2
namespace L2
open PySem PySem.Spec PyProof.Rows
end L2
namespace Nd
open PySem PySem.Spec PyProof.Rows L2
section
variable {prog:Program} {w:World} {A:Around} {E:Value→Shared→Prop} {s:Shared} {κ:Type} [DecidableEq κ]
theorem meetsH_len (knd:HeapKind prog w κ) (d:Addr) (hd:(d == sysModules)=false):MeetsIn prog w (Builtin.«dict.__len__» ⟨[.ref d],[]⟩) (fun _ R s=>∃ xs,s.heap.DictOfH knd d xs∧R (.ok (.ret (.int xs.length s.toks))) { s with toks:=s.toks+1 }) :=
  .of_wp fun A R s ⟨xs,hm,h⟩=>by
    obtain ⟨o,es,ep,ho,hc,hdat,he,his,hn⟩:=hm
    show wpAny _ _ (dictSize d >>= _) _ _ s
    unfold dictSize
    refine wpAny_bind (wpAny_bind (wpAny_dictEntries ho hdat (wpAny_pure ?_)))
    show wpAny _ _ (Builtin.Dict.pendingCount d >>= _) _ _ s
    refine wpAny_bind (wpAny_pendingCount_other hd ?_)
    refine wpAny_ret_mkInt ?_
    have : es.size=xs.length:=size_of_entries he
    rw [Nat.add_zero,this]; exact h
theorem call_len_heap {knd:HeapKind prog w κ} {d:Addr} {xs:List (κ×Addr×Value)} {Q:Value→Shared→Prop} (hd:(d == sysModules)=false) (hm:s.heap.DictOfH knd d xs) (hfit:(xs.length:Int)<2 ^ 63) (h:Q (.int xs.length (s.toks+1)) { s with toks:=s.toks+1+1 }):wpAny (model prog w) A (call (.builtin "len") [.ref d]) Q E s:=by
  refine Calls.call_function_entry kind_len plain_len entry_len (args_len1 _) ?_
  unfold Builtin.«len»
  refine wpAny_bind (m:=oneArg "len" _) (wpAny_pure ?_)
  refine wpAny_bind (m:=callSpecial? (.ref d) (Str.ofString "__len__")) (wpAny_callSpecial?_slot (name:=Str.ofString "__len__") hm.typeIs F.slot_dict_len
    (call_meetsIn F.slot_dict_len hm.typeIs F.entry_dict_len (F.args_dict_len_1 _) (meetsH_len knd d hd) ⟨xs,hm,?_⟩))
  show wpAny _ _ _ _ _ { s with toks:=s.toks+1 }
  refine wpAny_bind (wpAny_holding (wpAny_pure ?_))
  refine wpAny_bind (wpAny_letGo ?_)
  show wpAny _ _ (if ((xs.length:Nat):Int)<0 then _ else _) _ _ _
  rw [if_neg (by omega)]
  show wpAny _ _ (if ((xs.length:Nat):Int) ≥ 2 ^ 63 then _ else _) _ _ _
  rw [if_neg (by omega)]
  exact wpAny_bind (wpAny_mkInt (wpAny_pure ⟨_,rfl,h⟩))
end
def rLenT:List V→Hp→VK→Prop:=fun xs H Q=>∃ a kvs,xs=[V.ref a]∧H a=some (.dT kvs)∧Q (.int kvs.length) H
theorem call_lenT {X:Cx}:CallR X (.builtin "len") rLenT:=by
  intro pins s σ H xs us Q I r h
  obtain ⟨a,kvs,rfl,ha,q⟩:=h
  obtain ⟨u,rfl,ru⟩:=vals1 r
  cases ru
  obtain ⟨z,hd,xs,rel,dd⟩:=dt_of I.hok ha
  refine call_len_heap hd dd (by rw [← Paired.length rel]; rw [sizeLine_eq] at z; omega) ?_
  rw [← Paired.length rel]
  exact ⟨.int kvs.length,H,I.tok _,⟨_,rfl⟩,q⟩
end Nd
namespace DL
open PySem PySem.Spec PyProof.Rows L2 Nd
def getK (ks:List (List Int×PyData)) (w:List Int):Option PyData:=(ks.find? fun p=>decide (p.1=w)).map (·.2)
def putD (ks:List (List Int×PyData)) (w:List Int) (d:PyData):List (List Int×PyData) :=
  if (ks.any fun p=>decide (p.1=w))=true then ks.map (fun p=>if p.1=w then (p.1,d) else p) else ks++[(w,d)]
theorem map_inj {α β:Type} {f:α→β} (hf:∀ a b,f a=f b→a=b):∀ {l m:List α},l.map f=m.map f→l=m
  | [],[],_=>rfl
  | [],_::_,h=>by cases h
  | _::_,[],h=>by cases h
  | a::l,b::m,h=>by
    obtain ⟨h1,h2⟩:=List.cons.inj h
    rw [hf a b h1,map_inj hf h2]
theorem word_inj {a b:List Int} (h:wordD a=wordD b):a=b:=map_inj (fun x y e=>by cases e; rfl) (PyData.tuple.inj h)
theorem dkv_inj {a b:List (List Int×PyData)} (h:dkv a=dkv b):a=b:=map_inj (fun x y e=>by
  obtain ⟨e1,e2⟩:=Prod.mk.inj e
  exact Prod.ext (word_inj e1) e2) (List.cons.inj h).2
theorem keyI_inj {a b:List Int} (h:keyI a=keyI b):a=b:=map_inj (fun x y e=>by cases e; rfl) h
theorem keyI_kV (w:List Int):(keyI w).map kV=w.map V.int:=by
  unfold keyI
  rw [List.map_map]
  rfl
section
variable {K:PySem.W.Frag} {H H':Hp}
structure DRel (K:PySem.W.Frag) (H:Hp) (kv:List (List Key×V)) (ks:List (List Int×PyData)):Prop where
  key:kv.map (·.1)=ks.map fun p=>keyI p.1
  val:RdFs K H (kv.map (·.2)) (ks.map (·.2)) []
theorem RdF.dict_inv {v:V} {X:List (PyData×PyData)} {F:List Addr} (h:RdF K H v (.dict X) F):∃ a kv ks,v=.ref a∧X=dkv ks∧H a=some (.dT kv)∧DRel K H kv ks∧F=[a]:=by
  cases h with
  | dic h e hs=>exact ⟨_,_,_,rfl,rfl,h,⟨e,hs⟩,rfl⟩
theorem RdFs.cons_nil {x:V} {d:PyData} {xs:List V} {ds:List PyData} {F:List Addr} (h:RdFs K H (x::xs) (d::ds) F) (hF:F=[]):RdF K H x d []∧RdFs K H xs ds []:=by
  cases h with
  | cons a t =>
    obtain ⟨rfl,rfl⟩:=List.append_eq_nil_iff.mp hF
    exact ⟨a,t⟩
theorem drel_len {kv:List (List Key×V)} {ks:List (List Int×PyData)} (r:DRel K H kv ks):kv.length=ks.length:=by
  have:=congrArg List.length r.key
  simpa using this
theorem drel_val (w:List Int):∀ {kv:List (List Key×V)} {ks:List (List Int×PyData)},DRel K H kv ks→(valV kv (keyI w)=none∧getK ks w=none)∨∃ v d,valV kv (keyI w)=some v∧getK ks w=some d∧RdF K H v d []
  | [],[],_=>.inl ⟨rfl,rfl⟩
  | [],_::_,r=>by cases r.key
  | _::_,[],r=>by cases r.key
  | (k,v)::kv,(u,d)::ks,r=>by
    obtain ⟨e1,e2⟩:=List.cons.inj r.key
    have e1:k=keyI u:=e1
    obtain ⟨r1,r2⟩:=RdFs.cons_nil r.val rfl
    by_cases h:u=w
    · subst h e1
      refine .inr ⟨v,d,valV_pos rfl,by simp [getK],r1⟩
    · have hk:¬ k=keyI w:=fun z=>h (keyI_inj (e1.symm.trans z))
      rw [valV_neg hk,show getK ((u,d)::ks) w=getK ks w by simp [getK,h]]
      exact drel_val w ⟨e2,r2⟩
theorem drel_any (w:List Int) {kv:List (List Key×V)} {ks:List (List Int×PyData)} (r:DRel K H kv ks):(kv.any fun p=>decide (p.1=keyI w))=(ks.any fun p=>decide (p.1=w)):=by
  have h1:(kv.any fun p=>decide (p.1=keyI w))=((kv.map (·.1)).any fun k=>decide (k=keyI w)):=by rw [List.any_map]; rfl
  rw [h1,r.key,List.any_map]
  congr 1
  funext p
  exact decide_eq_decide.mpr ⟨fun z=>keyI_inj z,fun z=>by show keyI p.1=keyI w; rw [z]⟩
theorem drel_repl (w:List Int) {v:V} {d:PyData} (rv:RdF K H v d []):∀ {kv:List (List Key×V)} {ks:List (List Int×PyData)},DRel K H kv ks→DRel K H (kv.map fun p=>if p.1=keyI w then (p.1,v) else p) (ks.map fun p=>if p.1=w then (p.1,d) else p)
  | [],[],r=>r
  | [],_::_,r=>by cases r.key
  | _::_,[],r=>by cases r.key
  | (k,v')::kv,(u,d')::ks,r=>by
    obtain ⟨e1,e2⟩:=List.cons.inj r.key
    have e1:k=keyI u:=e1
    obtain ⟨r1,r2⟩:=RdFs.cons_nil r.val rfl
    have ih:=drel_repl w rv (kv:=kv) (ks:=ks) ⟨e2,r2⟩
    rw [List.map_cons,List.map_cons]
    by_cases h:u=w
    · rw [if_pos (show k=keyI w by rw [e1,h]),if_pos h]
      exact ⟨by rw [List.map_cons,List.map_cons,ih.key]; exact congrArg (·::_) e1,RdFs.cons (F:=[]) (G:=[]) rv ih.val⟩
    · have hk:¬ k=keyI w:=fun z=>h (keyI_inj (e1.symm.trans z))
      rw [if_neg (show ¬ (k,v').1=keyI w from hk),if_neg (show ¬ (u,d').1=w from h)]
      exact ⟨by rw [List.map_cons,List.map_cons,ih.key]; exact congrArg (·::_) e1,RdFs.cons (F:=[]) (G:=[]) r1 ih.val⟩
theorem drel_put (w:List Int) {v:V} {d:PyData} (rv:RdF K H v d []) {kv:List (List Key×V)} {ks:List (List Int×PyData)} (r:DRel K H kv ks):DRel K H (putK kv (keyI w) v) (putD ks w d):=by
  unfold putK putD
  rw [drel_any w r]
  split
  · exact drel_repl w rv r
  · refine ⟨by rw [List.map_append,List.map_append,r.key]; rfl,?_⟩
    rw [List.map_append,List.map_append]
    exact r.val.snoc rv
theorem DRel.kp {kv:List (List Key×V)} {ks:List (List Int×PyData)} (r:DRel K H kv ks) (k:Kp [] H H'):DRel K H' kv ks:=⟨r.key,r.val.kp k⟩
end
def rDGet:R2:=fun x y H Q=>∃ a v,x=.ref a∧DGet H a y (some v)∧Q v H
def rdDGet:D2:=fun x y P=>match x,y with
  | .dat _ (.dict X),.dat _ k=>∃ ks w d,X=dkv ks∧k=wordD w∧getK ks w=some d∧P (.dat .ow d)
  | _,_=>False
section
variable {K:PySem.W.Frag}
theorem word_at {H:Hp} {v:V} {w:List Int} {F:List Addr} (r:RdF K H v (wordD w) F):∃ b,v=.ref b∧H b=some (.tup ((keyI w).map kV)):=by
  obtain ⟨b,xs,rfl,hb,rb,_⟩:=r.tup_inv
  obtain ⟨rfl,_⟩:=rb.ints_inv
  exact ⟨b,rfl,by rw [keyI_kV]; exact hb⟩
theorem os_dget:OpS K rDGet rdDGet:=by
  intro H0 X n S T x y v w F G H Q P hA hd k
  unfold rdDGet at hd
  split at hd
  · obtain ⟨ks,u,d,rfl,rfl,hg,p⟩:=hd
    obtain ⟨b,rfl,hb⟩:=word_at (hA.told mem_mid)
    obtain ⟨a,kv,ks',rfl,ek,ha,rel,_⟩:=(hA.told mem_mid2).dict_inv
    obtain rfl:=dkv_inj ek
    rcases drel_val u rel with ⟨_,z⟩ | ⟨v',d',h1,h2,h3⟩
    · rw [z] at hg; cases hg
    · rw [h2] at hg; cases hg
      exact ⟨a,v',rfl,h1▸DGet.t ha hb,k _ _ [] H (hA.drop2.pushI h3) p⟩
  · exact hd.elim
end
section
variable {X:Cx} {a b:Expr} {da db:DE} {pos:Pos}
theorem un1 {n:Nat} (hu:n+64<cLine):n+1<cLine:=by omega
theorem dp_dget (hu:X.A.units+64<cLine) (ha:PED X a da) (hb:PED X b db) (hs:NoSl b:=by intro _ _; rfl):PED X (.Subscript a b pos) (dOp rdDGet da db):=PE.imp (pe_dget (un1 hu) ha hb hs) (op_le os_dget)
end
def rdLenD:DC:=fun xs P=>match xs with
  | [.dat _ (.dict X)]=>∃ ks,X=dkv ks∧P (.dat .ow (.int ks.length))
  | _=>False
theorem cs_lenD {K:PySem.W.Frag}:CallS K rLenT rdLenD:=by
  intro H0 X n S T As us H Q P eu hA hd k
  unfold rdLenD at hd
  split at hd
  · rename_i ex
    obtain ⟨v,F,rfl,hA⟩:=one_arg eu hA ex
    obtain ⟨ks,rfl,p⟩:=hd
    obtain ⟨a,kv,ks',rfl,ek,ha,rel,_⟩:=(hA.told mem_mid).dict_inv
    obtain rfl:=dkv_inj ek
    refine ⟨a,kv,rfl,ha,?_⟩
    rw [drel_len rel]
    exact k _ _ [] H (hA.drop.pushI (.int _)) p
  · exact hd.elim
def dputB (i:Nat) (y z:DV) (δ:DS) (D:DEnds):Prop:=match δ.sl[i]?,y,z with
  | some (.dat .ow (.dict X)),.dat _ e,.dat _ k=>npk δ.sl=true∧imm e=true∧∃ ks w,X=dkv ks∧k=wordD w∧ks.length<1000000∧D.nx ⟨δ.sl.set i (.dat .ow (.dict (dkv (putD ks w e)))),δ.n⟩
  | _,_,_=>False
def delB (i:Nat) (z:DV) (δ:DS) (D:DEnds):Prop:=match δ.sl[i]?,z with
  | some (.dat m (.list ds)),.dat _ (.int k)=>own1 m=true∧npk δ.sl=true∧immAll ds=true∧0≤k∧k<ds.length∧k≤1000000∧D.nx ⟨δ.sl.set i (.dat m (.list (ds.eraseIdx k.toNat))),δ.n⟩
  | _,_=>False
def isLst:Option DV→Bool
  | some (.dat _ (.list _))=>true
  | _=>false
end DL
namespace DL
open PySem PySem.Spec PyProof.Rows L2 Nd
def intOf:V→Int
  | .int i=>i
  | _=>0
def wOf (H:Hp) (r:Addr):List Int:=match H r with
  | some (.tup xs)=>xs.map intOf
  | _=>[]
theorem wOf_eq {H:Hp} {r:Addr} {w:List Int} (h:H r=some (.tup (w.map V.int))):wOf H r=w:=by
  unfold wOf
  rw [h]
  show (w.map V.int).map intOf=w
  rw [List.map_map]
  exact List.map_id' w
section
variable {K:PySem.W.Frag} {H:Hp}
theorem words_at:∀ {ws:List (List Int)} {xs:List V} {ds:List PyData} {G:List Addr},RdFs K H xs ds G→ds=ws.map wordD→∃ rs:List Addr,xs=rs.map V.ref∧ws=rs.map (wOf H)∧G=[]∧(∀ r∈rs,H r=some (.tup ((wOf H r).map V.int)))∧∀ r∈rs,RdF K H (.ref r) (wordD (wOf H r)) []
  | [],_,_,_,h,e=>by
    subst e
    cases h
    exact ⟨[],rfl,rfl,rfl,(fun _ z=>nomatch z),(fun _ z=>nomatch z)⟩
  | w::ws,_,_,_,h,e=>by
    cases h with
    | nil=>cases e
    | cons a t =>
      obtain ⟨e1,e2⟩:=List.cons.inj e
      obtain ⟨rs,rfl,rfl,rfl,h1,h2⟩:=words_at t e2
      subst e1
      obtain ⟨r,rfl,hr⟩:=word_at a
      rw [keyI_kV] at hr
      have ew:=wOf_eq hr
      obtain rfl:=a.imm (show imm (wordD w)=true from immAll_ints w)
      refine ⟨r::rs,rfl,by rw [List.map_cons,ew],rfl,fun x hx=>?_,fun x hx=>?_⟩
      · rcases List.mem_cons.mp hx with rfl | hx
        · rw [ew]; exact hr
        · exact h1 x hx
      · rcases List.mem_cons.mp hx with rfl | hx
        · rw [ew]; exact a
        · exact h2 x hx
theorem words_told:∀ {rs:List Addr},(∀ r∈rs,RdF K H (.ref r) (wordD (wOf H r)) [])→RdFs K H (rs.map V.ref) ((rs.map (wOf H)).map wordD) []
  | [],_=>.nil
  | r::rs,h=>RdFs.cons (F:=[]) (G:=[]) (h r (List.mem_cons_self ..)) (words_told fun x hx=>h x (List.mem_cons_of_mem _ hx))
theorem immAll_wds:∀ L:List (List Int),immAll (L.map wordD)=true
  | []=>rfl
  | w::L=>by
    show (imm (wordD w) && immAll (L.map wordD))=true
    rw [immAll_wds L,show imm (wordD w)=true from immAll_ints w]; rfl
def rdSortW:DC:=fun xs P=>match xs with
  | [.dat _ (.list ds)]=>∃ ws:List (List Int),ds=ws.map wordD∧∀ L:List (List Int),L.Perm ws→L.Pairwise (fun x y=>HT.lexLt y x=false)→P (.dat .ow (.list (L.map wordD)))
  | _=>False
theorem cs_sortW:CallS K (Ts.rSortI K) rdSortW:=by
  intro H0 X n S T As us H Q P eu hA hd k
  unfold rdSortW at hd
  split at hd
  · rename_i ex
    obtain ⟨v,F,rfl,hA⟩:=one_arg eu hA ex
    obtain ⟨ws,rfl,h1⟩:=hd
    obtain ⟨a,xs,G,rfl,ha,ra,rfl,hz⟩:=(hA.told mem_mid).list_inv
    obtain ⟨rs,rfl,rfl,rfl,c1,c2⟩:=words_at ra rfl
    refine ⟨a,rs,wOf H,rfl,SqL.of ha,fun r hr=>SqT.of (c1 r hr),fun q rs' nq pe pw=>?_⟩
    refine k _ _ _ _ (hA.drop.newI (words_told fun r hr=>c2 r (pe.mem_iff.mp hr)) (immAll_wds _) (by rw [List.length_map,List.length_map,pe.length_eq]; simpa using hz) nq .ow) (h1 _ (pe.map _) (List.pairwise_map.mpr pw))
  · exact hd.elim
end
end DL
namespace Nd
open PySem PySem.Spec PyProof.Rows L2
def DEnt (h:Heap) (d:Addr) (es:Array DictEntry) (ep:Nat):Prop:=∃ ob,h.get? d=some ob∧ob.ExactDict∧ob.data=.dict es ep
theorem DEnt.at {h h':Heap} {d:Addr} {es:Array DictEntry} {ep:Nat} (x:DEnt h d es ep) (k:∀ o,h.get? d=some o→h'.get? d=some o):DEnt h' d es ep:=let ⟨ob,e,r⟩:=x; ⟨ob,k ob e,r⟩
section
variable {prog:Program} {w:World} {A:Around} {E:Value→Shared→Prop} {s:Shared} {it d:Addr} {es:Array DictEntry} {i ep:Nat}
theorem keys_special {Q:Option Value→Shared→Prop} {x:DictEntry} (hI:s.heap.IsKeyIter it d i es.size ep) (hE:DEnt s.heap d es ep) (hX:es[i]? = some x) (k:∀ h',h'.IsKeyIter it d (i+1) es.size ep→Heap.SameBut it s.heap h'→Q (some x.key) { s with heap:=h' }):wpAny (model prog w) A (callSpecial? (.ref it) (Str.ofString "__next__")) Q E s:=by
  obtain ⟨oi,gi,ci,di⟩:=id hI
  obtain ⟨ob,gb,xb,db⟩:=id hE
  have tI:=hI.typeIs
  refine wpAny_callSpecial?_slot (name:=Str.ofString "__next__") tI PySem.F.slot_dict_keyiterator_next (wpAny_call_entry PySem.F.slot_dict_keyiterator_next tI PySem.F.entry_dict_keyiterator_next ?_ (PySem.F.args_dict_keyiterator_next_1 _))
  refine wpAny_bind (wpAny_pure (wpAny_bind (wpAny_bind ?_)))
  first | refine wpAny_bind (wpAny_typeNameOfWhole_keyiter tI (wpAny_pure ?_)) | refine wpAny_bind (wpAny_typeNameOf_keyiter tI (wpAny_pure ?_))
  refine wpAny_bind (wpAny_fieldsOf gi di ?_)
  simp only [show Builtin.Dict_items.ownsTuple "dict_keyiterator" = false by decide,Bool.false_eq_true,if_false]
  show wpAny _ _ (ite ((Value.ref d == Value.none)=true) _ _) _ _ s
  rw [if_neg (show ¬ (Value.ref d == Value.none)=true from Bool.false_ne_true)]
  refine wpAny_bind (wpAny_pure (wpAny_bind (wpAny_dictEntries gb db ?_)))
  rw [if_neg (by simp)]
  refine wpAny_bind (wpAny_pure (wpAny_bind (wpAny_dictEpoch gb db ?_)))
  rw [if_neg (by simp)]
  refine wpAny_pure ?_
  obtain ⟨hl,ex⟩:=Array.getElem?_eq_some_iff.mp hX
  simp only [show ¬ ((i:Int)<0) from by omega,Int.toNat_natCast,if_false,hX]
  refine wpAny_bind ?_
  first | refine wpAny_bind (wpAny_typeNameOfWhole_keyiter tI (wpAny_pure ?_)) | refine wpAny_bind (wpAny_typeNameOf_keyiter tI (wpAny_pure ?_))
  refine wpAny_bind (wpAny_isOneOf_keyiter tI ?_)
  show wpAny _ _ (bind (setField (.ref it) 1 (rawInt ((i:Int)+1))) _) _ _ s
  refine wpAny_bind (wpAny_setField gi di (by simp) ?_)
  have nI:(s.heap.update it (Obj.mapFields (·.setIfInBounds 1 (rawInt ((i:Int)+1))))).IsKeyIter it d (i+1) es.size ep :=
    ⟨_,Heap.get?_update_self _ gi (Obj.isFreed_of_fields (Obj.data_mapFields di _)),(Obj.cls_mapFields ..).trans ci,by rw [Obj.data_mapFields di]; simp [rawInt]⟩
  refine wpAny_bind (wpAny_holding (wpAny_bind (wpAny_isOneOf_keyiter (s:={ s with heap:=s.heap.update it (Obj.mapFields (·.setIfInBounds 1 (rawInt ((i:Int)+1)))) }) nI.typeIs ?_)))
  show wpAny _ _ (pure x.key) _ _ _
  exact wpAny_pure (wpAny_pure ⟨_,rfl,k _ nI (Heap.SameBut.update ..)⟩)
theorem keys_stop {Q:Option Value→Shared→Prop} (hh:A.handled=none) (hI:s.heap.IsKeyIter it d es.size es.size ep) (hE:DEnt s.heap d es ep) (k:∀ h' e,Heap.ExtBut it s.heap h'→(∃ o,h'.get? e=some o∧o.cls=.type "StopIteration")→E (.ref e) { s with heap:=h' }):wpAny (model prog w) A (callSpecial? (.ref it) (Str.ofString "__next__")) Q E s:=by
  obtain ⟨oi,gi,ci,di⟩:=id hI
  obtain ⟨ob,gb,xb,db⟩:=id hE
  have tI:=hI.typeIs
  refine wpAny_callSpecial?_slot (name:=Str.ofString "__next__") tI PySem.F.slot_dict_keyiterator_next (wpAny_call_entry PySem.F.slot_dict_keyiterator_next tI PySem.F.entry_dict_keyiterator_next ?_ (PySem.F.args_dict_keyiterator_next_1 _))
  refine wpAny_bind (wpAny_pure (wpAny_bind (wpAny_bind ?_)))
  first | refine wpAny_bind (wpAny_typeNameOfWhole_keyiter tI (wpAny_pure ?_)) | refine wpAny_bind (wpAny_typeNameOf_keyiter tI (wpAny_pure ?_))
  refine wpAny_bind (wpAny_fieldsOf gi di ?_)
  simp only [show Builtin.Dict_items.ownsTuple "dict_keyiterator" = false by decide,Bool.false_eq_true,if_false]
  show wpAny _ _ (ite ((Value.ref d == Value.none)=true) _ _) _ _ s
  rw [if_neg (show ¬ (Value.ref d == Value.none)=true from Bool.false_ne_true)]
  refine wpAny_bind (wpAny_pure (wpAny_bind (wpAny_dictEntries gb db ?_)))
  rw [if_neg (by simp)]
  refine wpAny_bind (wpAny_pure (wpAny_bind (wpAny_dictEpoch gb db ?_)))
  rw [if_neg (by simp)]
  refine wpAny_pure ?_
  simp only [show ¬ ((es.size:Int)<0) from by omega,Int.toNat_natCast,if_false,Array.getElem?_eq_none (Nat.le_refl es.size)]
  refine wpAny_bind ?_
  first | refine wpAny_bind (wpAny_typeNameOfWhole_keyiter tI (wpAny_pure ?_)) | refine wpAny_bind (wpAny_typeNameOf_keyiter tI (wpAny_pure ?_))
  show wpAny _ _ (bind (setField (.ref it) 0 .none) _) _ _ s
  refine wpAny_bind (wpAny_setField gi di (by simp) ?_)
  show wpAny _ _ (bind (newExc (.type "StopIteration") []) _) _ _ _
  refine wpAny_bind ?_
  simp only [newTuple,newExc]
  refine wpAny_bind (wpAny_newObj_type ?_ (by size_fits))
  refine wpAny_bind (m:=firstArgMember _ _) (wpAny_of_eq (a:=Value.none) (by first | rfl | (simp only [firstArgMember]; rfl)) (wpAny_newObj_type ?_ (by size_fits)))
  simp only [raiseNew]
  refine wpAny_bind (wpAny_handled ?_)
  first | rw [show A.in1.handled=none from hh] | rw [hh]
  refine wpAny_bind (wpAny_pure (wpAny_throw ?_))
  exact k _ _ (((Heap.SameBut.update ..).extBut.push _).push _) ⟨_,Heap.get?_push_size _ rfl,rfl⟩
theorem keys_iter {Q:Value→Shared→Prop} (hd:(d == sysModules)=false) (hE:DEnt s.heap d es ep) (k:Q (.ref s.heap.objs.size) { s with heap:=s.heap.push { cls:=.type "dict_keyiterator",data:=.fields #[.ref d,.int 0 0,.int es.size 0,.int ep 0] } }):wpAny (model prog w) A (pyIter (.ref d)) Q E s:=by
  obtain ⟨ob,gb,xb,db⟩:=id hE
  have tD:s.TypeIs (.ref d) "dict" := ⟨ob,gb,xb.1⟩
  refine wpAny_pyIter_slot tD PySem.F.slot_dict_iter (wpAny_call_entry PySem.F.slot_dict_iter tD PySem.F.entry_dict_iter ?_ (PySem.F.args_dict_iter_1 _))
  unfold Builtin.«dict.__iter__» Builtin.Dict.dictSlotNone
  refine wpAny_bind (wpAny_bind (wpAny_notOrdered_dict tD ?_))
  show wpAny _ _ (pure (.ref d:Value)) _ _ s
  refine wpAny_pure ?_
  show wpAny _ _ (bind (Builtin.Dict.showsAll d) _) _ _ s
  unfold Builtin.Dict.showsAll
  rw [if_neg (by rw [hd]; exact Bool.false_ne_true)]
  refine wpAny_bind (wpAny_pure (wpAny_bind (wpAny_dictEntries gb db (wpAny_bind (wpAny_dictEpoch gb db ?_)))))
  refine wpAny_bind (wpAny_newObj_type (wpAny_pure ⟨_,rfl, "dict_keyiterator",_,⟨_,Heap.get?_push_size _ rfl,rfl⟩,PySem.F.slot_dict_keyiterator_next.lookup,?_⟩))
  exact k
end
theorem drawsKeys {prog:Program} {w:World} {A:Around} (hh:A.handled=none) (it d:Addr) (hne:d≠it) (es:Array DictEntry) (ep:Nat):Draws prog w A it [it,d] es.size (fun i v=>∃ x,es[i]? = some x∧v=x.key) (fun i h=>h.IsKeyIter it d i es.size ep∧DEnt h d es ep) where
  live:=fun _ _ st=>let ⟨o,ho,_⟩:=st.1; ⟨o,ho⟩
  frame:=fun _ _ _ st hk=>⟨st.1.at fun o e=>hk it (by simp) o e,st.2.at fun o e=>hk d (by simp) o e⟩
  item:=fun i s Q E hi st hQ=>by
    unfold Builtin.SmallTypes.nextOf
    refine wpAny_bind (keys_special st.1 st.2 (x:=es[i]) (by simp [hi]) fun h' hI hs=>wpAny_pure ?_)
    exact hQ _ h' s.toks ⟨_,by simp [hi],rfl⟩ ⟨hI,st.2.at fun o e=>(hs.2 d hne).trans e⟩ hs
  done:=fun s Q E st hE=>by
    unfold Builtin.SmallTypes.nextOf
    exact wpAny_bind (keys_stop hh st.1 st.2 hE)
end Nd
namespace Nd
open PySem PySem.Spec PyProof.Rows L2
structure ZApart (z TI TO i1 i2:Addr) (f1 f2:List Addr):Prop where
  tiz:TI≠z
  toz:TO≠z
  z1:i1≠z
  z2:i2≠z
  tito:TI≠TO
  ti1:TI≠i1
  ti2:TI≠i2
  to1:TO≠i1
  to2:TO≠i2
  i12:i1≠i2
  zf1:z∉f1
  zf2:z∉f2
  of1:TO∉f1
  of2:TO∉f2
  if1:i2∉f1
  if2:i1∉f2
section
variable {prog:Program} {w:World} {A:Around} {E:Value→Shared→Prop} {s:Shared} {z TI TO i1 i2:Addr} {f1 f2:List Addr} {n1 n2 i:Nat} {P1 P2:Nat→Value→Prop} {S1 S2:Nat→Heap→Prop}
theorem ne_of_mem {a b:Addr} {f:List Addr} (h:a∉f) (hb:b∈f):b≠a:=fun e=>h (e▸hb)
theorem zipG_item {a b:Value} {Q:Value→Shared→Prop} (D1:Draws prog w A i1 f1 n1 P1 S1) (D2:Draws prog w A i2 f2 n2 P2 S2) (ap:ZApart z TI TO i1 i2 f1 f2) (gz:IsZip s.heap z TI TO .none) (gI:IsPair s.heap TI (.ref i1) (.ref i2)) (gO:IsPair s.heap TO a b) (g1:S1 i s.heap) (g2:S2 i s.heap) (l1:i<n1) (l2:i<n2) (k:∀ x y h' tk,P1 i x→P2 i y→IsZip h' z TI TO (rawInt s.heap.objs.size)→IsPair h' TO x y→S1 (i+1) h'→S2 (i+1) h'→IsPair h' s.heap.objs.size x y→h'.objs.size=s.heap.objs.size+1→(∀ c o,c≠z→c≠TO→c≠i1→c≠i2→s.heap.get? c=some o→h'.get? c=some o)→Q (.ref s.heap.objs.size) { s with heap:=h',toks:=tk }):wpAny (model prog w) A (Builtin.«zip.__next__» ⟨[.ref z],[]⟩) (fun fin s'=>∃ v,fin=.done (.ret v)∧Q v s') E s:=by
  obtain ⟨hp,g,d,tk0,os⟩:=s
  show wpAny _ _ (bind (field (.ref z) 2) _) _ _ _
  refine wpAny_bind (wpAny_field gz rfl (x:=.bool false) rfl ?_)
  show wpAny _ _ (bind (field (.ref z) 3) _) _ _ _
  refine wpAny_bind (wpAny_field gz rfl (x:=.ref TI) rfl (wpAny_bind (wpAny_seqItems gI rfl ?_)))
  show wpAny _ _ (bind (Builtin.SmallTypes.ownedTupleIsFree (.ref z)) _) _ _ _
  refine wpAny_bind ?_
  unfold Builtin.SmallTypes.ownedTupleIsFree
  refine wpAny_bind (wpAny_field gz rfl (x:=.none) rfl (wpAny_pure ?_))
  simp only [if_true]
  refine wpAny_bind (wpAny_rule (wpAny_bind (wpAny_field gz rfl (x:=.ref TO) rfl (wpAny_bind (wpAny_setField_rec gz (by simp) fun h1 gz1 s1=>?_)))))
  replace gz1:IsZip h1 z TI TO .ellipsis:=gz1
  replace s1:Heap.SameBut z hp h1:=s1
  refine wpAny_bind ?_
  simp only [List.forIn_cons,List.forIn_nil,List.zipIdx_cons,List.zipIdx_nil]
  have g11:S1 i h1:=D1.frame _ _ _ g1 fun b hb o q=>(s1.2 b (ne_of_mem ap.zf1 hb)).trans q
  have g21:S2 i h1:=D2.frame _ _ _ g2 fun b hb o q=>(s1.2 b (ne_of_mem ap.zf2 hb)).trans q
  refine wpAny_bind (wpAny_bind (wpAny_onRaise ?_))
  show wpAny _ _ (bind (Builtin.SmallTypes.nextOf (.ref i1)) _) _ _ _
  refine wpAny_bind (D1.item i _ _ _ l1 g11 fun x h2 tk1 px g12 s2=>wpAny_pure ?_)
  replace s2:Heap.SameBut i1 h1 h2:=s2
  have gO2:IsPair h2 TO a b:=(s2.2 TO ap.to1).trans ((s1.2 TO ap.toz).trans gO)
  refine wpAny_bind (wpAny_seqItems gO2 rfl (wpAny_bind (wpAny_updateSeq_pair gO2 fun h3 gO3 s3=>?_)))
  replace gO3:IsPair h3 TO x b:=gO3
  replace s3:Heap.SameBut TO h2 h3:=s3
  refine wpAny_bind (wpAny_letGo (wpAny_pure ?_))
  have g23:S2 i h3:=D2.frame _ _ _ g21 fun b hb o q=>(s3.2 b (ne_of_mem ap.of2 hb)).trans ((s2.2 b (ne_of_mem ap.if2 hb)).trans q)
  refine wpAny_bind (wpAny_bind (wpAny_onRaise ?_))
  show wpAny _ _ (bind (Builtin.SmallTypes.nextOf (.ref i2)) _) _ _ _
  refine wpAny_bind (D2.item i _ _ _ l2 g23 fun y h4 tk2 py g24 s4=>wpAny_pure ?_)
  replace s4:Heap.SameBut i2 h3 h4:=s4
  have gO4:IsPair h4 TO x b:=(s4.2 TO ap.to2).trans gO3
  refine wpAny_bind (wpAny_seqItems gO4 rfl (wpAny_bind (wpAny_updateSeq_pair gO4 fun h5 gO5 s5=>?_)))
  replace gO5:IsPair h5 TO x y:=gO5
  replace s5:Heap.SameBut TO h4 h5:=s5
  refine wpAny_bind (wpAny_letGo (wpAny_pure (wpAny_pure ?_)))
  refine wpAny_bind (wpAny_seqItems gO5 rfl (wpAny_bind (wpAny_newTuple ?_)))
  have sz:h5.objs.size=hp.objs.size:=by rw [s5.1,s4.1,s3.1,s2.1,s1.1]
  have gz5:IsZip h5 z TI TO .ellipsis:=(s5.2 z ap.toz.symm).trans ((s4.2 z ap.z2.symm).trans ((s3.2 z ap.toz.symm).trans ((s2.2 z ap.z1.symm).trans gz1)))
  have k5:∀ c o,c≠z→c≠TO→c≠i1→c≠i2→hp.get? c=some o→h5.get? c=some o:=fun c o c1 c2 c3 c4 e =>
    (s5.2 c c2).trans ((s4.2 c c4).trans ((s3.2 c c2).trans ((s2.2 c c3).trans ((s1.2 c c1).trans e))))
  have g15:S1 (i+1) h5:=D1.frame _ _ _ g12 fun b hb o q=>(s5.2 b (ne_of_mem ap.of1 hb)).trans ((s4.2 b (ne_of_mem ap.if1 hb)).trans ((s3.2 b (ne_of_mem ap.of1 hb)).trans q))
  have g25:S2 (i+1) h5:=D2.frame _ _ _ g24 fun b hb o q=>(s5.2 b (ne_of_mem ap.of2 hb)).trans q
  have zl:z<h5.objs.size:=Heap.lt_size gz5
  show wpAny _ _ (bind (Builtin.SmallTypes.ownedTupleHandOut (.ref z) (.ref h5.objs.size)) _) _ _ _
  refine wpAny_bind ?_
  unfold Builtin.SmallTypes.ownedTupleHandOut
  have gz6:IsZip (h5.push { cls:=.type "tuple",data:=.seq #[x,y] }) z TI TO .ellipsis:=Heap.get?_push_of_some _ gz5
  refine wpAny_bind (wpAny_setField_rec gz6 (by simp) fun h7 gz7 s7=>?_)
  replace gz7:IsZip h7 z TI TO (rawInt h5.objs.size):=gz7
  refine wpAny_setField_rec gz7 (by simp) fun h8 gz8 s8=>?_
  replace gz8:IsZip h8 z TI TO (rawInt h5.objs.size):=gz8
  have up:∀ c o,c≠z→h5.get? c=some o→h8.get? c=some o:=fun c o c1 e=>(s8.2 c c1).trans ((s7.2 c c1).trans (Heap.get?_push_of_some _ e))
  have gT:IsPair h8 h5.objs.size x y:=(s8.2 _ (Nat.ne_of_gt zl)).trans ((s7.2 _ (Nat.ne_of_gt zl)).trans (Heap.get?_push_size _ rfl))
  have z8:h8.objs.size=h5.objs.size+1:=by rw [s8.1,s7.1,Heap.size_push]
  rw [sz] at gz8 gT z8
  refine wpAny_pure ⟨_,rfl,?_⟩
  show Q (.ref h5.objs.size) _
  rw [sz]
  exact k x y h8 tk2 px py gz8 (up _ _ ap.toz gO5) (D1.frame _ _ _ g15 fun b hb o q=>up b o (ne_of_mem ap.zf1 hb) q) (D2.frame _ _ _ g25 fun b hb o q=>up b o (ne_of_mem ap.zf2 hb) q) gT z8 fun c o c1 c2 c3 c4 e=>up c o c1 (k5 c o c1 c2 c3 c4 e)
theorem zipG_end {a b:Value} {Q:Fin→Shared→Prop} (D1:Draws prog w A i1 f1 n1 P1 S1) (D2:Draws prog w A i2 f2 n2 P2 S2) (ap:ZApart z TI TO i1 i2 f1 f2) (gz:IsZip s.heap z TI TO .none) (gI:IsPair s.heap TI (.ref i1) (.ref i2)) (gO:IsPair s.heap TO a b) (g1:S1 i s.heap) (g2:S2 i s.heap) (hn:i=n1∨(i<n1∧i=n2)) (k:∀ h' e tk,(∀ c o,c≠z→c≠TO→c≠i1→c≠i2→s.heap.get? c=some o→h'.get? c=some o)→(∃ o,h'.get? e=some o∧o.cls=.type "StopIteration")→E (.ref e) { s with heap:=h',toks:=tk }):wpAny (model prog w) A (Builtin.«zip.__next__» ⟨[.ref z],[]⟩) Q E s:=by
  obtain ⟨hp,g,d,tk0,os⟩:=s
  show wpAny _ _ (bind (field (.ref z) 2) _) _ _ _
  refine wpAny_bind (wpAny_field gz rfl (x:=.bool false) rfl ?_)
  show wpAny _ _ (bind (field (.ref z) 3) _) _ _ _
  refine wpAny_bind (wpAny_field gz rfl (x:=.ref TI) rfl (wpAny_bind (wpAny_seqItems gI rfl ?_)))
  show wpAny _ _ (bind (Builtin.SmallTypes.ownedTupleIsFree (.ref z)) _) _ _ _
  refine wpAny_bind ?_
  unfold Builtin.SmallTypes.ownedTupleIsFree
  refine wpAny_bind (wpAny_field gz rfl (x:=.none) rfl (wpAny_pure ?_))
  simp only [if_true]
  refine wpAny_bind (wpAny_rule (wpAny_bind (wpAny_field gz rfl (x:=.ref TO) rfl (wpAny_bind (wpAny_setField_rec gz (by simp) fun h1 gz1 s1=>?_)))))
  replace gz1:IsZip h1 z TI TO .ellipsis:=gz1
  replace s1:Heap.SameBut z hp h1:=s1
  refine wpAny_bind ?_
  simp only [List.forIn_cons,List.forIn_nil,List.zipIdx_cons,List.zipIdx_nil]
  have g11:S1 i h1:=D1.frame _ _ _ g1 fun b hb o q=>(s1.2 b (ne_of_mem ap.zf1 hb)).trans q
  have g21:S2 i h1:=D2.frame _ _ _ g2 fun b hb o q=>(s1.2 b (ne_of_mem ap.zf2 hb)).trans q
  refine wpAny_bind (wpAny_bind (wpAny_onRaise ?_))
  show wpAny _ _ (bind (Builtin.SmallTypes.nextOf (.ref i1)) _) _ _ _
  rcases hn with rfl | ⟨l1,rfl⟩
  · refine wpAny_bind (D1.done _ _ _ g11 fun h2 e x2 he=>?_)
    obtain ⟨oe,ge,ce⟩:=he
    replace x2:Heap.ExtBut i1 h1 h2:=x2
    have gz2:IsZip h2 z TI TO .ellipsis:=x2 _ _ ap.z1.symm gz1
    have ez:e≠z:=fun x=>by subst x; rw [gz2] at ge; cases ge; simp at ce
    exact wpAny_setField_rec gz2 (by simp) fun h3 _ s3=>k h3 e _ (fun c o c1 _ c3 _ x=>(s3.2 c c1).trans (x2 _ _ c3 ((s1.2 c c1).trans x))) ⟨oe,(s3.2 e ez).trans ge,ce⟩
  · refine wpAny_bind (D1.item _ _ _ _ l1 g11 fun x h2 tk1 px g12 s2=>wpAny_pure ?_)
    replace s2:Heap.SameBut i1 h1 h2:=s2
    have gO2:IsPair h2 TO a b:=(s2.2 TO ap.to1).trans ((s1.2 TO ap.toz).trans gO)
    refine wpAny_bind (wpAny_seqItems gO2 rfl (wpAny_bind (wpAny_updateSeq_pair gO2 fun h3 gO3 s3=>?_)))
    replace s3:Heap.SameBut TO h2 h3:=s3
    refine wpAny_bind (wpAny_letGo (wpAny_pure (wpAny_bind (wpAny_bind (wpAny_onRaise ?_)))))
    have g23:S2 i h3:=D2.frame _ _ _ g21 fun b hb o q=>(s3.2 b (ne_of_mem ap.of2 hb)).trans ((s2.2 b (ne_of_mem ap.if2 hb)).trans q)
    show wpAny _ _ (bind (Builtin.SmallTypes.nextOf (.ref i2)) _) _ _ _
    refine wpAny_bind (D2.done _ _ _ g23 fun h4 e x4 he=>?_)
    obtain ⟨oe,ge,ce⟩:=he
    replace x4:Heap.ExtBut i2 h3 h4:=x4
    have gz4:IsZip h4 z TI TO .ellipsis:=x4 _ _ ap.z2.symm ((s3.2 z ap.toz.symm).trans ((s2.2 z ap.z1.symm).trans gz1))
    have ez:e≠z:=fun x=>by subst x; rw [gz4] at ge; cases ge; simp at ce
    exact wpAny_setField_rec gz4 (by simp) fun h5 _ s5=>k h5 e _ (fun c o c1 c2 c3 c4 x=>(s5.2 c c1).trans (x4 _ _ c4 ((s3.2 c c2).trans ((s2.2 c c3).trans ((s1.2 c c1).trans x))))) ⟨oe,(s5.2 e ez).trans ge,ce⟩
theorem zipG_next {a b:Value} {Q:Option Value→Shared→Prop} (D1:Draws prog w A.in1 i1 f1 n1 P1 S1) (D2:Draws prog w A.in1 i2 f2 n2 P2 S2) (ap:ZApart z TI TO i1 i2 f1 f2) (gz:IsZip s.heap z TI TO .none) (gI:IsPair s.heap TI (.ref i1) (.ref i2)) (gO:IsPair s.heap TO a b) (g1:S1 i s.heap) (g2:S2 i s.heap) (l1:i<n1) (l2:i<n2) (k:∀ x y h' tk,P1 i x→P2 i y→IsZip h' z TI TO (rawInt s.heap.objs.size)→IsPair h' TO x y→S1 (i+1) h'→S2 (i+1) h'→IsPair h' s.heap.objs.size x y→h'.objs.size=s.heap.objs.size+1→(∀ c o,c≠z→c≠TO→c≠i1→c≠i2→s.heap.get? c=some o→h'.get? c=some o)→Q (some (.ref s.heap.objs.size)) { s with heap:=h',toks:=tk }):wpAny (model prog w) A (pyNext (.ref z)) Q E s:=by
  have tz:s.TypeIs (.ref z) "zip" := ⟨_,gz,rfl⟩
  unfold pyNext
  refine wpAny_bind (wpAny_attempt (wpAny_callSpecial?_slot (name:=Str.ofString "__next__") tz PySem.F.slot_zip_next (wpAny_call_entry PySem.F.slot_zip_next tz PySem.F.entry_zip_next ?_ (PySem.F.args_zip_next_1 _))))
  exact zipG_item D1 D2 ap gz gI gO g1 g2 l1 l2 fun x y h' tk p1 p2 a1 a2 a3 a4 a5 a6 a7=>wpAny_pure (k x y h' tk p1 p2 a1 a2 a3 a4 a5 a6 a7)
theorem zipG_done {a b:Value} {Q:Option Value→Shared→Prop} (D1:Draws prog w A.in1 i1 f1 n1 P1 S1) (D2:Draws prog w A.in1 i2 f2 n2 P2 S2) (ap:ZApart z TI TO i1 i2 f1 f2) (gz:IsZip s.heap z TI TO .none) (gI:IsPair s.heap TI (.ref i1) (.ref i2)) (gO:IsPair s.heap TO a b) (g1:S1 i s.heap) (g2:S2 i s.heap) (hn:i=n1∨(i<n1∧i=n2)) (k:∀ h' tk,(∀ c o,c≠z→c≠TO→c≠i1→c≠i2→s.heap.get? c=some o→h'.get? c=some o)→Q none { s with heap:=h',toks:=tk }):wpAny (model prog w) A (pyNext (.ref z)) Q E s:=by
  have tz:s.TypeIs (.ref z) "zip" := ⟨_,gz,rfl⟩
  unfold pyNext
  refine wpAny_bind (wpAny_attempt (wpAny_callSpecial?_slot (name:=Str.ofString "__next__") tz PySem.F.slot_zip_next (wpAny_call_entry PySem.F.slot_zip_next tz PySem.F.entry_zip_next ?_ (PySem.F.args_zip_next_1 _))))
  refine zipG_end D1 D2 ap gz gI gO g1 g2 hn fun h' e tk x ⟨o,ho,hc⟩=>?_
  exact wpAny_bind (wpAny_isInstance (T := "StopIteration") (b:=true) ⟨o,ho,hc⟩ isSubtype_stop (wpAny_pure (k h' tk x)))
end
end Nd
namespace Nd
open PySem PySem.Spec PyProof.Rows L2
abbrev zh1 (h:Heap) (d:Addr) (n ep:Nat):Heap:=h.push { cls:=.type "dict_keyiterator",data:=.fields #[.ref d,.int 0 0,.int n 0,.int ep 0] }
abbrev zh2 (h:Heap) (d:Addr) (n ep:Nat) (l:Addr):Heap:=(zh1 h d n ep).push { cls:=.type "list_iterator",data:=.fields #[.ref l,.int 0 0] }
abbrev zh3 (h:Heap) (d:Addr) (n ep:Nat) (l:Addr):Heap:=(zh2 h d n ep l).push { cls:=.type "tuple",data:=.seq #[.ref h.objs.size,.ref (zh1 h d n ep).objs.size] }
abbrev zh4 (h:Heap) (d:Addr) (n ep:Nat) (l:Addr):Heap:=(zh3 h d n ep l).push { cls:=.type "tuple",data:=.seq #[.none,.none] }
abbrev zh5 (h:Heap) (d:Addr) (n ep:Nat) (l:Addr):Heap:=(zh4 h d n ep l).push { cls:=.type "zip",data:=.fields #[.none,.bool false,.bool false,.ref (zh2 h d n ep l).objs.size,.ref (zh3 h d n ep l).objs.size] }
theorem meets_zipDL (d l:Addr) (es:Array DictEntry) (ep:Nat) (ys:Array Value) (hd:(d == sysModules)=false):Meets (Builtin.«zip.__new__» ⟨[.type "zip",.ref d,.ref l],[]⟩) (fun _ R s=>DEnt s.heap d es ep∧s.heap.IsList l ys∧R (.ok (.ret (.ref (zh4 s.heap d es.size ep l).objs.size))) { s with heap:=zh5 s.heap d es.size ep l }) :=
  .of_wp fun prog w A R s h=>by
    obtain ⟨hp,g,dd,tk,os⟩:=s
    obtain ⟨hE,hL,q⟩:=h
    have hsub:=sub_zip
    have h1:DEnt (Shared.heap ⟨hp,g,dd,tk,os⟩) d es ep:=hE
    have h2:Heap.IsList (Shared.heap ⟨zh1 hp d es.size ep,g,dd,tk,os⟩) l ys:=Heap.IsList.push hL _
    wp_walk using keys_iter hd h1,wpAny_pyIter_list h2
    exact ⟨_,rfl,q⟩
section
variable {prog:Program} {w:World} {A:Around} {E:Value→Shared→Prop} {s:Shared}
theorem call_zipDL {d l:Addr} {es:Array DictEntry} {ep:Nat} {ys:Array Value} {Q:Value→Shared→Prop} (hd:(d == sysModules)=false) (hE:DEnt s.heap d es ep) (hL:s.heap.IsList l ys) (k:∀ h',IsZip h' (s.heap.objs.size+4) (s.heap.objs.size+2) (s.heap.objs.size+3) .none→IsPair h' (s.heap.objs.size+2) (.ref s.heap.objs.size) (.ref (s.heap.objs.size+1))→IsPair h' (s.heap.objs.size+3) .none .none→h'.IsKeyIter s.heap.objs.size d 0 es.size ep→h'.IsListIter (s.heap.objs.size+1) l 0→(∀ c o,s.heap.get? c=some o→h'.get? c=some o)→Q (.ref (s.heap.objs.size+4)) { s with heap:=h' }):wpAny (model prog w) A (call (.type "zip") [.ref d,.ref l]) Q E s:=by
  refine callType_new PySem.F.called_zip (by decide) (PySem.F.typeCall_zip_2 _ _) (PySem.F.newCall_zip_2 _ _) (fun obj=>PySem.F.args_object_init_3 obj _ _) PySem.F.entry_zip_new (meets_zipDL d l es ep ys hd) ⟨hE,hL,?_⟩
  have e1:(zh1 s.heap d es.size ep).objs.size=s.heap.objs.size+1:=Heap.size_push ..
  have e2:(zh2 s.heap d es.size ep l).objs.size=s.heap.objs.size+2:=by rw [Heap.size_push,e1]
  have e3:(zh3 s.heap d es.size ep l).objs.size=s.heap.objs.size+3:=by rw [Heap.size_push,e2]
  have e4:(zh4 s.heap d es.size ep l).objs.size=s.heap.objs.size+4:=by rw [Heap.size_push,e3]
  have p1:∀ {h:Heap} {a:Addr} {u:Obj} (o:Obj),h.get? a=some u→(h.push o).get? a=some u:=fun o e=>Heap.get?_push_of_some _ e
  have g5:(zh5 s.heap d es.size ep l).get? (zh4 s.heap d es.size ep l).objs.size=some _:=Heap.get?_push_size _ rfl
  have g4:(zh5 s.heap d es.size ep l).get? (zh3 s.heap d es.size ep l).objs.size=some _:=p1 _ (Heap.get?_push_size _ rfl)
  have g3:(zh5 s.heap d es.size ep l).get? (zh2 s.heap d es.size ep l).objs.size=some _:=p1 _ (p1 _ (Heap.get?_push_size _ rfl))
  have g2:(zh5 s.heap d es.size ep l).get? (zh1 s.heap d es.size ep).objs.size=some _:=p1 _ (p1 _ (p1 _ (Heap.get?_push_size _ rfl)))
  have g1:(zh5 s.heap d es.size ep l).get? s.heap.objs.size=some _:=p1 _ (p1 _ (p1 _ (p1 _ (Heap.get?_push_size _ rfl))))
  show _∧_
  rw [e2,e3,e4] at g5
  rw [e1,e2] at g3
  rw [e3] at g4
  rw [e1] at g2
  rw [e4]
  exact ⟨⟨_,g5,rfl⟩,k _ g5 g3 g4 ⟨_,g1,rfl,rfl⟩ ⟨_,g2,rfl,rfl⟩ fun c o x=>p1 _ (p1 _ (p1 _ (p1 _ (p1 _ x))))⟩
end
theorem dt_ent {P:Program} {w:World} {H:Hp} {h:Heap} {a:Addr} {kvs:List (List Key×V)} (ok:HOk P w H h) (e:H a=some (.dT kvs)):∃ (es:Array DictEntry),(a == sysModules)=false∧DEnt h a es kvs.length∧es.size=kvs.length∧∀ (i:Nat) (x:DictEntry),es[i]? = some x→∃ k b v,kvs[i]? = some (k,v)∧x.key=.ref b∧H b=some (.tup (k.map kV))∧k.length≤sizeLine:=by
  obtain ⟨_,hd,xs,rel,o,es,ep,h1,h2,h3,h4,_,hep⟩:=(show ObjOk P w H h a (.dT kvs) from ok a _ e)
  have hl:es.size=kvs.length:=by
    have:=congrArg List.length h4
    rw [List.length_map,← Paired.length rel] at this
    simpa using this
  refine ⟨es,hd,⟨o,h1,h2,by rw [h3,hep,hl]⟩,hl,fun i x hx=>?_⟩
  have hx':es.toList[i]? = some x:=by rw [Array.getElem?_toList]; exact hx
  rw [h4,List.getElem?_map] at hx'
  cases q:xs[i]? with
  | none=>rw [q] at hx'; cases hx'
  | some y =>
    rw [q] at hx'
    cases hx'
    have go:∀ {kvs:List (List Key×V)} {xs:List (List Key×Addr×Value)} {i:Nat},Paired (fun (p:List Key×V) (q:List Key×Addr×Value)=>p.1=q.1∧H q.2.1=some (.tup (p.1.map kV))∧RelV p.2 q.2.2) kvs xs→xs[i]? = some y→∃ p,kvs[i]? = some p∧H y.2.1=some (.tup (p.1.map kV)):=by
      intro kvs xs i r
      induction r generalizing i with
      | nil=>intro z; simp at z
      | cons hp _ ih =>
        intro z
        cases i with
        | zero=>simp at z; subst z; exact ⟨_,rfl,hp.2.1⟩
        | succ j=>exact ih (by simpa using z)
    obtain ⟨p,hp1,hp2⟩:=go rel q
    refine ⟨p.1,y.2.1,p.2,hp1,rfl,hp2,?_⟩
    have:=(show ObjOk P w H h y.2.1 (.tup (p.1.map kV)) from ok _ _ hp2).1
    rwa [List.length_map] at this
def Itzd (K:PySem.W.Frag) (a b:Addr) (n:Nat):It :=
  ⟨fun i H=>∃ kv ys y,H a=some (.dT kv)∧kv.length=n∧SqL K H b ys∧i<n∧ys[i]? = some y,
   fun i H x H'=>∃ p t k v u,x=.ref p∧H p=none∧H'=upd H p (.tup [.ref t,u])∧(∀ kv,H a=some (.dT kv)→kv[i]? = some (k,v))∧H t=some (.tup (k.map kV))∧k.length≤sizeLine∧∀ ys,SqL K H b ys→ys[i]? = some u,
   fun i H=>∃ kv ys,H a=some (.dT kv)∧kv.length=n∧SqL K H b ys∧(i=n∨(i<n∧i=ys.length))⟩
theorem turn_zipD {P:Program} {w:World} {K:PySem.W.Frag} {elts:List Expr} {k:Nat} {pos:Pos} {n:Nat} (a b z TI TO i1 i2:Addr) (ap:ZApart z TI TO i1 i2 [i1,a] [i2,b]) (na:a≠i1) (nb:b≠i2):Turn P w K (.Tuple elts k pos) (Itzd K a b n) [z,TI,TO,i1,i2] z (fun i h=>IsZip h z TI TO .none∧IsPair h TI (.ref i1) (.ref i2)∧(∃ u v,IsPair h TO u v)∧h.IsKeyIter i1 a i n n∧h.IsListIter i2 b i) where
  mem:=List.mem_cons_self
  obj:=fun i h st c hc=>by
    obtain ⟨hz,hTI,⟨u,v,hTO⟩,⟨o1,e1,c1,d1⟩,⟨o2,e2,c2,d2⟩⟩:=st
    simp only [List.mem_cons,List.not_mem_nil,or_false] at hc
    rcases hc with rfl | rfl | rfl | rfl | rfl
    · exact ⟨_,hz,fun v z=>by cases z⟩
    · exact ⟨_,hTI,fun v z=>by cases z⟩
    · exact ⟨_,hTO,fun v z=>by cases z⟩
    · exact ⟨o1,e1,fun v z=>by rw [d1] at z; cases z⟩
    · exact ⟨o2,e2,fun v z=>by rw [d2] at z; cases z⟩
  keep:=fun i h h' st kp=>by
    obtain ⟨hz,hTI,⟨u,v,hTO⟩,h1,h2⟩:=st
    exact ⟨kp z (by simp) _ hz,kp TI (by simp) _ hTI,⟨u,v,kp TO (by simp) _ hTO⟩,h1.at fun o q=>kp i1 (by simp) o q,h2.at fun o q=>kp i2 (by simp) o q⟩
  item:=by
    intro X hP hw hK hc i pins s σ H E I hf st hg
    subst hP hw hK
    obtain ⟨kv,ys,y,ha,rfl,hq2,hx,hy⟩:=hg
    obtain ⟨es,hd,hE,hes,hent⟩:=dt_ent I.hok ha
    obtain ⟨its2,rv2,p2,hz2⟩:=I.list hq2
    obtain ⟨hz,hTI,⟨o1,o2,hTO⟩,hi1,hi2⟩:=st
    have hh:X.A.in1.handled=none:=I.ok.hd hc
    have D1:=drawsKeys (prog:=X.prog) (w:=X.w) (A:=X.A.in1) hh i1 a na es es.size
    have D2:=Draws.list (prog:=X.prog) (w:=X.w) (A:=X.A.in1) hh i2 b nb its2.toArray
    have hl2:=rv2.length
    have ly:i<its2.length:=by
      have:=(List.getElem?_eq_some_iff.mp hy).1
      omega
    have zl:z<s.heap.objs.size:=Heap.lt_size hz
    have TIl:TI<s.heap.objs.size:=Heap.lt_size hTI
    have TOl:TO<s.heap.objs.size:=Heap.lt_size hTO
    have i1l:i1<s.heap.objs.size:=by obtain ⟨_,q,_⟩:=hi1; exact Heap.lt_size q
    have i2l:i2<s.heap.objs.size:=by obtain ⟨_,q,_⟩:=hi2; exact Heap.lt_size q
    refine zipG_next D1 D2 ap hz hTI hTO ⟨by rw [hes]; exact hi1,by rw [hes]; exact hE⟩ ⟨hi2,p2.isList⟩ (by omega) (by simpa using ly) fun u1 u2 h1 tk q1 q2 a1 a2 a3 a4 a5 a6 hk=>⟨_,rfl,wpAny_letOwnedTupleGo_zip (s:={ s with heap:=h1,toks:=tk }) a1 fun h2 he2 hs2=>?_⟩
    have hs2':Heap.SameBut z h1 h2:=hs2
    obtain ⟨x1,ex1,rfl⟩:=q1
    obtain ⟨kk,bb,vv,ek,eb,hb,hkl⟩:=hent i x1 ex1
    rw [eb] at a2 a5
    have q2':its2[i]? = some u2:=by simpa using q2
    obtain ⟨u2',hu2,ru2⟩:=rv2.get hy
    rw [q2'] at hu2
    cases hu2
    have I1:Inv X pins σ (upd H s.heap.objs.size (.tup [.ref bb,y])) { s with heap:=s.heap.push { cls:=.type "tuple",data:=.seq #[.ref bb,u2] } } :=
      I.laid (t':=s.toks) (fun b o q=>Heap.get?_push_of_some _ q) (Nat.le_refl _) ⟨by show 2≤sizeLine; decide,[.ref bb,u2],.cons rfl (.cons ru2 .nil),_,Heap.get?_push_size _ rfl,rfl,0,rfl⟩
    have nT:∀ c∈[z,TI,TO,i1,i2],c≠s.heap.objs.size:=fun c hc=>by
      simp only [List.mem_cons,List.not_mem_nil,or_false] at hc
      rcases hc with rfl | rfl | rfl | rfl | rfl <;> exact Nat.ne_of_lt (by assumption)
    have fr:∀ c∈[z,TI,TO,i1,i2],(upd H s.heap.objs.size (.tup [.ref bb,y])) c=none:=fun c hc=>by rw [upd_ne (nT c hc)]; exact (hf c hc).1
    refine ⟨.ref s.heap.objs.size,_,turnedL (fp:=[z,TI,TO,i1,i2]) (s:={ s with heap:=s.heap.push { cls:=.type "tuple",data:=.seq #[.ref bb,u2] } }) (h':=h2) (t':=tk) I1 (fun c o hc q=>?_) (fun c hc=>⟨fr c hc,(hf c hc).2⟩),rfl,⟨_,bb,kk,vv,y,rfl,I.hok.fresh (Nat.le_refl _),rfl,(fun kv' h'=>by rw [ha] at h'; cases h'; exact ek),hb,hkl,fun zs hzs=>by rw [I.list_inj hzs hq2]; exact hy⟩,⟨he2,?_,⟨.ref bb,u2,?_⟩,?_,?_⟩,fr⟩
    · simp only [List.mem_cons,List.not_mem_nil,or_false,not_or] at hc
      refine (hs2'.2 c hc.1).trans ?_
      by_cases hbT:c=s.heap.objs.size
      · subst hbT
        have q':=(Heap.get?_push_size s.heap (o:={ cls:=.type "tuple",data:=.seq #[.ref bb,u2] }) rfl).symm.trans q
        rw [show h1.get? s.heap.objs.size=_ from a5]
        exact q'
      · refine hk c o hc.1 hc.2.2.1 hc.2.2.2.1 hc.2.2.2.2 ?_
        have q0:(s.heap.push { cls:=.type "tuple",data:=.seq #[.ref bb,u2] }).get? c=some o:=q
        rcases Heap.get?_push_cases q0 with zz | zz
        · exact absurd zz.1 hbT
        · exact zz
    · exact (hs2'.2 TI ap.tiz).trans (hk TI _ ap.tiz ap.tito ap.ti1 ap.ti2 hTI)
    · exact (hs2'.2 TO ap.toz).trans a2
    · rw [hes] at a3
      exact a3.1.at fun o q=>(hs2'.2 i1 ap.z1).trans q
    · exact a4.1.at fun o q=>(hs2'.2 i2 ap.z2).trans q
  done:=by
    intro X hP hw hK hc i pins s σ H E I hf st hg
    subst hP hw hK
    obtain ⟨kv,ys,ha,rfl,hq2,hx⟩:=hg
    obtain ⟨es,hd,hE,hes,hent⟩:=dt_ent I.hok ha
    obtain ⟨its2,rv2,p2,hz2⟩:=I.list hq2
    obtain ⟨hz,hTI,⟨o1,o2,hTO⟩,hi1,hi2⟩:=st
    have hh:X.A.in1.handled=none:=I.ok.hd hc
    have D1:=drawsKeys (prog:=X.prog) (w:=X.w) (A:=X.A.in1) hh i1 a na es es.size
    have D2:=Draws.list (prog:=X.prog) (w:=X.w) (A:=X.A.in1) hh i2 b nb its2.toArray
    have hl2:=rv2.length
    refine zipG_done D1 D2 ap hz hTI hTO ⟨by rw [hes]; exact hi1,by rw [hes]; exact hE⟩ ⟨hi2,p2.isList⟩ ?_ fun h1 tk hk=>⟨rfl,turnedL (fp:=[z,TI,TO,i1,i2]) (t':=tk) I (fun c o hc q=>?_) hf⟩
    · rw [hes,List.size_toArray]
      omega
    · simp only [List.mem_cons,List.not_mem_nil,or_false,not_or] at hc
      exact hk c o hc.1 hc.2.2.1 hc.2.2.2.1 hc.2.2.2.2 q
  self:=fun _ _ _ _ _ st h=>wpAny_pyIter_zip st.1 h
theorem zapart (I a b:Nat) (h1:a<I) (h2:b<I):ZApart (I+4) (I+2) (I+3) I (I+1) [I,a] [I+1,b]:=by
  constructor <;> (first | (intro e; have e':(_:Nat)=_:=e; omega) | (intro e; simp only [List.mem_cons,List.not_mem_nil,or_false] at e; rcases e with e | e <;> (have e':(_:Nat)=_:=e; omega)))
section
variable {X:Cx}
def iZipD (K:PySem.W.Frag) (ta:TA):TI:=fun σ H R=>ta σ H fun vs H1=>∃ a b kv,vs=[.ref a,.ref b]∧H1 a=some (.dT kv)∧(∃ ys,SqL K H1 b ys)∧R (Itzd K a b kv.length) H1
theorem pi_zipD {elts:List Expr} {k:Nat} {tp:Pos} {a b:Expr} {ta:TA} {p pos:Pos} (hg:Gl X "zip") (hm:X.mg "zip" = none) (ha:PA X [a,b] ta) (hs:starEach [a,b] X.env=(false,eval a X.env)::starEach [b] X.env:=by rfl) (hp:(backTo pos (starEach [b] X.env)).any (·.1)=false:=by rfl):PI X (.Tuple elts k tp) (.Call (.Name "zip" p) [a,b] [] pos) (iZipD X.K ta):=by
  intro pins s σ H R I h
  refine Call_ (ld_blt I hg hm (u:=.type "zip") (by decide +kernel) (PyProof.Rows.callWith_type1 (thn (ha pos pins s σ H _ I h) fun us s1 ⟨vs,H1,I1,r1,q1⟩=>?_) hs hp))
  obtain ⟨l1,l2,kv,e,hq1,⟨ys,hq2⟩,q⟩:=q1
  subst e
  obtain ⟨u1,u2,rfl,ru1,ru2⟩:=vals2 r1
  cases ru1
  cases ru2
  obtain ⟨es,hd,hE,hes,hent⟩:=dt_ent I1.hok hq1
  obtain ⟨its2,rv2,pl2,hz2⟩:=I1.list hq2
  have hlt1:l1<s1.heap.objs.size:=let ⟨o,q,_⟩:=hE; Heap.lt_size q
  have hlt2:l2<s1.heap.objs.size:=let ⟨o,q,_⟩:=pl2.isList; Heap.lt_size q
  refine call_zipDL hd hE pl2.isList fun h2 hz hTI hTO hi1 hi2 hk=>wpAny_pyIter_zip hz ?_
  have fr1:∀ n,FpOk X pins H1 (s1.heap.objs.size+n):=fun n=>I1.fpOk (Nat.le_add_right _ _) (I1.hok.fresh (Nat.le_add_right _ _))
  have fr:∀ c∈[s1.heap.objs.size+4,s1.heap.objs.size+2,s1.heap.objs.size+3,s1.heap.objs.size,s1.heap.objs.size+1],FpOk X pins H1 c:=fun c hc=>by
    simp only [List.mem_cons,List.not_mem_nil,or_false] at hc
    rcases hc with rfl | rfl | rfl | rfl | rfl
    · exact fr1 4
    · exact fr1 2
    · exact fr1 3
    · exact fr1 0
    · exact fr1 1
  rw [hes] at hi1
  exact ⟨s1.heap.objs.size+4,_,_,_,H1,rfl,I1.kept (t':=s1.toks) hk,turn_zipD l1 l2 _ _ _ _ _ (zapart _ _ _ hlt1 hlt2) (Nat.ne_of_lt hlt1) (Nat.ne_of_lt (Nat.lt_succ_of_lt hlt2)),⟨hz,hTI,⟨_,_,hTO⟩,hi1,hi2⟩,fr,q⟩
end
end Nd
namespace Nd
open PySem PySem.Spec PyProof.Rows L2
section
variable {prog:Program} {w:World} {A:Around} {R:Result→Shared→Prop} {s:Shared}
theorem comp_turnsD {kx vx tg iter:Expr} {ifs:List Expr} {scope:Scope} {pos:Pos} {it:Value} {D:Addr} {env:Env} (J:Nat→Shared→Prop) (turn:∀ n s,J n s→wpAny (model prog w) A (pyNext it) (fun r s1=>match r with
        | none=>R (.ok .next) s1
        | some v=>wpAny (model prog w) A (letOwnedTupleGo tg it v) (fun _ s2=>wpAny (model prog w) A (assign tg env v) (fun _ s3 =>
            wpAny (model prog w) A (forIn ifs true fun c r=>if r=true then (do
                let ok ← isTrue c env (eval c env)
                pure (ForInStep.yield ok)) else pure (ForInStep.yield r)) (fun ok s4 =>
              if ok=true then
                wpAny (model prog w) A (eval kx env) (fun k s5=>wpAny (model prog w) A (eval vx env) (fun y s6=>wpAny (model prog w) A (dictSet D k y) (fun _ s7=>∃ m,m<n∧J m s7) (fun _ _=>False) s6) (fun _ _=>False) s5) (fun _ _=>False) s4
              else ∃ m,m<n∧J m s4) (fun _ _=>False) s3) (fun _ _=>False) s2) (fun _ _=>False) s1) (fun _ _=>False) s)
    (n:Nat) (h:J n s):codeAny (model prog w) A (.compLoop (.DictComp kx vx [⟨tg,iter,ifs,0⟩] scope pos) 0 it (.ref D) env) R s:=by
  refine codeAny_loop rfl J (fun n s hJ=>wpAny_noted ?_) n h
  rw [compTurn_dict]
  refine wpAny_bind (wpAny_standAt (wpAny_bind (wpAny_mono (turn n s hJ) (fun r s1 h1=>?_) fun _ _ z=>z.elim)))
  cases r with
  | none=>exact wpAny_pure h1
  | some v =>
    refine wpAny_bind (wpAny_mono h1 (fun _ s2 h2=>wpAny_bind (wpAny_mono h2 (fun _ s3 h3=>wpAny_bind (wpAny_mono h3 (fun ok s4 h4=>?_) fun _ _ z=>z.elim)) fun _ _ z=>z.elim)) fun _ _ z=>z.elim)
    cases ok with
    | false=>exact wpAny_pure ⟨rfl,h4⟩
    | true =>
      refine wpAny_bind (wpAny_bind (wpAny_mono h4 (fun k s5 h5=>wpAny_bind (wpAny_holding (wpAny_mono h5 (fun y s6 h6=>?_) fun _ _ z=>z.elim))) fun _ _ z=>z.elim))
      exact wpAny_bind (wpAny_standAt (wpAny_holding (wpAny_mono h6 (fun _ s7 h7=>wpAny_pure ⟨rfl,h7⟩) fun _ _ z=>z.elim)))
end
section
variable {X:Cx} {pins:List (Addr×Obj)} {σ:L2.St} {H:Hp} {s:Shared} {a b:Addr} {v:V} {r:Value} {A:Around} {E:Value→Shared→Prop} {kvs:List (List Key×V)} {k:List Key}
theorem d_dictSet {Q:Unit→Shared→Prop} (hu:A.units+1<cLine) (I:Inv X pins σ H s) (e:H a=some (.dT kvs)) (eb:H b=some (.tup (k.map kV))) (l:kvs.length<sizeLine) (rv:RelV v r) (h:∀ s',Inv X pins σ (upd H a (.dT (putK kvs k v))) s'→Q () s'):wpAny (model X.prog X.w) A (dictSet a (.ref b) r) Q E s:=by
  obtain ⟨z,hd,xs,rel,dd⟩:=dt_rdE I.hok (.inl e)
  have hz:xs.length≤sizeLine:=by rw [← Paired.length rel]; exact z
  have hl:(putK kvs k v).length≤sizeLine:=by have:=length_putK kvs k v; omega
  refine dictSetE (hz:=hz) (show (tupleKind _).room A from Nat.lt_of_succ_lt hu) (key_of I.hok eb) dd fun h' dd' hs=>h _ ?_
  obtain ⟨q,es,ep,hq,h2,h3,h4,_,h5⟩:=dd'
  refine d_write I (by rw [e]; exact True.intro) hs ⟨q,hq⟩ ⟨hl,hd,_,(rel.put k eb rv).keeps fun c ys ec=>(upd_ne (ne_of ec e (fun z=>nomatch z))).trans ec,q,es,ep,hq,h2,h3,h4,h5⟩
end
section
variable {X:Cx}
def DCompW2 (K:PySem.W.Frag) (J:It) (js:List Nat) (tc:TT) (tk tv:TE) (σ:L2.St) (H1:Hp) (Q:VK):Prop:=∀ D,H1 D=none→∃ W:Nat→Nat→Hp→Prop,(∃ m,W 0 m (upd H1 D (.dT [])))∧∀ i m H,W i m H →
  (J.stop i H∧Q (.ref D) H)∨(J.go i H∧∀ x H',J.yld i H x H'→∃ (t:Addr) (w1 w2:V),x=.ref t∧SqT K H' t [w1,w2]∧∃ (N1:Hp→Prop) (N2:V→VK),(∀ H2,N1 H2→∃ m',m'<m∧W (i+1) m' H2) ∧
    (∀ kv vv H3,N2 kv vv H3→∃ kvs k b,H3 D=some (.dT kvs)∧kv=.ref b∧H3 b=some (.tup (k.map kV))∧kvs.length<sizeLine∧∃ m',m'<m∧W (i+1) m' (upd H3 D (.dT (putK kvs k vv)))) ∧
    tc (some w1::some w2::frees σ js) H' fun c H2=>if c=true then tk (some w1::some w2::frees σ js) H2 (fun kv H3=>tv (some w1::some w2::frees σ js) H3 (N2 kv)) else N1 H2)
def tDComp2 (K:PySem.W.Frag) (wi:TI) (js:List Nat) (tc:TT) (tk tv:TE):TE:=fun σ H Q=>wi σ H fun J H1=>DCompW2 K J js tc tk tv σ H1 Q
theorem pe_dcomp2 {kx vx iter:Expr} {x x2:Str} {px px2 pt pos:Pos} {kt:Nat} {ifs:List Expr} {scope:Scope} {cl:List (Str×Addr)} {ys:List Str} {js:List Nat} {wi:TI} {tc:TT} {tk tv:TE} (C:CompScope X scope cl x ys js) (own2:OwnN scope x2) (nd2:(x::x2::ys).Nodup) (hc:X.calm=true) (hu:X.A.units+1<cLine) (hi:PI X (.Tuple [.Name x px,.Name x2 px2] kt pt) iter wi) (ht:∀ fp s H,PTs (cxComp X scope cl (x::x2::ys) fp s H) ifs tc) (hk:∀ fp s H,PE (cxComp X scope cl (x::x2::ys) fp s H) kx tk) (hv:∀ fp s H,PE (cxComp X scope cl (x::x2::ys) fp s H) vx tv) (hs:∀ x,foldedSetIterable iter X.env x=pure x:=by intro _; rfl):PE X (.DictComp kx vx [⟨.Tuple [.Name x px,.Name x2 px2] kt pt,iter,ifs,0⟩] scope pos) (tDComp2 X.K wi js tc tk tv):=by
  intro pins s σ H Q I h
  rw [arm_eval_DictComp]
  show wpAny _ _ (comprehension _ scope X.env _ newDict false (eval iter X.env) none) _ _ s
  refine wpAny_comprehension_free (use:=none) rfl hs C.clos C.kind C.locs (thn (hi pins s σ H _ I h) fun v s1 h1=>thn h1 fun itv s2 h2=>?_)
  obtain ⟨it,fp,tn,J,H2,e,I2,T,st2,f2,q2⟩:=h2
  subst e
  have fD:H2 s2.heap.objs.size=none:=I2.hok.fresh (Nat.le_refl _)
  obtain ⟨W,⟨m0,w0⟩,turn⟩:=q2 s2.heap.objs.size fD
  refine wpAny_newObj_type ?_
  have I3:Inv X pins σ (upd H2 s2.heap.objs.size (.dT [])) { s2 with heap:=s2.heap.push { cls:=.type "dict",data:=.dict #[] } } :=
    I2.laid (t':=s2.toks) (fun b u q=>Heap.get?_push_of_some _ q) (Nat.le_refl _) (dt_empty s2.heap I2.big)
  have nfp:∀ b∈fp,b≠s2.heap.objs.size:=fun b hb z=>by
    obtain ⟨o,q,_⟩:=T.obj _ _ st2 b hb
    have:=Heap.lt_size q
    rw [z] at this
    exact absurd this (Nat.lt_irrefl _)
  have f3:∀ b∈fp,FpOk X pins (upd H2 s2.heap.objs.size (.dT [])) b:=fun b hb=>⟨by rw [upd_ne (nfp b hb)]; exact (f2 b hb).1,(f2 b hb).2⟩
  generalize hS3:({ s2 with heap:=s2.heap.push { cls:=.type "dict",data:=.dict #[] } }:Shared)=s3 at I3
  have st3:tn 0 s3.heap:=T.keep 0 _ _ st2 fun b hb o q=>by rw [← hS3]; exact Heap.get?_push_of_some _ q
  have o3:∀ b∈fp,∃ o,s3.heap.get? b=some o:=fun b hb=>let ⟨o,q,_⟩:=T.obj _ _ st3 b hb; ⟨o,q⟩
  show wpAny _ _ (newFunctionEnv scope X.env.globals cl [] X.env.qual none .none (some X.env)) _ _ _
  refine new_block C fun h4 hns4 keep4 new4=>?_
  have I4:∀ tk,Inv (cxComp X scope cl (x::x2::ys) fp s3 (upd H2 s2.heap.objs.size (.dT []))) [] (none::none::frees σ js) (upd H2 s2.heap.objs.size (.dT [])) { s3 with heap:=h4,toks:=tk }:=fun tk=>comp_start (pre:=[x,x2]) C I3 f3 o3 hns4 keep4 new4
  have st4:tn 0 h4:=T.keep 0 _ _ st3 fun b hb o q=>keep4 b o q
  generalize hX':cxComp X scope cl (x::x2::ys) fp s3 (upd H2 s2.heap.objs.size (.dT []))=X' at I4
  have eP:X'.prog=X.prog:=by rw [← hX']; rfl
  have eW:X'.w=X.w:=by rw [← hX']; rfl
  have eK:X'.K=X.K:=by rw [← hX']; rfl
  have eA:X'.A=X.A:=by rw [← hX']; rfl
  have eC:X'.calm=true:=by rw [← hX']; exact hc
  have stat:∀ {H':Hp},(∀ b∈fp,H' b=none)→∀ b∈fp,FpOk X' [] H' b:=fun {H'} hn b hb=>by
    have ok:=(I4 0).ok
    have hex:b∈X'.ex:=by rw [← hX']; exact hb
    exact ⟨hn b hb,(ok.exf b hex).1,ok.exfs b hex,.inl hex,(ok.exf b hex).2,fun p hp=>by rw [← hX'] at hp; cases (show p∈([]:List (Addr×Obj)) from hp)⟩
  have loop:∀ s5:Shared,s5={ s3 with heap:=h4,toks:=s3.toks+([]:List (Str×Value)).length } →
      codeAny (model X.prog X.w) X.A (.compLoop (.DictComp kx vx [⟨.Tuple [.Name x px,.Name x2 px2] kt pt,iter,ifs,0⟩] scope pos) 0 (.ref it) (.ref s2.heap.objs.size) (compEnvC scope (cellsFrom (s3.heap.objs.size+1) scope.names cl) s3.heap.objs.size X.env))
        (compPost (model X.prog X.w) X.A X.xe none (EP X pins σ Q) (.ref s2.heap.objs.size) s3.heap.objs.size) s5:=by
    rintro s5 rfl
    refine comp_turnsD (fun n s'=>∃ i o o2 H',Inv X' [] (o::o2::frees σ js) H' s'∧tn i s'.heap∧(∀ b∈fp,H' b=none)∧W i n H') ?_ m0
      ⟨0,none,none,_,I4 _,st4,fun b hb=>(f3 b hb).1,w0⟩
    rintro n s6 ⟨i,o,o2,H6,I6,st6,fr6,w6⟩
    rcases turn i n H6 w6 with ⟨stop,qn⟩ | ⟨go,step⟩
    · have hd:=T.done X' eP eW eK eC i [] s6 _ H6 (fun _ _=>False) I6 (stat fr6) st6 stop
      rw [eA] at hd
      refine thn hd fun r s7 ⟨hr,I7⟩=>?_
      subst hr
      obtain ⟨m7,hn7,_⟩:=I7.loc
      have hn7':s7.heap.Ns s3.heap.objs.size m7:=by rw [← hX'] at hn7; exact hn7
      refine ⟨m7,hn7',fun h8 hs8=>?_⟩
      have I7f:H6 s3.heap.objs.size=none:=by have:=I7.free; rw [← hX'] at this; exact this
      have b7:Un (frs X.stack) fp (upd H2 s2.heap.objs.size (.dT [])) H6 s3.heap s7.heap:=by have:=I7.base; rw [← hX'] at this; exact this
      have ne8:∀ b o,s3.heap.get? b=some o→b≠s3.heap.objs.size:=fun b o q=>Nat.ne_of_lt (Heap.lt_size q)
      have u8:Un (frs X.stack) fp (upd H2 s2.heap.objs.size (.dT [])) H6 s3.heap h8:=by
        refine ⟨fun b o q n hb hx=>(hs8.2 b (ne8 b o q)).trans (b7.keep b o q n hb hx),fun b o q n hb hx=>?_,b7.free,fun b o q hx=>?_,b7.tups,b7.frzs,b7.tbls⟩
        · obtain ⟨sl,z⟩:=b7.slot b o q n hb hx
          exact ⟨sl,(hs8.2 b (ne8 b o q)).trans z⟩
        · obtain ⟨o',z⟩:=b7.there b o q hx
          exact ⟨o',(hs8.2 b (ne8 b o q)).trans z⟩
      have hok8:HOk X.prog X.w H6 h8:=fun b ob e=>by
        have hk7:=I7.hok
        rw [eP,eW] at hk7
        refine (hk7 b ob e).stay (fun c w' hcc q=>(hs8.2 c ?_).trans q) (fun _ q=>q) fun _ _ q=>q
        rintro rfl
        rcases hcc with rfl | hcc
        · rw [I7f] at e; cases e
        · rw [I7f] at hcc; cases hcc
      have os7:s7.os=s3.os:=by have:=I7.os; rw [← hX'] at this; exact this
      exact ⟨.ref s2.heap.objs.size,H6,I3.call' (s':={ s7 with heap:=h8 }) (ch:=fp) os7 u8 hok8 I7.bare (fun b hb=>⟨(f3 b hb).2.2.2.1,(f3 b hb).2.1,(f3 b hb).2.2.2.2.1,(f3 b hb).2.2.2.2.2⟩),rfl,qn⟩
    · have hit:=T.item X' eP eW eK eC i [] s6 _ H6 (fun _ _=>False) I6 (stat fr6) st6 go
      rw [eA] at hit
      refine thn hit fun r s7 ⟨u,hr,h7⟩=>?_
      subst hr
      refine thn h7 fun _ s8 ⟨y,H8,I8,r8,y8,st8,fr8⟩=>?_
      have I8':=I8.pinned (stat fr8) (T.obj _ _ st8)
      obtain ⟨tp,w1,w2,ey,hsq,N1,N2,hN1,hN2,hst⟩:=step y H8 y8
      have again:∀ {H9:Hp} {s9:Shared} {m':Nat},Inv X' ([]++pinsAt fp s8.heap) (some w1::some w2::frees σ js) H9 s9→m'<n→W (i+1) m' H9→∃ m,m<n∧∃ i o o2 H',Inv X' [] (o::o2::frees σ js) H' s9∧tn i s9.heap∧(∀ b∈fp,H' b=none)∧W i m H':=fun {H9 s9 m'} I9 hm w9=>by
        refine ⟨m',hm,i+1,some w1,some w2,H9,I9.unpinned,T.keep _ _ _ st8 fun b hb o e=>(I9.pin (b,o) (List.mem_append_right _ (List.mem_append_right _ (mem_pinsAt hb e)))).1,fun b hb=>?_,w9⟩
        obtain ⟨o,e,_⟩:=T.obj _ _ st8 b hb
        exact (I9.pin (b,o) (List.mem_append_right _ (List.mem_append_right _ (mem_pinsAt hb e)))).2.1
      subst hX'
      have g1:PG (cxComp X scope cl (x::x2::ys) fp s3 (upd H2 s2.heap.objs.size (.dT []))) (.Tuple [.Name x px,.Name x2 px2] kt pt) (gTup X.K 2 (gCons (gName 0) (gCons (gName 1) gNil))) :=
        pg_tup (X:=cxComp X scope cl (x::x2::ys) fp s3 (upd H2 s2.heap.objs.size (.dT []))) hc (pgs_cons (pg_name (i:=0) (x:=x) nd2 rfl (own_loc C.own) (own_fn C.own)) (pgs_cons (pg_name (i:=1) (x:=x2) nd2 rfl (own_loc own2) (own_fn own2)) pgs_nil))
      refine thn (g1 _ s8 _ H8 y u (fun σ' H'=>σ'=some w1::some w2::frees σ js∧H'=H8) I8' r8 ⟨tp,[w1,w2],ey,hsq,rfl,_,_,rfl,_,_,rfl,rfl,rfl,rfl⟩) fun _ s9 ⟨σ9,H9,I9,e9,e9'⟩=>?_
      subst e9 e9'
      refine thn (ht fp s3 _ _ s9 _ _ _ I9 hst) fun ok s10 ⟨H10,I10,q10⟩=>?_
      cases ok with
      | false =>
        rw [if_neg Bool.false_ne_true] at q10 ⊢
        obtain ⟨m',hm,w10⟩:=hN1 _ q10
        exact again I10 hm w10
      | true =>
        rw [if_pos rfl] at q10 ⊢
        refine thn (hk fp s3 _ _ s10 _ _ _ I10 q10) fun zk s11 ⟨vk,H11,I11,r11,q11⟩=>?_
        refine thn (hv fp s3 _ _ s11 _ _ _ I11 q11) fun zv s12 ⟨vv,H12,I12,r12,q12⟩=>?_
        obtain ⟨kvs,kk,b,ha,eb,hb,hz,m',hm,w12⟩:=hN2 _ _ _ q12
        subst eb
        cases (show zk=Value.ref b from r11)
        exact d_dictSet (X:=cxComp X scope cl (x::x2::ys) fp s3 (upd H2 s2.heap.objs.size (.dT []))) (A:=X.A) hu I12 ha hb hz r12 fun s13 I13=>again I13 hm w12
  exact codeAny_compStart_dict (loop _ rfl) (T.self X.A 0 _ _ _ st4 (loop _ rfl))
end
end Nd
namespace DL
open PySem PySem.Spec PyProof.Rows L2 Nd
section
variable {K:PySem.W.Frag}
theorem key_at {H:Hp} {kv:List (List Key×V)} {ks:List (List Int×PyData)} {i:Nat} {k:List Key} {v:V} (r:DRel K H kv ks) (h:kv[i]? = some (k,v)):∃ w d,ks[i]? = some (w,d)∧k=keyI w:=by
  have e:=congrArg (fun l=>l[i]?) r.key
  simp only [List.getElem?_map,h,Option.map_some] at e
  cases q:ks[i]? with
  | none=>rw [q] at e; cases e
  | some p=>rw [q] at e; exact ⟨p.1,p.2,rfl,Option.some.inj e⟩
theorem keyw_rd {H:Hp} {t:Addr} {w:List Int} (h:H t=some (.tup ((keyI w).map kV))) (hl:(keyI w).length≤sizeLine):RdF K H (.ref t) (wordD w) []:=by
  rw [keyI_kV] at h
  refine .tup h ?_ (RdFs.ints w)
  unfold keyI at hl
  rw [List.length_map] at hl ⊢
  exact hl
theorem iter_zipD {a b:Addr} {m m':Md} {ks:List (List Int×PyData)} {es:List PyData} {F G:List Addr}:IterOk K (Itzd K a b ks.length) [⟨some (.ref a),.dat (mdIt m) (.dict (dkv ks)),F⟩,⟨some (.ref b),.dat (mdIt m') (.list es),G⟩] (mdZip m m') ((ks.zip es).map fun p=>.tuple [wordD p.1.1,p.2]) where
  md:=by cases m <;> cases m' <;> simp [mdZip]
  hd:=fun e he=>by
    rcases List.mem_cons.mp he with rfl | he
    · exact cells_it
    · rw [List.mem_singleton.mp he]
      exact cells_it
  np:=fun z e he=>by
    rcases List.mem_cons.mp he with rfl | he
    · cases m <;> cases m' <;> first | rfl | cases z
    · rw [List.mem_singleton.mp he]
      cases m <;> cases m' <;> first | rfl | cases z
  go:=fun H n i h hi=>by
    obtain ⟨c,kv,ks',e,ek,ha,rel,_⟩:=(told_of h List.mem_cons_self).dict_inv
    cases e
    obtain rfl:=dkv_inj ek
    obtain ⟨b2,ys,G2,e2,hb2,rb2,_,_⟩:=(told_of h (List.mem_cons_of_mem _ List.mem_cons_self)).list_inv
    cases e2
    have l2:=rb2.len
    rw [List.length_map,List.length_zip] at hi
    exact ⟨kv,ys,ys[i],ha,drel_len rel,SqL.of hb2,by omega,by simp [show i<ys.length by omega]⟩
  yld:=fun H n i x H' h hi y=>by
    obtain ⟨c,kv,ks',e,ek,ha,rel,_⟩:=(told_of h List.mem_cons_self).dict_inv
    cases e
    obtain rfl:=dkv_inj ek
    obtain ⟨b2,ys,G2,e2,hb2,rb2,rfl,_⟩:=(told_of h (List.mem_cons_of_mem _ List.mem_cons_self)).list_inv
    cases e2
    rw [List.length_map,List.length_zip] at hi
    obtain ⟨p,t,k,v,u,rfl,np,rfl,y1,y2,y3,y4⟩:=y
    obtain ⟨w,d,e1,rfl⟩:=key_at rel (y1 kv ha)
    have hx2:=y4 ys (SqL.of hb2)
    obtain ⟨x2,F2,h21,h22,h23⟩:=rb2.get (i:=i) (e:=es[i]) (by simp [show i<es.length by omega])
    rw [hx2] at h21
    cases h21
    have s1:=same_new np (.tup [.ref t,u])
    refine ⟨s1,.tuple [wordD w,es[i]],F2,?_,.tup upd_same (by simp [sizeLine_eq]) ?_,fun c hc=>⟨_,List.mem_cons_of_mem _ List.mem_cons_self,List.mem_cons_of_mem _ (h23.subset hc)⟩⟩
    · rw [List.getElem?_map,show (ks.zip es)[i]? = some ((w,d),es[i]) from List.getElem?_zip_eq_some.mpr ⟨e1,by simp [show i<es.length by omega]⟩]
      rfl
    · have:=RdFs.cons ((keyw_rd (K:=K) y2 y3).kp (Kp.of s1)) (RdFs.cons (h22.kp (Kp.of s1)) RdFs.nil)
      rw [List.append_nil] at this
      exact this
  stop:=fun H n h=>by
    obtain ⟨c,kv,ks',e,ek,ha,rel,_⟩:=(told_of h List.mem_cons_self).dict_inv
    cases e
    obtain rfl:=dkv_inj ek
    obtain ⟨b2,ys,G2,e2,hb2,rb2,_,_⟩:=(told_of h (List.mem_cons_of_mem _ List.mem_cons_self)).list_inv
    cases e2
    have l2:=rb2.len
    refine ⟨kv,ys,ha,drel_len rel,SqL.of hb2,?_⟩
    rw [List.length_map,List.length_zip]
    omega
end
def diDict (de:DE):DI:=fun δ P=>de δ fun x δ'=>match x with
  | .dat m (.dict X)=>∃ ks,X=dkv ks∧ks.length≤1000000∧P (mdIt m) (ks.map fun p=>wordD p.1) δ'
  | _=>False
def diZipD (da:DA):DI:=fun δ P=>da δ fun xs δ'=>match xs with
  | [.dat m (.dict X),.dat m' (.list es)]=>∃ ks,X=dkv ks∧P (mdZip m m') ((ks.zip es).map fun p=>.tuple [wordD p.1.1,p.2]) δ'
  | _=>False
section
variable {X:Cx} {tg e a b:Expr} {de:DE} {da:DA} {elts:List Expr} {k:Nat} {tp p pos:Pos}
theorem di_zipD (hg:Gl X "zip") (hm:X.mg "zip" = none) (h:PAD X [a,b] da) (hs:starEach [a,b] X.env=(false,eval a X.env)::starEach [b] X.env:=by rfl) (hp:(backTo pos (starEach [b] X.env)).any (·.1)=false:=by rfl):PID X (.Tuple elts k tp) (.Call (.Name "zip" p) [a,b] [] pos) (diZipD da):=by
  refine PI.imp (pi_zipD hg hm h hs hp) fun σ H R h=>?_
  obtain ⟨H0,Y,S,T,δ,P,rfl,hS,hA,hd,k⟩:=h
  refine ⟨H0,Y,S,T,δ,_,rfl,hS,hA,hd,fun xs δ1 As us S1 H1 e1 e2 ex eu hA1 p1=>?_⟩
  split at p1
  · rename_i m X' m' es
    obtain ⟨ks,rfl,p1⟩:=p1
    obtain ⟨v1,F1,v2,F2,rfl,hA2⟩:=two_args eu hA1 ex
    obtain ⟨a,kv,ks',rfl,ek,ha,rel,_⟩:=(hA2.told mem_mid).dict_inv
    obtain rfl:=dkv_inj ek
    obtain ⟨b,ys,G,rfl,hb,rb,rfl,hz⟩:=(hA2.told mem_mid2).list_inv
    refine ⟨a,b,kv,rfl,ha,⟨ys,SqL.of hb⟩,?_⟩
    rw [drel_len rel]
    have q1:=(hA2.mid.wk (mdIt_wk _)).tomid
    have q2:At X.K H0 Y δ1.n ((S1++[⟨some (.ref a),.dat (mdIt m) (.dict (dkv ks)),F1⟩])++⟨some (.ref b),.dat m' (.list es),b::G⟩::T) H1:=by rw [List.append_assoc]; exact q1
    have q3:=(q2.mid.wk (mdIt_wk _)).tomid
    rw [List.append_assoc] at q3
    exact k _ _ δ1 _ [_,_] S1 H1 e1 e2 q3 iter_zipD (by rw [List.length_map,List.length_zip]; exact Nat.le_trans (Nat.min_le_right _ _) hz) p1
  · exact p1.elim
end
def kvD (ks:List (List Int×PyData)):List (List Key×PyData):=ks.map fun p=>(keyI p.1,p.2)
section
variable {K:PySem.W.Frag} {H0 H H':Hp} {X:Addr→Prop} {n:Nat} {E S T:List Ent}
theorem dT_rel {kv:List (List Key×V)} {ks:List (List Int×PyData)} (h1:kv.map (·.1)=(kvD ks).map (·.1)) (h2:RdFs K H (kv.map (·.2)) ((kvD ks).map (·.2)) []):DRel K H kv ks:=by
  unfold kvD at h1 h2
  rw [List.map_map] at h1 h2
  exact ⟨h1,h2⟩
theorem rel_dT {kv:List (List Key×V)} {ks:List (List Int×PyData)} (r:DRel K H kv ks):kv.map (·.1)=(kvD ks).map (·.1)∧RdFs K H (kv.map (·.2)) ((kvD ks).map (·.2)) []:=by
  unfold kvD
  rw [List.map_map,List.map_map]
  exact ⟨r.key,r.val⟩
theorem At.dNew (h:At K H0 X n E H) {D:Addr} (hD:H D=Option.none):At K H0 X n (⟨some (.ref D),.dT (kvD []),[D]⟩::E) (upd H D (.dT [])):=by
  have s1:=same_new hD (.dT [])
  refine (h.grow (n':=n) s1 (Nat.le_refl _)).push ⟨D,[],rfl,rfl,upd_same,rfl,.nil⟩ (fun f hf=>?_) fun a ha=>?_
  · have nf:=h.free hD f hf
    refine ⟨fun _ a ha z=>?_,fun _ a ha z=>?_⟩
    · rw [List.mem_singleton.mp ha] at z
      exact nf z
    · rw [List.mem_singleton.mp z] at ha
      exact nf (cells_sub _ _ ha)
  · rw [List.mem_singleton.mp ha]
    exact .inl (h.new0 hD)
theorem At.dPut {D:Addr} {ks:List (List Int×PyData)} {w:List Int} {v:V} {e:PyData} (h:At K H0 X n (⟨some (.ref D),.dT (kvD ks),[D]⟩::E) H) (r:RdF K H v e []):∃ kv,H D=some (.dT kv)∧kv.length=ks.length∧At K H0 X n (⟨some (.ref D),.dT (kvD (putD ks w e)),[D]⟩::E) (upd H D (.dT (putK kv (keyI w) v))):=by
  obtain ⟨a,kv,e1,e0,ha,h1,h2⟩:=h.ok _ List.mem_cons_self
  have e1':some (V.ref D)=some (V.ref a):=e1
  cases e1'
  have rel:=dT_rel h1 h2
  have hs:=List.pairwise_cons.mp h.sep
  have hE:=h.sub (List.sublist_cons_self _ _)
  have kp:∀ {F:List Addr},D∉F→Kp F H (upd H D (.dT (putK kv (keyI w) v))):=fun {F} hF b o q z=>by
    have : b≠D:=by
      rintro rfl
      rw [ha] at q
      cases q
      rcases z with z | z
      · exact hF z
      · rcases z with ⟨_,z⟩ | ⟨_,_,z⟩ <;> cases z
    rw [upd_ne this]
    exact q
  have nD:H0 D=Option.none:=by
    rcases h.new _ List.mem_cons_self D List.mem_cons_self with z | z
    · exact z
    · cases z.2
  have rel':=(drel_put w r rel).kp (kp List.not_mem_nil)
  obtain ⟨g1,g2⟩:=rel_dT rel'
  refine ⟨kv,ha,drel_len rel,?_⟩
  refine ⟨fun f hf=>?_,List.pairwise_cons.mpr ⟨fun f hf=>⟨fun hq a ha'=>(hs.1 f hf).1 hq a ha',fun hq a ha'=>(hs.1 f hf).2 (hq.imp id id) a ha'⟩,hs.2⟩,fun f hf=>?_,fun b o nx q=>?_,fun b o q=>?_,fun b hb=>?_⟩
  rotate_right
  · obtain ⟨z,c,k,f,h1,h2⟩:=h.xd b hb
    refine ⟨z,c,k,f,(upd_ne ?_).trans h1,h2⟩
    rintro rfl
    exact z nD
  · rcases List.mem_cons.mp hf with rfl | hf
    · exact ⟨D,_,rfl,rfl,upd_same,g1,g2⟩
    · exact (hE.ok f hf).kp (kp ((hs.1 f hf).1 (.inr rfl) D List.mem_cons_self)) (Nat.le_refl _)
  · rcases List.mem_cons.mp hf with rfl | hf
    · intro a ha'
      rw [List.mem_singleton.mp ha']
      exact .inl nD
    · exact hE.new f hf
  · rw [upd_ne (ne_of_none q nD)]
    exact h.same b o nx q
  · rw [upd_ne (ne_of_none q nD)]
    exact h.dom b o q
theorem At.dGot {D:Addr} {ks:List (List Int×PyData)} (h:At K H0 X n (⟨some (.ref D),.dT (kvD ks),[D]⟩::E) H):At K H0 X n (⟨some (.ref D),.dat .ow (.dict (dkv ks)),[D]⟩::E) H:=by
  obtain ⟨a,kv,e1,e0,ha,h1,h2⟩:=h.ok _ List.mem_cons_self
  have e1':some (V.ref D)=some (V.ref a):=e1
  cases e1'
  have rel:=dT_rel h1 h2
  have hs:=List.pairwise_cons.mp h.sep
  refine (h.sub (List.sublist_cons_self _ _)).push ⟨_,rfl,.dic ha rel.key rel.val,fun _=>List.nodup_cons.mpr ⟨List.not_mem_nil,List.nodup_nil⟩,fun z=>nomatch z⟩ (fun f hf=>⟨fun hq a ha'=>(hs.1 f hf).1 (.inr rfl) a ha',fun hq a ha'=>(hs.1 f hf).2 (.inl rfl) a ha'⟩) fun a ha'=>?_
  rcases h.new _ List.mem_cons_self a ha' with z | z
  · exact .inl z
  · cases z.2
end
def dcYes (yes:List Int→PyData→Nat→Prop) (y z:DV) (δ:DS):Prop:=match y,z with
  | .dat _ k,.dat _ e=>∃ w,k=wordD w∧imm e=true∧yes w e δ.n
  | _,_=>False
def dcStep (dc:DT) (dk dv:DE) (δ:DS) (yes:List Int→PyData→Nat→Prop) (no:Nat→Prop):Prop:=dc δ fun c δ2=>match c with
  | true=>dk δ2 fun y δ3=>dv δ3 fun z δ4=>dcYes yes y z δ4
  | false=>no δ2.n
def dDComp2 (di:DI) (js:List Nat) (dc:DT) (dk dv:DE):DE:=fun δ P=>di δ fun m ds δ1=>ds.length≤1000000∧∃ I:Nat→List (List Int×PyData)→Nat→Prop,I 0 [] δ1.n ∧
  (∀ i d acc n,ds[i]? = some d→I i acc n→∃ d1 d2,d=.tuple [d1,d2]∧dcStep dc dk dv ⟨.dat m d1::.dat m d2::frD δ1.sl js,n⟩ (fun w e n'=>I (i+1) (putD acc w e) n') (fun n'=>I (i+1) acc n')) ∧
  ∀ acc n,I ds.length acc n→P (.dat .ow (.dict (dkv acc))) ⟨δ1.sl,n⟩
theorem putD_len (ks:List (List Int×PyData)) (w:List Int) (d:PyData):(putD ks w d).length≤ks.length+1:=by
  unfold putD
  split
  · rw [List.length_map]; omega
  · rw [List.length_append]; simp
section
variable {K:PySem.W.Frag} {H0 H H':Hp} {Y:Addr→Prop} {n:Nat} {E S T:List Ent}
theorem dcomp2_le {di:DI} {js:List Nat} {dc:DT} {dk dv:DE}:∀ σ H Q,LE K (dDComp2 di js dc dk dv) σ H Q→tDComp2 K (LI K di) js (LT K dc) (LE K dk) (LE K dv) σ H Q:=by
  intro σ H Q h
  obtain ⟨H0,Y,S,T,δ,P,rfl,hS,hA,hd,k⟩:=h
  refine ⟨H0,Y,S,T,δ,_,rfl,hS,hA,hd,fun m ds δ1 J hid S1 H1 e1 e2 hA1 it hz p1=>?_⟩
  obtain ⟨hz1,I,h0,hs,hf⟩:=p1
  have hz2:=sz2 (n:=1000000) (Nat.le_refl _)
  rw [← e1]
  intro D hD
  refine ⟨fun i q H=>q=ds.length - i∧i≤ds.length∧∃ acc n,At K H0 Y n (⟨some (.ref D),.dT (kvD acc),[D]⟩::(S1++(hid++T))) H∧acc.length≤i∧I i acc n,⟨ds.length,by simp,Nat.zero_le _,[],δ1.n,hA1.dNew hD,Nat.le_refl _,h0⟩,?_⟩
  rintro i q H ⟨rfl,hi,acc,n,hA2,hl,hI⟩
  have hid_ok:∀ e∈hid,EntOk K H n e:=fun e he=>hA2.ok e (List.mem_cons_of_mem _ (List.mem_append_right _ (List.mem_append_left _ he)))
  by_cases hlt:i<ds.length
  · refine .inr ⟨it.go H n i hid_ok hlt,fun x H' y=>?_⟩
    obtain ⟨s1,d,F,h1,h2,h3⟩:=it.yld H n i x H' hid_ok hlt y
    obtain ⟨d1,d2,rfl,hst⟩:=hs i d acc n h1 hI
    obtain ⟨t,xs,rfl,ht,rt,_⟩:=h2.tup_inv
    cases rt with
    | @cons w1 _ xs _ F1 _ r1 rt =>
      cases rt with
      | @cons w2 _ xs _ F2 G r2 rt =>
        cases rt
        have hA3:At K H0 Y n ((⟨some (.ref D),.dT (kvD acc),[D]⟩::S1)++⟨some w1,.dat m d1,F1⟩::(hid++T)) H':=At.item (S:=⟨some (.ref D),.dT (kvD acc),[D]⟩::S1) hA2 s1 r1 (fun a ha=>h3 a (List.mem_append_left _ ha)) it.md it.hd it.np
        have hA3':At K H0 Y n ((⟨some w1,.dat m d1,F1⟩::⟨some (.ref D),.dT (kvD acc),[D]⟩::S1)++(hid++T)) H':=hA3.mid
        have hA3'':At K H0 Y n ((⟨some w1,.dat m d1,F1⟩::⟨some (.ref D),.dT (kvD acc),[D]⟩::S1)++⟨some w2,.dat m d2,F2⟩::(hid++T)) H':=At.item hA3' (Same.refl _) r2 (fun a ha=>h3 a (List.mem_append_right _ (List.mem_append_left _ ha))) it.md it.hd it.np
        have hA4:At K H0 Y n (⟨some w1,.dat m d1,F1⟩::⟨some w2,.dat m d2,F2⟩::⟨some (.ref D),.dT (kvD acc),[D]⟩::(S1++(hid++T))) H':=hA3''.mid.perm (List.Perm.swap _ _ _)
        have hA5:=At.view (S:=S1) hA4 (fun e he=>List.mem_cons_of_mem _ (List.mem_cons_of_mem _ (List.mem_cons_of_mem _ (List.mem_append_left _ he)))) js
        have hA6:At K H0 Y n ((⟨some w1,.dat m d1,F1⟩::⟨some w2,.dat m d2,F2⟩::frE S1 js)++⟨some (.ref D),.dT (kvD acc),[D]⟩::(S1++(hid++T))) H':=by
          have z:=hA5.mid
          refine z.perm ?_
          exact (List.perm_middle).cons _
        have hS6:Sl (⟨some w1,.dat m d1,F1⟩::⟨some w2,.dat m d2,F2⟩::frE S1 js) ⟨.dat m d1::.dat m d2::frD δ1.sl js,n⟩:=by
          unfold Sl
          rw [List.map_cons,List.map_cons,sl_fr e2]
        have hv:vs (⟨some w1,.dat m d1,F1⟩::⟨some w2,.dat m d2,F2⟩::frE S1 js)=some w1::some w2::frees (vs S1) js:=by
          rw [← vs_fr]
          rfl
        refine ⟨t,w1,w2,rfl,SqT.of ht,fun H2=>∃ m',m'<ds.length - i∧_,fun kx vx H3=>∃ (kvs:List (List Key×V)) (k:List Key) (b:Addr),H3 D=some (.dT kvs)∧kx=.ref b∧H3 b=some (.tup (k.map kV))∧kvs.length<sizeLine∧∃ m',m'<ds.length - i∧_,fun H2 q=>q,fun kx vx H3 q=>q,?_⟩
        rw [← hv]
        refine ⟨H0,Y,_,⟨some (.ref D),.dT (kvD acc),[D]⟩::(S1++(hid++T)),_,_,rfl,hS6,hA6,hst,fun c δ2 S2 H2 f1 f2 hA7 p2=>?_⟩
        cases c with
        | false=>exact iteF ⟨ds.length - (i+1),by omega,rfl,hlt,acc,δ2.n,hA7.sub (List.sublist_append_right _ _),by omega,p2⟩
        | true =>
          refine iteT ⟨H0,Y,S2,⟨some (.ref D),.dT (kvD acc),[D]⟩::(S1++(hid++T)),δ2,_,f1,f2,hA7,p2,fun yk δ3 vk Fk S3 H3 f3 f4 hA8 p3=>?_⟩
          refine ⟨H0,Y,S3,⟨some vk,yk,Fk⟩::⟨some (.ref D),.dT (kvD acc),[D]⟩::(S1++(hid++T)),δ3,_,f3,f4,hA8,p3,fun yv δ4 vv Fv S4 H4 f5 f6 hA9 p4=>?_⟩
          unfold dcYes at p4
          split at p4
          · rename_i mk dk0 mv dv0
            obtain ⟨w,rfl,im,p5⟩:=p4
            obtain ⟨b,rfl,hb⟩:=word_at (hA9.told mem_mid2)
            have r:=hA9.told mem_mid
            obtain rfl:=r.imm im
            have hA10:At K H0 Y δ4.n (⟨some (.ref D),.dT (kvD acc),[D]⟩::(S1++(hid++T))) H4:=hA9.drop2.sub (List.sublist_append_right _ _)
            obtain ⟨kv,g1,g2,g3⟩:=hA10.dPut (w:=w) r
            have:=putD_len acc w dv0
            exact ⟨kv,keyI w,b,g1,rfl,hb,by omega,ds.length - (i+1),by omega,rfl,hlt,putD acc w dv0,δ4.n,g3,by omega,p5⟩
          · exact p4.elim
  · have e:i=ds.length:=by omega
    subst e
    refine .inl ⟨it.stop H n hid_ok,k _ ⟨δ1.sl,n⟩ _ [D] S1 H e1 e2 ?_ (hf acc n hI)⟩
    have hA4:At K H0 Y n (⟨some (.ref D),.dat .ow (.dict (dkv acc)),[D]⟩::(S1++T)) H:=hA2.dGot.sub (((List.Sublist.refl S1).append (List.sublist_append_right hid T)).cons₂ _)
    exact hA4.tomid
end
section
variable {X:Cx} {kx vx iter:Expr} {x x2:Str} {px px2 pt pos:Pos} {kt:Nat} {ifs:List Expr} {scope:Scope} {cl:List (Str×Addr)} {ys:List Str} {js:List Nat} {di:DI} {dc:DT} {dk dv:DE}
theorem dp_dcomp2 (hu:X.A.units+64<cLine) (C:CompScope X scope cl x ys js) (own2:OwnN scope x2) (nd2:(x::x2::ys).Nodup) (hc:X.calm=true) (hi:PID X (.Tuple [.Name x px,.Name x2 px2] kt pt) iter di) (ht:∀ fp s H,PTs (cxComp X scope cl (x::x2::ys) fp s H) ifs (LT X.K dc)) (hk:∀ fp s H,PED (cxComp X scope cl (x::x2::ys) fp s H) kx dk) (hv:∀ fp s H,PED (cxComp X scope cl (x::x2::ys) fp s H) vx dv) (hs:∀ x,foldedSetIterable iter X.env x=pure x:=by intro _; rfl):PED X (.DictComp kx vx [⟨.Tuple [.Name x px,.Name x2 px2] kt pt,iter,ifs,0⟩] scope pos) (dDComp2 di js dc dk dv):=PE.imp (pe_dcomp2 C own2 nd2 hc (un1 hu) hi ht hk hv hs) dcomp2_le
end
def rGetL (K:PySem.W.Frag):V→V→Hp→VK→Prop:=fun o i H Q=>∃ p xs k z,o=.ref p∧i=.int k∧SqL K H p xs∧0≤k∧xs[k.toNat]? = some z∧Q z H
theorem get_list {X:Cx}:PGet X (rGetL X.K):=by
  intro pins s σ H o i ov iv Q I ro ri h
  obtain ⟨p,xs,k,z,rfl,rfl,hq,k0,hz,q⟩:=h
  cases ro
  obtain ⟨t,rfl⟩:=ri
  obtain ⟨its,r,pl,hl⟩:=I.list hq
  obtain ⟨w,ew,rw'⟩:=r.get hz
  have:=line63
  have hl2:=r.length
  have hk:=(List.getElem?_eq_some_iff.mp hz).1
  refine wpAny_getItem_list (x:=w) pl.isList k0 (by omega) (by simpa using ew) ⟨z,H,I,rw',q⟩
def augIB (i:Nat) (k:Int) (a:Int) (y:DV) (δ:DS) (D:DEnds):Prop:=match δ.sl[i]?,y with
  | some (.dat m (.list ds)),.dat _ (.int b)=>own1 m=true∧npk δ.sl=true∧immAll ds=true∧k<ds.length∧D.nx ⟨δ.sl.set i (.dat m (.list (ds.set k.toNat (.int (a+b))))),δ.n⟩
  | _,_=>False
def augIK (i:Nat) (de:DE) (z:DV) (δ:DS) (D:DEnds):Prop:=match δ.sl[i]?,z with
  | some (.dat _ (.list ds)),.dat _ (.int k)=>0≤k∧∃ a,ds[k.toNat]? = some (.int a)∧de δ fun y δ2=>augIB i k a y δ2 D
  | _,_=>False
def dAugI (i:Nat) (dk de:DE):DB:=fun D δ=>isLst δ.sl[i]? = true∧dk δ fun z δ1=>augIK i de z δ1 D
section
variable {X:Cx} {o ie e:Expr} {de dk:DE} {pos tpos:Pos} {i:Nat}
theorem isL_slot {K:PySem.W.Frag} {H0 H:Hp} {Y:Addr→Prop} {S T:List Ent} {δ:DS} {n:Nat} (hS:Sl S δ) (hA:At K H0 Y δ.n (S++T) H) (hi:isLst δ.sl[n]? = true):∃ a,(vs S)[n]? = some (some (.ref a)):=by
  cases q:δ.sl[n]? with
  | none=>rw [q] at hi; cases hi
  | some x =>
    rw [q] at hi
    obtain ⟨ent,e2,e3⟩:=slot_of hS q
    obtain ⟨u,y,F⟩:=ent
    have e3':y=x:=e3
    subst e3'
    have hm:(⟨u,y,F⟩ : Ent)∈S:=List.mem_of_getElem? e2
    match y,hi with
    | .dat m (.list ds),_ =>
      obtain ⟨v,hv,rd,_⟩:=hA.ok _ (List.mem_append_left _ hm)
      obtain ⟨a,xs,G,rfl,ha,_⟩:=rd.list_inv
      exact ⟨a,by rw [vs_at e2]; exact congrArg some hv⟩
theorem ds_augX (ho:PE X o (tVar i)) (hk:PED X ie dk) (he:PED X e de) (ha:∀ ov iv new,augStore ie ov iv new=(do holding [new,ov,iv] (setItem ov iv new); release [new,ov,iv] []; pure .next):=by intros; rfl):PSD X (.AugAssign (.Subscript o ie tpos) .Add e pos) (dAugI i dk de):=by
  refine PS.impD (ps_augS ho hk get_list he ip_add set_list ha) fun D σ H h=>?_
  obtain ⟨H0,Y,S,T,δ,P,rfl,hS,hT,hA,hd,k1,k2,k3,k4⟩:=h
  obtain ⟨hd0,hd⟩:=hd
  obtain ⟨a,hv⟩:=isL_slot hS hA hd0
  refine ⟨.ref a,hv,H0,Y,S,T,δ,_,rfl,hS,hA,hd,fun z δ1 w F S1 H1 e1 e2 hA1 p1=>?_⟩
  unfold augIK at p1
  split at p1
  · rename_i m ds m' k hsl
    obtain ⟨p1,old,p2,p3⟩:=p1
    obtain ⟨rfl,_⟩:=(hA1.told mem_mid).int_inv
    obtain ⟨ent,f2,f3⟩:=slot_of e2 hsl
    have hm:ent∈S1:=List.mem_of_getElem? f2
    obtain ⟨u,x,G0⟩:=ent
    have f3':x=.dat m (.list ds):=f3
    subst f3'
    obtain ⟨v,hv',rd,_⟩:=hA1.ok _ (List.mem_append_left _ hm)
    obtain ⟨a',xs,G,rfl,ha',ra,eF,hz⟩:=rd.list_inv
    have ea:(vs S1)[i]? = some (some (.ref a')):=by rw [vs_at f2]; exact congrArg some hv'
    rw [e1,hv] at ea
    cases ea
    obtain ⟨x',F',x1,x2,_⟩:=ra.get p2
    obtain ⟨rfl,_⟩:=x2.int_inv
    refine ⟨a,xs,k,.int old,rfl,rfl,SqL.of ha',p1,x1,H0,Y,S1,T,δ1,_,e1,e2,hA1.drop,p3,fun y δ2 w2 F2 S2 H2 e3 e4 hA2 p4=>?_⟩
    unfold augIB at p4
    split at p4
    · rename_i m2 ds2 m3 b hsl2
      obtain ⟨q1,q2,q3,q4,q5⟩:=p4
      obtain ⟨rfl,_⟩:=(hA2.told mem_mid).int_inv
      obtain ⟨b',xs1,G1,g1,g2,g3,g4,g5⟩:=slot_write (es:=ds2.set k.toNat (.int (old+b))) e4 hT hA2.drop hsl2 q1 q2
      rw [e3,hv] at g1
      cases g1
      obtain rfl:=g3.imm q3
      obtain ⟨S3,h1,h2,h3⟩:=g5 (xs1.set k.toNat (.int (old+b))) [] (g3.setI (.int _)) (List.Sublist.refl _) (by rw [List.length_set]; exact g4)
      refine ⟨old,b,rfl,rfl,a,xs1,k,k.toNat,rfl,rfl,g2,?_,?_⟩
      · rw [g3.len]
        unfold ixN
        rw [if_pos p1,if_pos q4]
      rw [← e3,← h1]
      exact k1 ⟨_,_⟩ S3 _ h2 h3 q5
    · exact p4.elim
  · exact p1.elim
end
end DL
namespace Nd
open PySem PySem.Spec PySem.Calls PyProof.Rows PyProof.V L2
end Nd
namespace DL
open PySem PySem.Spec PyProof.Rows L2 Nd
def dSST (da:DA):DE:=fun δ P=>da δ fun xs δ1=>match xs with
  | [.dat _ (.tuple ds)]=>∃ ns:List Int,ds=ns.map PyData.int∧(∀ x∈ns,0≤x∧x<60)∧P (.dat .ow (.list ((sset ns).map PyData.int))) δ1
  | _=>False
section
variable {X:Cx} {p p2 pos pos2:Pos} {e:Expr} {da:DA}
theorem dp_ssT (hc:X.calm=true) (hg:Gl X "sorted") (hm:X.mg "sorted" = none) (hg2:Gl X "set") (hm2:X.mg "set" = none) (ha:PAD X [e] da) (he:starEach [e] X.env=[(false,eval e X.env)]:=by rfl) (he2:starEach [.Call (.Name "set" p2) [e] [] pos2] X.env=[(false,eval (.Call (.Name "set" p2) [e] [] pos2) X.env)]:=by rfl):PED X (.Call (.Name "sorted" p) [.Call (.Name "set" p2) [e] [] pos2] [] pos) (dSST da):=by
  refine PE.imp (pe_callB (call_sortedS hc) hg hm (by decide +kernel) (pa_cons (pe_callTy (call_set hc) hg2 hm2 (by decide +kernel) ha (by decide) (by decide) he rfl) pa_nil he2) (by decide) (by decide) he2 rfl) fun σ H Q h=>?_
  obtain ⟨H0,Y,S,T,δ,P,rfl,hS,hA,hd,k⟩:=h
  refine ⟨H0,Y,S,T,δ,_,rfl,hS,hA,hd,fun xs δ' As us S' H' e1 e2 ex eu hA' p=>?_⟩
  split at p
  · obtain ⟨v,F,rfl,hA2⟩:=one_arg eu hA' ex
    obtain ⟨ns,rfl,hb,pp⟩:=p
    obtain ⟨a,xs,rfl,ha,ra,hz⟩:=(hA2.told mem_mid).tup_inv
    obtain ⟨rfl,_⟩:=ra.ints_inv
    refine ⟨a,ns,U60,rfl,SqT.of ha,by decide,fun x hx=>mem_U60 (hb x hx).1 (hb x hx).2,fun q hq=>?_⟩
    refine ⟨q,ns,rfl,upd_same,fun r us nr nd pw mem=>?_⟩
    rw [sset_eq (strict_of nd pw) mem]
    have s1:=same_new hq (SetO X.w q ns)
    exact k _ δ' _ _ S' _ e1 e2 ((hA2.drop.grow s1 (Nat.le_refl _)).newI (RdFs.ints _) (immAll_ints _) (by rw [List.length_map]; exact sz (by have:=sset_len hb; omega)) nr .ow) pp
  · exact p.elim
end
end DL
namespace DL
open PySem PySem.Spec PyProof.Rows L2 Nd
def ifB (t u:DB) (D:DEnds) (b:Bool) (δ:DS):Prop:=match b with
  | true=>t D δ
  | false=>u D δ
def immB (x:DV) (δ:DS) (P:DV→DS→Prop):Prop:=match x with
  | .dat _ d=>imm d=true∧P (.dat .ow d) δ
  | _=>False
def frzB (i:Nat) (s:Option DV) (δ:DS) (P:DV→DS→Prop):Prop:=match s with
  | some (.dat .pk _)=>False
  | some (.dat _ d)=>P (.dat .sh d) ⟨δ.sl.set i (.dat .sh d),δ.n⟩
  | _=>False
def tupB (xs:List DV) (δ:DS) (P:DV→DS→Prop):Prop:=match datas xs with
  | some ds=>ds.length≤1000∧P (.dat (pkMd .sh xs) (.tuple ds)) δ
  | none=>False
def lstB (xs:List DV) (δ:DS) (P:DV→DS→Prop):Prop:=match datas xs with
  | some ds=>ds.length≤1000∧P (.dat (pkMd .tp xs) (.list ds)) δ
  | none=>False
def partB (x:DV) (δ:DS) (P:Option Int→DS→Prop):Prop:=match x with
  | .dat _ (.int i)=>P (some i) δ
  | _=>False
def ssB (xs:List DV) (δ:DS) (P:DV→DS→Prop):Prop:=match xs with
  | [.dat _ (.list ds)]=>∃ ns:List Int,ds=ns.map PyData.int∧(∀ x∈ns,0≤x∧x<60)∧P (.dat .ow (.list ((sset ns).map PyData.int))) δ
  | [.dat _ (.tuple ds)]=>∃ ns:List Int,ds=ns.map PyData.int∧(∀ x∈ns,0≤x∧x<60)∧P (.dat .ow (.list ((sset ns).map PyData.int))) δ
  | _=>False
def bB (x:DV) (δ:DS) (P:Bool→DS→Prop):Prop:=match x with
  | .dat _ (.bool b)=>P b δ
  | _=>False
def andB (du:DT) (b:Bool) (δ:DS) (P:Bool→DS→Prop):Prop:=match b with
  | true=>du δ P
  | false=>P false δ
def orB (du:DT) (b:Bool) (δ:DS) (P:Bool→DS→Prop):Prop:=match b with
  | true=>P true δ
  | false=>du δ P
def ifV (da db:DE) (b:Bool) (δ:DS) (P:DV→DS→Prop):Prop:=match b with
  | true=>da δ P
  | false=>db δ P
def lB (x:DV) (δ:DS) (P:Md→List PyData→DS→Prop):Prop:=match x with
  | .dat m (.list ds)=>P (mdIt m) ds δ
  | _=>False
def tpB (x:DV) (δ:DS) (P:Md→List PyData→DS→Prop):Prop:=match x with
  | .dat m (.tuple ds)=>P (mdIt m) ds δ
  | _=>False
def rng1B (xs:List DV) (δ:DS) (P:Md→List PyData→DS→Prop):Prop:=match xs with
  | [.dat _ (.int j)]=>-1000000≤j∧j≤1000000∧P .sh ((List.range j.toNat).map fun i:Nat=>.int i) δ
  | _=>False
def enumB (xs:List DV) (δ:DS) (P:Md→List PyData→DS→Prop):Prop:=match xs with
  | [.dat m (.list ds)]=>P (mdIt m) (ds.zipIdx.map fun p=>.tuple [.int p.2,p.1]) δ
  | _=>False
def enumTB (xs:List DV) (δ:DS) (P:Md→List PyData→DS→Prop):Prop:=match xs with
  | [.dat m (.tuple ds)]=>P (mdIt m) (ds.zipIdx.map fun p=>.tuple [.int p.2,p.1]) δ
  | _=>False
def forB (dg:DG) (db:DB) (D:DEnds) (m:Md) (ds:List PyData) (δ1:DS):Prop:=m=.sh∧∃ I:Nat→DS→Prop,I 0 δ1 ∧
  (∀ i d δ',ds[i]? = some d→I i δ'→dg (.dat .sh d) δ' fun δ2=>db { D with nx:=I (i+1),ct:=I (i+1),bk:=D.nx } δ2)∧∀ δ',I ds.length δ'→D.nx δ'
def compB (js:List Nat) (dc:DT) (de:DE) (P:DV→DS→Prop) (m:Md) (ds:List PyData) (δ1:DS):Prop:=∃ I:Nat→List PyData→Nat→Prop,I 0 [] δ1.n ∧
  (∀ i d acc n,ds[i]? = some d→I i acc n→compStep dc de ⟨.dat m d::frD δ1.sl js,n⟩ (fun e n'=>I (i+1) (acc++[e]) n') (fun n'=>I (i+1) acc n')) ∧
  ∀ acc n,I ds.length acc n→P (.dat .ow (.list acc)) ⟨δ1.sl,n⟩
def compB2 (js:List Nat) (dc:DT) (de:DE) (P:DV→DS→Prop) (m:Md) (ds:List PyData) (δ1:DS):Prop:=∃ I:Nat→List PyData→Nat→Prop,I 0 [] δ1.n ∧
  (∀ i d acc n,ds[i]? = some d→I i acc n→∃ d1 d2,d=.tuple [d1,d2]∧compStep dc de ⟨.dat m d1::.dat m d2::frD δ1.sl js,n⟩ (fun e n'=>I (i+1) (acc++[e]) n') (fun n'=>I (i+1) acc n')) ∧
  ∀ acc n,I ds.length acc n→P (.dat .ow (.list acc)) ⟨δ1.sl,n⟩
def yesB (yes:PyData→Nat→Prop) (y:DV) (δ:DS):Prop:=match y with
  | .dat _ e=>imm e=true∧yes e δ.n
  | _=>False
def stepB (de:DE) (yes:PyData→Nat→Prop) (no:Nat→Prop) (b:Bool) (δ:DS):Prop:=match b with
  | true=>de δ fun y δ3=>yesB yes y δ3
  | false=>no δ.n
def callB (pf:PF) (xs:List DV) (δ:DS) (P:DV→DS→Prop):Prop:=match datas xs with
  | some ds=>pf ds fun d=>P (.dat .ow d) δ
  | none=>False
def callBW (i:Nat) (df:DF) (xs:List DV) (δ:DS) (P:DV→DS→Prop):Prop:=match δ.sl[i]? with
  | some .drw=>match datas xs with
    | some ds=>df ds δ.n fun d n'=>P (.dat .ow d) ⟨δ.sl,n'⟩
    | none=>False
  | _=>False
def drawsB (xs:List DV) (δ:DS) (P:DV→DS→Prop):Prop:=match xs with
  | [.dat _ (.int _)]=>P .drw δ
  | _=>False
def appB (i:Nat) (y:DV) (δ:DS) (D:DEnds):Prop:=match δ.sl[i]?,y with
  | some (.dat m (.list ds)),.dat _ e=>own1 m=true∧npk δ.sl=true∧imm e=true∧ds.length<1000000∧D.nx ⟨δ.sl.set i (.dat m (.list (ds++[e]))),δ.n⟩
  | _,_=>False
def ssTB (xs:List DV) (δ:DS) (P:DV→DS→Prop):Prop:=match xs with
  | [.dat _ (.tuple ds)]=>∃ ns:List Int,ds=ns.map PyData.int∧(∀ x∈ns,0≤x∧x<60)∧P (.dat .ow (.list ((sset ns).map PyData.int))) δ
  | _=>False
def zipDB (xs:List DV) (δ:DS) (P:Md→List PyData→DS→Prop):Prop:=match xs with
  | [.dat m (.dict X),.dat m' (.list es)]=>∃ ks,X=dkv ks∧P (mdZip m m') ((ks.zip es).map fun p=>.tuple [wordD p.1.1,p.2]) δ
  | _=>False
def dcB (dk dv:DE) (yes:List Int→PyData→Nat→Prop) (no:Nat→Prop) (c:Bool) (δ:DS):Prop:=match c with
  | true=>dk δ fun y δ3=>dv δ3 fun z δ4=>dcYes yes y z δ4
  | false=>no δ.n
def dcompB2 (js:List Nat) (dc:DT) (dk dv:DE) (P:DV→DS→Prop) (m:Md) (ds:List PyData) (δ1:DS):Prop:=ds.length≤1000000∧∃ I:Nat→List (List Int×PyData)→Nat→Prop,I 0 [] δ1.n ∧
  (∀ i d acc n,ds[i]? = some d→I i acc n→∃ d1 d2,d=.tuple [d1,d2]∧dcStep dc dk dv ⟨.dat m d1::.dat m d2::frD δ1.sl js,n⟩ (fun w e n'=>I (i+1) (putD acc w e) n') (fun n'=>I (i+1) acc n')) ∧
  ∀ acc n,I ds.length acc n→P (.dat .ow (.dict (dkv acc))) ⟨δ1.sl,n⟩
theorem e_seq {t u:DB} {D:DEnds} {δ:DS}:dSeq t u D δ=(t { D with nx:=fun δ'=>u D δ' } δ):=rfl
theorem e_skip {D:DEnds} {δ:DS}:dSkip D δ=(D.nx δ):=rfl
theorem e_ret {de:DE} {D:DEnds} {δ:DS}:dRet de D δ=(de δ D.rt):=rfl
theorem e_if {dt:DT} {t u:DB} {D:DEnds} {δ:DS}:dIf dt t u D δ=(dt δ (ifB t u D)):=rfl
theorem e_asg {de:DE} {dg:DG} {D:DEnds} {δ:DS}:dAsg de dg D δ=(de δ fun x δ'=>dg x δ' D.nx):=rfl
theorem e_name {i:Nat} {m:Md} {d:PyData} {δ:DS} {Q:DS→Prop}:dgName i (.dat .ow d) δ Q=(Q ⟨δ.sl.set i (.dat .sh d),δ.n⟩):=rfl
theorem e_name2 {i:Nat} {m:Md} {d:PyData} {δ:DS} {Q:DS→Prop}:dgName i (.dat .sh d) δ Q=(Q ⟨δ.sl.set i (.dat .sh d),δ.n⟩):=rfl
theorem e_name4 {i:Nat} {δ:DS} {Q:DS→Prop}:dgName i .drw δ Q=(Q ⟨δ.sl.set i .drw,δ.n⟩):=rfl
theorem e_own {i:Nat} {d:PyData} {δ:DS} {Q:DS→Prop}:dgOwn i (.dat .ow d) δ Q=(Q ⟨δ.sl.set i (.dat .ow d),δ.n⟩):=rfl
theorem e_nF {i:Nat} {x:DV} {δ:DS} {Q:DS→Prop}:dgN false i x δ Q=(dgName i x δ Q):=rfl
theorem e_op {rd:D2} {da db:DE} {δ:DS} {P:DV→DS→Prop}:dOp rd da db δ P=(da δ fun x δ1=>db δ1 fun y δ2=>rd x y fun z=>P z δ2):=rfl
theorem e_var {i:Nat} {δ:DS} {P:DV→DS→Prop}:dVar i δ P=(match δ.sl[i]? with | some (.dat m d)=>P (.dat (pkOf m) d) δ | _=>False):=rfl
theorem e_c {d:PyData} {δ:DS} {P:DV→DS→Prop}:dC d δ P=(P (.dat .ow d) δ):=rfl
theorem e_imm {de:DE} {δ:DS} {P:DV→DS→Prop}:dImm de δ P=(de δ fun x δ'=>immB x δ' P):=rfl
theorem e_immB {m:Md} {d:PyData} {δ:DS} {P:DV→DS→Prop}:immB (.dat m d) δ P=(imm d=true∧P (.dat .ow d) δ):=rfl
theorem e_take {i:Nat} {δ:DS} {P:DV→DS→Prop}:dTake i δ P=(match δ.sl[i]? with | some (.dat m d)=>P (.dat m d) ⟨δ.sl.set i .un,δ.n⟩ | _=>False):=rfl
theorem e_I {C:Int→Int→Prop} {g:Int→Int→PyData} {i j:Int} {m m':Md} {P:DV→Prop}:rdI C g (.dat m (.int i)) (.dat m' (.int j)) P=(C i j∧P (.dat .ow (g i j))):=rfl
theorem e_I0 {g:Int→Int→PyData} {i j:Int} {m m':Md} {P:DV→Prop}:rdI0 g (.dat m (.int i)) (.dat m' (.int j)) P=(P (.dat .ow (g i j))):=rfl
theorem e_eqF {d e:PyData} {m m':Md} {P:DV→Prop}:rdEq false (.dat m d) (.dat m' e) P=(d.depth≤60∧e.depth≤60∧P (.dat .ow (.bool (eqD d e)))):=rfl
theorem e_eqT {d e:PyData} {m m':Md} {P:DV→Prop}:rdEq true (.dat m d) (.dat m' e) P=(d.depth≤60∧e.depth≤60∧P (.dat .ow (.bool (!eqD d e)))):=rfl
theorem e_inFt_w1 {nes:List Int} {d:PyData} {es:List PyData} {m m':Md} {P:DV→Prop}:rdIn false (.dat m d) (.dat m' (wordD nes)) P=(PyData.depthAll (nes.map PyData.int)≤60∧d.depth≤60∧P (.dat .ow (.bool ((nes.map PyData.int).any fun e=>eqD e d)))):=rfl
theorem e_inTt_w1 {nes:List Int} {d:PyData} {es:List PyData} {m m':Md} {P:DV→Prop}:rdIn true (.dat m d) (.dat m' (wordD nes)) P=(PyData.depthAll (nes.map PyData.int)≤60∧d.depth≤60∧P (.dat .ow (.bool (!((nes.map PyData.int).any fun e=>eqD e d))))):=rfl
theorem e_ixl {ds:List PyData} {i:Int} {m m':Md} {P:DV→Prop}:rdIx (.dat m (.list ds)) (.dat m' (.int i)) P=(∃ d,atI ds i=some d∧P (.dat (mdIn m) d)):=rfl
theorem e_cat {ds es:List PyData} {m m':Md} {P:DV→Prop}:rdCat (.dat m (.list ds)) (.dat m' (.list es)) P=(immAll ds=true∧immAll es=true∧ds.length+es.length≤1000000∧P (.dat .ow (.list (ds++es)))):=rfl
theorem e_catT_w1 {nds:List Int} {ds es:List PyData} {m m':Md} {P:DV→Prop}:rdCatT (.dat m (wordD nds)) (.dat m' (.tuple es)) P=(immAll (nds.map PyData.int)=true∧immAll es=true∧(nds.map PyData.int).length+es.length≤1000000∧P (.dat .ow (.tuple ((nds.map PyData.int)++es)))):=rfl
theorem e_rep {ds:List PyData} {k:Int} {m m':Md} {P:DV→Prop}:rdRep (.dat m (.list ds)) (.dat m' (.int k)) P=(immAll ds=true ∧ -1000000≤k∧k≤1000000∧ds.length * k.toNat≤1000000∧P (.dat .ow (.list (List.replicate k.toNat ds).flatten))):=rfl
theorem e_nlT {m:Md} {ds:List PyData} {P:DV→Prop}:nlist true m ds P=(immAll ds=true∧P (.dat .ow (.list ds))):=rfl
theorem e_ntT {m:Md} {ds:List PyData} {P:DV→Prop}:ntup true m ds P=(immAll ds=true∧P (.dat .ow (.tuple ds))):=rfl
theorem e_pkOfpk  : pkOf .pk=(Md.pk):=rfl
theorem e_pkOfsh  : pkOf .sh=(Md.sh):=rfl
theorem e_pkOfow  : pkOf .ow=(Md.pk):=rfl
theorem e_mdInpk  : mdIn .pk=(Md.pk):=rfl
theorem e_mdInsh  : mdIn .sh=(Md.sh):=rfl
theorem e_mdInow  : mdIn .ow=(Md.ow):=rfl
theorem e_mdItpk  : mdIt .pk=(Md.pk):=rfl
theorem e_mdItsh  : mdIt .sh=(Md.sh):=rfl
theorem e_mdItow  : mdIt .ow=(Md.sh):=rfl
theorem e_nil {δ:DS} {P:List DV→DS→Prop}:dNil δ P=(P [] δ):=rfl
theorem e_cons {de:DE} {da:DA} {δ:DS} {P:List DV→DS→Prop}:dCons de da δ P=(de δ fun x δ1=>da δ1 fun xs δ2=>P (x::xs) δ2):=rfl
theorem e_tup {da:DA} {δ:DS} {P:DV→DS→Prop}:dTup da δ P=(da δ fun xs δ'=>tupB xs δ' P):=rfl
theorem e_lst {da:DA} {δ:DS} {P:DV→DS→Prop}:dLst da δ P=(da δ fun xs δ'=>lstB xs δ' P):=rfl
theorem e_noPart {δ:DS} {P:Option Int→DS→Prop}:dNoPart δ P=(P none δ):=rfl
theorem e_part {de:DE} {δ:DS} {P:Option Int→DS→Prop}:dPart de δ P=(de δ fun x δ'=>partB x δ' P):=rfl
theorem e_partB {m:Md} {i:Int} {δ:DS} {P:Option Int→DS→Prop}:partB (.dat m (.int i)) δ P=(P (some i) δ):=rfl
theorem e_cb {rd:DC} {da:DA} {δ:DS} {P:DV→DS→Prop}:dCB rd da δ P=(da δ fun xs δ1=>rd xs fun z=>P z δ1):=rfl
theorem e_lenl {ds:List PyData} {m m':Md} {P:DV→Prop}:rdLen [.dat m (.list ds)] P=(P (.dat .ow (.int ds.length))):=rfl
theorem e_listl {i:Bool} {ds:List PyData} {m m':Md} {P:DV→Prop}:rdList i [.dat m (.list ds)] P=(nlist i m ds P):=rfl
theorem e_tuplel {i:Bool} {ds:List PyData} {m m':Md} {P:DV→Prop}:rdTuple i [.dat m (.list ds)] P=(ntup i m ds P):=rfl
theorem e_intb {i:Bool} {m m':Md} {P:DV→Prop}:rdInt [.dat m (.bool i)] P=(P (.dat .ow (.int (if i=true then 1 else 0)))):=rfl
theorem e_isi {d:PyData} {n:String} {m m':Md} {P:DV→Prop}:rdIsi [.dat m d,.val (.ty n)] P=((n = "int" ∨ n = "bool" ∨ n = "str" ∨ n = "list" ∨ n = "tuple")∧P (.dat .ow (.bool (isiD d n)))):=rfl
theorem e_v {v:V} {δ:DS} {P:DV→DS→Prop}:dV v δ P=(P (.val v) δ):=rfl
theorem e_b {de:DE} {δ:DS} {P:Bool→DS→Prop}:dB de δ P=(de δ fun x δ'=>bB x δ' P):=rfl
theorem e_bB {m:Md} {b:Bool} {δ:DS} {P:Bool→DS→Prop}:bB (.dat m (.bool b)) δ P=(P b δ):=rfl
theorem e_notT {dt:DT} {δ:DS} {P:Bool→DS→Prop}:dNotT dt δ P=(dt δ fun b δ'=>P (!b) δ'):=rfl
theorem e_andT {dt du:DT} {δ:DS} {P:Bool→DS→Prop}:dAndT dt du δ P=(dt δ fun b δ'=>andB du b δ' P):=rfl
theorem e_orT {dt du:DT} {δ:DS} {P:Bool→DS→Prop}:dOrT dt du δ P=(dt δ fun b δ'=>orB du b δ' P):=rfl
theorem e_orTf {du:DT} {δ:DS} {P:Bool→DS→Prop}:orB du false δ P=(du δ P):=rfl
theorem e_ifE {dt:DT} {da db:DE} {δ:DS} {P:DV→DS→Prop}:dIfE dt da db δ P=(dt δ fun b δ'=>ifV da db b δ' P):=rfl
theorem e_dL {de:DE} {δ:DS} {P:Md→List PyData→DS→Prop}:dL de δ P=(de δ fun x δ'=>lB x δ' P):=rfl
theorem e_dTp {de:DE} {δ:DS} {P:Md→List PyData→DS→Prop}:dTp de δ P=(de δ fun x δ'=>tpB x δ' P):=rfl
theorem e_lB {m:Md} {ds:List PyData} {δ:DS} {P:Md→List PyData→DS→Prop}:lB (.dat m (.list ds)) δ P=(P (mdIt m) ds δ):=rfl
theorem e_tpB_w1 {nds:List Int} {m:Md} {ds:List PyData} {δ:DS} {P:Md→List PyData→DS→Prop}:tpB (.dat m (wordD nds)) δ P=(P (mdIt m) (nds.map PyData.int) δ):=rfl
theorem e_range1 {da:DA} {δ:DS} {P:Md→List PyData→DS→Prop}:diRange1 da δ P=(da δ fun xs δ'=>rng1B xs δ' P):=rfl
theorem e_rng1B {m:Md} {j:Int} {δ:DS} {P:Md→List PyData→DS→Prop}:rng1B [.dat m (.int j)] δ P=(-1000000≤j∧j≤1000000∧P .sh ((List.range j.toNat).map fun i:Nat=>.int i) δ):=rfl
theorem e_enum {da:DA} {δ:DS} {P:Md→List PyData→DS→Prop}:diEnum da δ P=(da δ fun xs δ'=>enumB xs δ' P):=rfl
theorem e_enumB {m:Md} {ds:List PyData} {δ:DS} {P:Md→List PyData→DS→Prop}:enumB [.dat m (.list ds)] δ P=(P (mdIt m) (ds.zipIdx.map fun p=>.tuple [.int p.2,p.1]) δ):=rfl
theorem e_for {di:DI} {dg:DG} {db:DB} {D:DEnds} {δ:DS}:dFor di dg db D δ=(di δ (forB dg db D)):=rfl
theorem e_comp {di:DI} {js:List Nat} {dc:DT} {de:DE} {δ:DS} {P:DV→DS→Prop}:dComp di js dc de δ P=(di δ (compB js dc de P)):=rfl
theorem e_comp2 {di:DI} {js:List Nat} {dc:DT} {de:DE} {δ:DS} {P:DV→DS→Prop}:dComp2 di js dc de δ P=(di δ (compB2 js dc de P)):=rfl
theorem e_noTest {δ:DS} {P:Bool→DS→Prop}:dNoTest δ P=(P true δ):=rfl
theorem e_step {dc:DT} {de:DE} {δ:DS} {yes:PyData→Nat→Prop} {no:Nat→Prop}:compStep dc de δ yes no=(dc δ fun b δ2=>stepB de yes no b δ2):=rfl
theorem e_stepT {de:DE} {δ:DS} {yes:PyData→Nat→Prop} {no:Nat→Prop}:stepB de yes no true δ=(de δ fun y δ3=>yesB yes y δ3):=rfl
theorem e_stepF {de:DE} {δ:DS} {yes:PyData→Nat→Prop} {no:Nat→Prop}:stepB de yes no false δ=(no δ.n):=rfl
theorem e_yesB {m:Md} {e:PyData} {δ:DS} {yes:PyData→Nat→Prop}:yesB yes (.dat m e) δ=(imm e=true∧yes e δ.n):=rfl
theorem e_call {pf:PF} {da:DA} {δ:DS} {P:DV→DS→Prop}:dCall pf da δ P=(da δ fun xs δ1=>callB pf xs δ1 P):=rfl
theorem e_callW {i:Nat} {df:DF} {da:DA} {δ:DS} {P:DV→DS→Prop}:dCallW i df da δ P=(match δ.sl[i]? with | some .drw=>da δ fun xs δ1=>callBW i df xs δ1 P | _=>False):=rfl
theorem e_draws {da:DA} {δ:DS} {P:DV→DS→Prop}:dDraws da δ P=(da δ fun xs δ1=>drawsB xs δ1 P):=rfl
theorem e_drawsB {m:Md} {i:Int} {δ:DS} {P:DV→DS→Prop}:drawsB [.dat m (.int i)] δ P=(P .drw δ):=rfl
theorem e_append {i:Nat} {de:DE} {D:DEnds} {δ:DS}:dAppend i de D δ=(match δ.sl[i]? with | some (.dat _ (.list _))=>de δ fun y δ1=>appB i y δ1 D | _=>False):=rfl
theorem e_scrSl {i:Nat} {dl dh:DO} {δ:DS} {P:DV→DS→Prop}:dScrSl i dl dh δ P=(match δ.sl[i]? with | some (.scr ns)=>dl δ fun l δ2=>dh δ2 fun h δ3=>P (.dat .ow (.list ((cutG ns l h).map PyData.int))) δ3 | _=>False):=rfl
theorem e_sortW {m:Md} {ds:List PyData} {P:DV→Prop}:rdSortW [.dat m (.list ds)] P=(∃ ws:List (List Int),ds=ws.map wordD∧∀ L:List (List Int),L.Perm ws→L.Pairwise (fun x y=>HT.lexLt y x=false)→P (.dat .ow (.list (L.map wordD)))):=rfl
theorem e_zipD {da:DA} {δ:DS} {P:Md→List PyData→DS→Prop}:diZipD da δ P=(da δ fun xs δ'=>zipDB xs δ' P):=rfl
theorem e_zipDB {m m':Md} {X:List (PyData×PyData)} {es:List PyData} {δ:DS} {P:Md→List PyData→DS→Prop}:zipDB [.dat m (.dict X),.dat m' (.list es)] δ P=(∃ ks,X=dkv ks∧P (mdZip m m') ((ks.zip es).map fun p=>.tuple [wordD p.1.1,p.2]) δ):=rfl
theorem e_dcomp2 {di:DI} {js:List Nat} {dc:DT} {dk dv:DE} {δ:DS} {P:DV→DS→Prop}:dDComp2 di js dc dk dv δ P=(di δ (dcompB2 js dc dk dv P)):=rfl
theorem e_dcStep {dc:DT} {dk dv:DE} {δ:DS} {yes:List Int→PyData→Nat→Prop} {no:Nat→Prop}:dcStep dc dk dv δ yes no=(dc δ fun c δ2=>dcB dk dv yes no c δ2):=rfl
theorem e_dcBT {dk dv:DE} {δ:DS} {yes:List Int→PyData→Nat→Prop} {no:Nat→Prop}:dcB dk dv yes no true δ=(dk δ fun y δ3=>dv δ3 fun z δ4=>dcYes yes y z δ4):=rfl
theorem e_dcYes {m m':Md} {k e:PyData} {δ:DS} {yes:List Int→PyData→Nat→Prop}:dcYes yes (.dat m k) (.dat m' e) δ=(∃ w,k=wordD w∧imm e=true∧yes w e δ.n):=rfl
theorem e_augX {i:Nat} {dk de:DE} {D:DEnds} {δ:DS}:dAugI i dk de D δ=(isLst δ.sl[i]? = true∧dk δ fun z δ1=>augIK i de z δ1 D):=rfl
theorem e_ssT {da:DA} {δ:DS} {P:DV→DS→Prop}:dSST da δ P=(da δ fun xs δ1=>ssTB xs δ1 P):=rfl
theorem e_ssTt {m:Md} {ds:List PyData} {δ:DS} {P:DV→DS→Prop}:ssTB [.dat m (.tuple ds)] δ P=(∃ ns:List Int,ds=ns.map PyData.int∧(∀ x∈ns,0≤x∧x<60)∧P (.dat .ow (.list ((sset ns).map PyData.int))) δ):=rfl
section
variable {t u:DB} {D:DEnds} {δ δ1:DS}
theorem forI {α:Type} {dg:DG} {db:DB} {ds:List PyData} {l:List α} {g:α→PyData} (e:ds=l.map g) (I:Nat→DS→Prop) (h0:I 0 δ1) (hs:∀ i a δ',l[i]? = some a→I i δ'→dg (.dat .sh (g a)) δ' fun δ2=>db { D with nx:=I (i+1),ct:=I (i+1),bk:=D.nx } δ2) (hf:∀ δ',I l.length δ'→D.nx δ'):forB dg db D .sh ds δ1:=by
  subst e
  refine ⟨rfl,I,h0,fun i d δ' hd hI=>?_,fun δ' h=>hf δ' (by rw [List.length_map] at h; exact h)⟩
  rw [List.getElem?_map] at hd
  cases q:l[i]? with
  | none=>rw [q] at hd; cases hd
  | some a=>rw [q] at hd; cases hd; exact hs i a δ' q hI
end
section
variable {js:List Nat} {dc:DT} {de:DE} {P:DV→DS→Prop} {m:Md} {ds:List PyData} {δ1:DS} {α:Type}
theorem compI {l:List α} {g:α→PyData} (e:ds=l.map g) (p:α→Bool) (f:α→PyData) (h:∀ a∈l,∀ (yes:PyData→Nat→Prop) (no:Nat→Prop),(p a=true→yes (f a) δ1.n)→(p a=false→no δ1.n)→compStep dc de ⟨.dat m (g a)::frD δ1.sl js,δ1.n⟩ yes no) (q:P (.dat .ow (.list ((l.filter p).map f))) δ1):compB js dc de P m ds δ1:=by
  subst e
  refine ⟨fun i acc n=>n=δ1.n∧acc=((l.take i).filter p).map f,⟨rfl,by simp⟩,fun i d acc n hd ⟨hn,ha⟩=>?_,fun acc n ⟨hn,ha⟩=>?_⟩
  · subst hn ha
    rw [List.getElem?_map] at hd
    cases q:l[i]? with
    | none=>rw [q] at hd; cases hd
    | some a =>
      rw [q] at hd
      cases hd
      refine h a (List.mem_of_getElem? q) _ _ (fun hp=>⟨rfl,?_⟩) (fun hp=>⟨rfl,?_⟩)
      · rw [take_more q,List.filter_append,List.map_append]; simp [hp]
      · rw [take_more q,List.filter_append,List.map_append]; simp [hp]
  · subst hn ha
    rw [List.length_map,List.take_length]
    exact q
theorem compM {l:List α} {g:α→PyData} (e:ds=l.map g) (f:α→PyData) (h:∀ a∈l,∀ (yes:PyData→Nat→Prop) (no:Nat→Prop),yes (f a) δ1.n→compStep dc de ⟨.dat m (g a)::frD δ1.sl js,δ1.n⟩ yes no) (q:P (.dat .ow (.list (l.map f))) δ1):compB js dc de P m ds δ1:=by
  refine compI e (fun _=>true) f (fun a ha yes no hy _=>h a ha yes no (hy rfl)) ?_
  rw [List.filter_eq_self.mpr fun _ _=>rfl]
  exact q
theorem compI2 {l:List α} {g1 g2:α→PyData} (e:ds=l.map fun a=>.tuple [g1 a,g2 a]) (p:α→Bool) (f:α→PyData) (h:∀ a∈l,∀ (yes:PyData→Nat→Prop) (no:Nat→Prop),(p a=true→yes (f a) δ1.n)→(p a=false→no δ1.n)→compStep dc de ⟨.dat m (g1 a)::.dat m (g2 a)::frD δ1.sl js,δ1.n⟩ yes no) (q:P (.dat .ow (.list ((l.filter p).map f))) δ1):compB2 js dc de P m ds δ1:=by
  subst e
  refine ⟨fun i acc n=>n=δ1.n∧acc=((l.take i).filter p).map f,⟨rfl,by simp⟩,fun i d acc n hd ⟨hn,ha⟩=>?_,fun acc n ⟨hn,ha⟩=>?_⟩
  · subst hn ha
    rw [List.getElem?_map] at hd
    cases q:l[i]? with
    | none=>rw [q] at hd; cases hd
    | some a =>
      rw [q] at hd
      cases hd
      refine ⟨_,_,rfl,h a (List.mem_of_getElem? q) _ _ (fun hp=>⟨rfl,?_⟩) (fun hp=>⟨rfl,?_⟩)⟩
      · rw [take_more q,List.filter_append,List.map_append]; simp [hp]
      · rw [take_more q,List.filter_append,List.map_append]; simp [hp]
  · subst hn ha
    rw [List.length_map,List.take_length]
    exact q
end
theorem ifB_2 {t u:DB} {D:DEnds} {b:Bool} {δ:DS} (h1:b=true→t D δ) (h2:b=false→u D δ):ifB t u D b δ:=by
  cases b with
  | true=>exact h1 rfl
  | false=>exact h2 rfl
theorem ifV_2 {da db:DE} {b:Bool} {δ:DS} {P:DV→DS→Prop} (h1:b=true→da δ P) (h2:b=false→db δ P):ifV da db b δ P:=by
  cases b with
  | true=>exact h1 rfl
  | false=>exact h2 rfl
theorem andB_2 {du:DT} {b:Bool} {δ:DS} {P:Bool→DS→Prop} (h1:b=true→du δ P) (h2:b=false→P false δ):andB du b δ P:=by
  cases b with
  | true=>exact h1 rfl
  | false=>exact h2 rfl
theorem stepB_2 {de:DE} {yes:PyData→Nat→Prop} {no:Nat→Prop} {b:Bool} {δ:DS} (h1:b=true→de δ fun y δ3=>yesB yes y δ3) (h2:b=false→no δ.n):stepB de yes no b δ:=by
  cases b with
  | true=>exact h1 rfl
  | false=>exact h2 rfl
class Im (d:PyData):Prop where
  h:imm d=true
class ImA (ds:List PyData):Prop where
  h:immAll ds=true
theorem im {d:PyData} [h:Im d]:imm d=true:=h.h
instance {i:Int}:Im (.int i):=⟨by simp [imm]⟩
instance {i:Bool}:Im (.bool i):=⟨by simp [imm]⟩
instance {i:Str}:Im (.str i):=⟨by simp [imm]⟩
instance:Im .none:=⟨by simp [imm]⟩
instance {ds:List PyData} [h:ImA ds]:Im (.tuple ds):=⟨by rw [imm]; exact h.h⟩
instance {ns:List Int}:Im (wordD ns):=⟨imm_word ns⟩
instance:ImA []:=⟨by simp [immAll]⟩
instance {d:PyData} {ds:List PyData} [h:Im d] [t:ImA ds]:ImA (d::ds):=⟨by rw [immAll,h.h,t.h]; rfl⟩
instance {α:Type} {f:α→PyData} {l:List α} [h:∀ a,Im (f a)]:ImA (l.map f):=⟨immAll_map (fun a=>(h a).h) l⟩
instance {a b:List PyData} [h:ImA a] [k:ImA b]:ImA (a++b):=⟨by rw [immAll_app,h.h,k.h]; rfl⟩
class Dp (d:PyData) (k:outParam Nat):Prop where
  h:d.depth≤k
class DpA (ds:List PyData) (k:outParam Nat):Prop where
  h:PyData.depthAll ds≤k
theorem dp {d:PyData} {k:Nat} [h:Dp d k] (hk:k≤60:=by decide):d.depth≤60:=Nat.le_trans h.h hk
instance {i:Int}:Dp (.int i) 0:=⟨by simp [PyData.depth]⟩
instance {i:Bool}:Dp (.bool i) 0:=⟨by simp [PyData.depth]⟩
instance {i:Str}:Dp (.str i) 0:=⟨by simp [PyData.depth]⟩
instance:Dp .none 0:=⟨by simp [PyData.depth]⟩
instance {ds:List PyData} {k:Nat} [h:DpA ds k]:Dp (.tuple ds) (k+1):=⟨by have:=h.h; simp only [PyData.depth]; omega⟩
instance {ds:List PyData} {k:Nat} [h:DpA ds k]:Dp (.list ds) (k+1):=⟨by have:=h.h; simp only [PyData.depth]; omega⟩
instance {ns:List Int}:Dp (wordD ns) 1:=⟨depth_word ns⟩
instance:DpA [] 0:=⟨by simp [PyData.depthAll]⟩
instance {d:PyData} {ds:List PyData} {k j:Nat} [h:Dp d k] [t:DpA ds j]:DpA (d::ds) (k+j):=⟨by have:=h.h; have:=t.h; simp only [PyData.depthAll]; omega⟩
instance {α:Type} {f:α→PyData} {l:List α} {k:Nat} [h:∀ a,Dp (f a) k]:DpA (l.map f) k:=⟨depthAll_le fun x hx=>by
  obtain ⟨a,_,rfl⟩:=List.mem_map.mp hx
  exact (h a).h⟩
theorem depthAll_app {a b:List PyData}:PyData.depthAll (a++b)≤PyData.depthAll a+PyData.depthAll b:=by
  induction a with
  | nil=>simp [PyData.depthAll]
  | cons x a ih=>simp only [List.cons_append,PyData.depthAll]; omega
instance {a b:List PyData} {k j:Nat} [h:DpA a k] [t:DpA b j]:DpA (a++b) (k+j):=⟨by have:=h.h; have:=t.h; have:=depthAll_app (a:=a) (b:=b); omega⟩
theorem eqD_list (a b:List PyData):eqD (.list a) (.list b)=eqDs a b:=by simp [eqD]
theorem eqD_tup (a b:List PyData):eqD (.tuple a) (.tuple b)=eqDs a b:=by simp [eqD]
theorem eqDs_map {α:Type} [DecidableEq α] {f:α→PyData} (h:∀ a b,eqD (f a) (f b)=decide (a=b)):∀ l m:List α,eqDs (l.map f) (m.map f)=decide (l=m)
  | [],[]=>by simp [eqDs]
  | [],_::_=>by simp [eqDs]
  | _::_,[]=>by simp [eqDs]
  | a::l,b::m=>by simp [eqDs,h,eqDs_map h l m]
theorem eqD_intd (i j:Int):eqD (.int i) (.int j)=decide (i=j):=by simp [eqD]; rfl
theorem eqD_word (a b:List Int):eqD (wordD a) (wordD b)=decide (a=b):=by
  unfold wordD
  rw [eqD_tup,eqDs_map eqD_intd]
def wordsD (ws:List (List Int)):PyData:=.list (ws.map wordD)
instance {ws:List (List Int)}:Dp (wordsD ws) 2:=⟨(inferInstance:Dp (.list (ws.map wordD)) 2).h⟩
theorem eqD_words (a b:List (List Int)):eqD (wordsD a) (wordsD b)=decide (a=b):=by
  unfold wordsD
  rw [eqD_list,eqDs_map eqD_word]
def intsD (ns:List Int):PyData:=.list (ns.map PyData.int)
instance {ns:List Int}:Dp (intsD ns) 1:=⟨(inferInstance:Dp (.list (ns.map PyData.int)) 1).h⟩
theorem eqD_ints (a b:List Int):eqD (intsD a) (intsD b)=decide (a=b):=by
  unfold intsD
  rw [eqD_list,eqDs_map eqD_intd]
theorem any_int (ns:List Int) (i:Int):((ns.map PyData.int).any fun e=>eqD e (.int i))=decide (i∈ns):=by
  rw [List.any_map]
  induction ns with
  | nil=>rfl
  | cons n ns ih =>
    rw [List.any_cons,ih]
    simp only [Function.comp,eqD_intd,List.mem_cons]
    by_cases h:n=i
    · subst h; simp
    · have : ¬ i=n:=fun z=>h z.symm
      simp [h,this]
theorem zip_map {α β:Type} (f:α→β) (l:List α):(l.map f).zipIdx=l.zipIdx.map fun p=>(f p.1,p.2):=by
  rw [List.zipIdx_map]
  rfl
theorem atI_map {α β:Type} (f:α→β) (l:List α) (i:Int):atI (l.map f) i=(atI l i).map f:=by
  unfold atI
  rw [List.length_map]
  cases ixN l.length i with
  | none=>rfl
  | some j=>simp
theorem atI_some {α:Type} {l:List α} {i:Int} (h0:0≤i) (h1:i<l.length):∃ a,l[i.toNat]? = some a∧atI l i=some a∧a∈l:=by
  have hk:i.toNat<l.length:=by omega
  refine ⟨l[i.toNat],by simp [hk],?_,List.getElem_mem hk⟩
  have q:atI l ((i.toNat:Nat):Int)=some l[i.toNat]:=atI_nat (by simp [hk])
  rwa [show ((i.toNat:Nat):Int)=i by omega] at q
theorem im_e {d:PyData} [h:Im d]:(imm d=true)=True:=eq_true h.h
theorem ima_e {ds:List PyData} [h:ImA ds]:(immAll ds=true)=True:=eq_true h.h
theorem dp_e {d:PyData} {k:Nat} [h:Dp d k] (hk:k≤60):(d.depth≤60)=True:=eq_true (Nat.le_trans h.h hk)
theorem dpa_e {ds:List PyData} {k:Nat} [h:DpA ds k] (hk:k≤60):(PyData.depthAll ds≤60)=True:=eq_true (Nat.le_trans h.h hk)
theorem eqD_lw (a b:List (List Int)):eqD (.list (a.map wordD)) (.list (b.map wordD))=decide (a=b):=eqD_words a b
theorem eqD_li (a b:List Int):eqD (.list (a.map PyData.int)) (.list (b.map PyData.int))=decide (a=b):=eqD_ints a b
theorem eqD_l0 (a:List PyData):eqD (.list a) (.list [])=a.isEmpty:=eqD_nil a
theorem ow_e {d:PyData} {R:PyData→Prop}:(∃ e,DV.dat .ow d=.dat .ow e∧R e)=R d:=by
  apply propext
  constructor
  · rintro ⟨e,h,r⟩; cases h; exact r
  · intro r; exact ⟨d,rfl,r⟩
theorem tt_e {m:Md} {b:Bool}:(∃ m',DV.dat m (.bool b)=.dat m' (.bool true))=(b=true):=by
  apply propext
  constructor
  · rintro ⟨e,h⟩; cases h; rfl
  · intro r; subst r; exact ⟨m,rfl⟩
theorem cdiv_e {i j:Int}:CDiv i j=(0<j∧j<1073741824):=rfl
theorem ds_eq {sl sl':List DV} {n n':Nat} (h:sl=sl') (h':n=n'):(⟨sl,n⟩ : DS)=⟨sl',n'⟩:=by subst h h'; rfl
theorem range_at {j i a:Nat} (h:(List.range j)[i]? = some a):a=i∧i<j:=by
  obtain ⟨h1,h2⟩:=List.getElem?_eq_some_iff.mp h
  rw [List.length_range] at h1
  rw [List.getElem_range] at h2
  exact ⟨h2.symm,h1⟩
def NP (v:DV):Prop:=∀ l,npk (v::l)=npk l
theorem np_un:NP .un:=fun _=>rfl
theorem np_sh {d:PyData}:NP (.dat .sh d):=fun _=>rfl
theorem np_ow {d:PyData}:NP (.dat .ow d):=fun _=>rfl
theorem np_drw:NP .drw:=fun _=>rfl
theorem joinX {t u:DB} {D:DEnds} (X:(Bool→DS→Prop)→Prop) (J:DS→Prop) (h:∀ N:DS→Prop,(∀ δ',J δ'→N δ')→X (ifB t u { D with nx:=N })) (k:∀ δ',J δ'→D.nx δ'):X (ifB t u D):=h D.nx k
theorem pick2 {α:Type} (x y:α) (b:Bool):atI [x,y] (if b=true then 1 else 0)=some (if b=true then y else x):=by cases b <;> rfl
theorem fold_w (w:List Int):PyData.tuple (List.map PyData.int w)=wordD w:=rfl
theorem np_nil:∀ x∈([]:List DV),NP x:=fun _ z=>nomatch z
theorem isi_li (ds:List PyData):isiD (.list ds) "list" = true:=by simp [isiD,tyD]
theorem isi_ib (i:Int):isiD (.int i) "bool" = false:=by simp [isiD,tyD]
theorem atI_words {ws:List (List Int)} {i:Int} (h0:0≤i) (h1:i<ws.length):∃ w∈ws,atI (ws.map wordD) i=some (wordD w):=by
  obtain ⟨w,_,e2,e3⟩:=atI_some (l:=ws) h0 h1
  exact ⟨w,e3,by rw [atI_map,e2]; rfl⟩
theorem cut_k {ns:List Int} (k:Nat):(cutG ns none (some (k:Int))).length≤k:=by
  rw [cutG_upto,List.length_take]
  exact Nat.min_le_left _ _
theorem ifB_lf {t u:DB} {D:DEnds} {δ:DS}:ifB t u D false δ=u D δ:=rfl
theorem dget_e {ks:List (List Int×PyData)} {w:List Int} {m m':Md} {P:DV→Prop}:rdDGet (.dat m (.dict (dkv ks))) (.dat m' (wordD w)) P=∃ d,getK ks w=some d∧P (.dat .ow d):=propext ⟨fun ⟨ks',w',d,e1,e2,h⟩=>by cases dkv_inj e1; cases word_inj e2; exact ⟨d,h⟩,fun ⟨d,h⟩=>⟨ks,w,d,rfl,rfl,h⟩⟩
theorem lenD_e {ks:List (List Int×PyData)} {m:Md} {P:DV→Prop}:rdLenD [.dat m (.dict (dkv ks))] P=P (.dat .ow (.int ks.length)):=propext ⟨fun ⟨ks',e1,h⟩=>by cases dkv_inj e1; exact h,fun h=>⟨ks,rfl,h⟩⟩
theorem wd_e {k:List Int} {R:List Int→Prop}:(∃ w,wordD k=wordD w∧R w)=R k:=by
  apply propext
  constructor
  · rintro ⟨w,h,r⟩; rw [word_inj h]; exact r
  · intro r; exact ⟨k,rfl,r⟩
theorem dcompI2 {js:List Nat} {dc:DT} {dk dv:DE} {P:DV→DS→Prop} {m:Md} {ds:List PyData} {δ1:DS} {α:Type} {l:List α} {g1 g2:α→PyData} (e:ds=l.map fun a=>.tuple [g1 a,g2 a]) (hl:l.length≤1000000) (kf:α→List Int) (vf:α→PyData) (nd:(l.map kf).Nodup) (h:∀ a∈l,∀ (yes:List Int→PyData→Nat→Prop) (no:Nat→Prop),yes (kf a) (vf a) δ1.n→dcStep dc dk dv ⟨.dat m (g1 a)::.dat m (g2 a)::frD δ1.sl js,δ1.n⟩ yes no) (q:P (.dat .ow (.dict (dkv (l.map fun a=>(kf a,vf a))))) δ1):dcompB2 js dc dk dv P m ds δ1:=by
  subst e
  refine ⟨by rw [List.length_map]; exact hl,fun i acc n=>n=δ1.n∧acc=(l.take i).map fun a=>(kf a,vf a),⟨rfl,by simp⟩,fun i d acc n hd ⟨hn,ha⟩=>?_,fun acc n ⟨hn,ha⟩=>?_⟩
  · subst hn ha
    rw [List.getElem?_map] at hd
    cases q:l[i]? with
    | none=>rw [q] at hd; cases hd
    | some a =>
      rw [q] at hd
      cases hd
      refine ⟨_,_,rfl,h a (List.mem_of_getElem? q) _ _ ⟨rfl,?_⟩⟩
      rw [take_more q,List.map_append]
      unfold putD
      rw [if_neg]
      · rfl
      · rw [List.any_map,List.any_eq_true]
        rintro ⟨x,hx,hxe⟩
        have hxe:kf x=kf a:=of_decide_eq_true hxe
        obtain ⟨hi,hqa⟩:=List.getElem?_eq_some_iff.mp q
        obtain ⟨j,hj⟩:=List.mem_iff_getElem?.mp hx
        have hj':=(List.getElem?_eq_some_iff.mp hj).1
        rw [List.length_take] at hj'
        rw [List.getElem?_take,if_pos (by omega)] at hj
        have z:=(List.getElem?_inj (l:=l.map kf) (i:=j) (j:=i) (by rw [List.length_map]; omega) nd).mp (by rw [List.getElem?_map,List.getElem?_map,hj,q]; exact congrArg some hxe)
        omega
  · subst hn ha
    rw [List.length_map,List.take_length]
    exact q
theorem dkv_e {ks:List (List Int×PyData)} {R:List (List Int×PyData)→Prop}:(∃ ks',dkv ks=dkv ks'∧R ks')=R ks:=propext ⟨fun ⟨ks',e,h⟩=>by cases dkv_inj e; exact h,fun h=>⟨ks,rfl,h⟩⟩
end DL
namespace K51
open PySem L2 Nd DL
def top (i:Nat):Stmt:=PySem.Challenge.pw_needledeck_k51_counts_of_all_needlings.main.body.getD i (.Pass ⟨0,0,0,0⟩)
abbrev s_together:Stmt:=top 1
abbrev s_all_words:Stmt:=top 2
abbrev s_order_of:Stmt:=top 4
abbrev s_put_to:Stmt:=top 5
abbrev s_counts:Stmt:=top 6
abbrev sDraws:Stmt:=top 8
abbrev sNext:Stmt:=top 9
abbrev s__law_words:Stmt:=top 10
abbrev s__law_lies:Stmt:=top 11
abbrev s__law_small:Stmt:=top 12
abbrev s__law_few:Stmt:=top 13
abbrev s__law_deck:Stmt:=top 14
abbrev sLaw:Stmt:=top 15
section
variable {P:Program} {w:World} {K:PySem.W.Frag} {mg:Str→Option Value} {base:Heap}
theorem scD:FnScope ["_law_cell"] ["_law_cell"] (defScope sDraws):=⟨rfl,rfl,rfl,by decide +kernel,rfl,by decide +kernel,by decide +kernel⟩
theorem ok_draws {f:Addr} {fd:FuncData} (F:Fun K "_law_draws" "_law_draws" sDraws f fd):FnOk P w K mg base CX0 1 f fd ["_law_cell"] spDrawsD:=by
  refine F.ok scD (fun vs H Q E h=>?_) (fun cdv A outer s H vs Q E hr h=>?_)
  · obtain ⟨c,rfl,_⟩:=h
    rfl
  obtain ⟨c,rfl,q⟩:=h
  refine ⟨_,pss_cons (ps_if (pt_cmpR op_ge (pv 0) (pe_op op_pow pe_int pe_int) (nomark _)) (pss_one (ps_ret (pe_lst (pa_cons (pe_op op_mod (pv 0) (pe_op op_pow2 (pe_op op_pow pe_int pe_int) pe_int)) (pa_cons pe_int (pa_cons pe_bl pa_nil)))))) pss_nil)
    (pss_one (ps_ret (pe_lst (pa_cons (pe_op op_mod (pv 0) pe_int) (pa_cons pe_int (pa_cons pe_bl pa_nil)))))),?_⟩
  refine ⟨_,rfl,10,18,rfl,rfl,⟨by decide,by decide,by decide⟩,_,_,rfl,rfl,_,rfl,ite2 (fun _=>?_) (fun _=>?_)⟩
  · refine ⟨_,rfl,10,60,rfl,rfl,⟨by decide,by decide,by decide⟩,_,16,rfl,rfl,⟨by decide,by show (Builtin.Int.intBits (10 ^ (60:Int).toNat):Int) * 16≤2 ^ 27; decide +kernel⟩,_,_,rfl,rfl,(by show (0:Int)<(10 ^ (60:Int).toNat) ^ (16:Int).toNat; decide +kernel),(by show 3≤sizeLine; decide),fun p hp=>?_⟩
    exact q p _ _ _ hp upd_same (same_new hp _)
  · refine ⟨_,rfl,_,_,rfl,rfl,(by show (0:Int)<1000003; decide),(by show 3≤sizeLine; decide),fun p hp=>?_⟩
    exact q p _ _ _ hp upd_same (same_new hp _)
theorem scN:FnScope ["_law_draws_here", "_law_k", "_law_number"] ["_law_draws_here"] (defScope sNext):=⟨rfl,rfl,rfl,by decide +kernel,rfl,by decide +kernel,by decide +kernel⟩
theorem ok_next {f:Addr} {fd:FuncData} (F:Fun K "_law_next" "_law_next" sNext f fd):FnOk P w K mg base CX0 1 f fd ["_law_draws_here"] spNext:=by
  refine F.ok scN (fun vs H Q E h=>?_) (fun cdv A outer s H vs Q E hr h=>?_)
  · obtain ⟨d,c,k,fl,rfl,_⟩:=h
    rfl
  obtain ⟨d,c,k,fl,rfl,hd,h0,h1,q⟩:=h
  refine ⟨_,pss_cons (ps_asg (pe_op op_add (pe_ix ix_list (pv 0) pe_int (fun _ _=>rfl)) pe_int) (pg_sub (pv 0) pe_int set_list))
    (pss_cons (ps_if (pt_val (pe_ix ix_list (pv 0) pe_int (fun _ _=>rfl)))
      (pss_cons (ps_set (i:=2) scN.nd rfl (Or.inl rfl) (pe_op op_mod (pe_ix ix_list (pv 0) pe_int (fun _ _=>rfl)) (pe_op op_pow pe_int pe_int)))
        (pss_cons (ps_asg (pe_op op_fdiv (pe_ix ix_list (pv 0) pe_int (fun _ _=>rfl)) (pe_op op_pow pe_int pe_int)) (pg_sub (pv 0) pe_int set_list))
        (pss_one (ps_ret (pv 2))))) pss_nil)
    (pss_cons (ps_set (i:=1) scN.nd rfl (Or.inl rfl) (pe_ix ix_list (pv 0) pe_int (fun _ _=>rfl)))
    (pss_cons (ps_set (i:=2) scN.nd rfl (Or.inl rfl) (pe_op op_mod (pe_op op_mul (pe_op op_add (pe_op op_add (pe_ix ix_list (pv 0) pe_int (fun _ _=>rfl)) (pe_op op_mul (pe_op op_mul (pv 1) (pv 1)) pe_int)) (pv 1)) pe_int) pe_int))
    (pss_cons (ps_set (i:=2) scN.nd rfl (Or.inl rfl) (pe_op op_mod (pe_op op_mul (pv 2) (pv 2)) pe_int))
    (pss_one (ps_ret (pe_op op_fdiv (pe_op op_mod (pe_op op_mul (pv 2) (pe_op op_add (pv 2) pe_int)) pe_int) pe_int))))))),?_⟩
  -- draws[1]=draws[1]+1
  refine ⟨_,rfl,d,_,1,_,rfl,rfl,SqL.of hd,rfl,_,_,rfl,rfl,_,rfl,d,_,1,1,rfl,rfl,hd,rfl,?_⟩
  have e1:(upd H d (.lst ([V.int c,V.int k,V.bl fl].set 1 (V.int (k+1))))) d=some (.lst [.int c,.int (k+1),.bl fl]):=upd_same
  generalize hH1:upd H d (.lst ([V.int c,V.int k,V.bl fl].set 1 (V.int (k+1))))=H1 at e1
  have s1:SameB d H H1:=by rw [← hH1]; exact SameB.upd
  refine ⟨_,rfl,d,_,2,_,rfl,rfl,SqL.of e1,rfl,_,rfl,?_⟩
  refine ite2 (fun _=>?_) (fun _=>?_)
  · refine ⟨_,rfl,d,_,0,_,rfl,rfl,SqL.of e1,rfl,10,6,rfl,rfl,⟨by decide,by decide,by decide⟩,_,_,rfl,rfl,(by show (0:Int)<10 ^ (6:Int).toNat; decide),?_⟩
    refine ⟨_,rfl,d,_,0,_,rfl,rfl,SqL.of e1,rfl,10,6,rfl,rfl,⟨by decide,by decide,by decide⟩,_,_,rfl,rfl,⟨by decide,by decide⟩,_,rfl,d,_,0,0,rfl,rfl,e1,rfl,_,rfl,?_⟩
    exact q _ _ _ upd_same (s1.trans SameB.upd)
  · refine ⟨_,rfl,d,_,1,_,rfl,rfl,SqL.of e1,rfl,?_⟩
    have b1:=emod_in ((c+(k+1) * (k+1) * 7919+(k+1)) * 48271) 2147483629 (by decide)
    refine ⟨_,rfl,d,_,0,_,rfl,rfl,SqL.of e1,rfl,_,rfl,_,rfl,_,_,rfl,rfl,.inl ⟨by omega,by omega⟩,_,_,rfl,rfl,.inr ⟨by decide,by decide⟩,_,_,rfl,rfl,_,rfl,_,_,rfl,rfl,
      _,_,rfl,rfl,.inr ⟨by decide,by decide⟩,_,_,rfl,rfl,(by show (0:Int)<2147483629; decide),?_⟩
    generalize ((c+(k+1) * (k+1) * 7919+(k+1)) * 48271) % 2147483629=x at b1
    have b2:=emod_in (x * x) 2147483587 (by decide)
    refine ⟨_,rfl,_,rfl,_,_,rfl,rfl,.inl ⟨by omega,by omega⟩,_,_,rfl,rfl,(by show (0:Int)<2147483587; decide),?_⟩
    generalize (x * x) % 2147483587=y at b2
    refine ⟨_,rfl,_,rfl,_,_,rfl,rfl,_,_,rfl,rfl,.inl ⟨by omega,by omega⟩,_,_,rfl,rfl,(by show (0:Int)<2147483579; decide),_,_,rfl,rfl,⟨by decide,by decide⟩,?_⟩
    exact q _ _ _ e1 s1
theorem ok_drawsD {f:Addr} {fd:FuncData} (F:Fun K "_law_draws" "_law_draws" sDraws f fd):FnOk P w K mg base CX0 1 f fd ["_law_cell"] spDrawsD:=ok_draws F
theorem ok_nextD {f:Addr} {fd:FuncData} (F:Fun K "_law_next" "_law_next" sNext f fd):FnOk P w K mg base CX0 1 f fd ["_law_draws_here"] (SpW K dfNext):=next_ok (ok_next F)
end
end K51
namespace DL
open PySem L2 Nd
def sub (a b:List Int):Bool:=a.all fun i=>decide (i∈b)
def less (a b:List Int):List Int:=a.filter fun i=>decide (i∉b)
theorem sub_iff {a b:List Int}:sub a b=true↔∀ i∈a,i∈b:=by
  unfold sub
  simp [List.all_eq_true]
theorem less_nil {a b:List Int}:less a b=[]↔sub a b=true:=by
  unfold less
  rw [List.filter_eq_nil_iff,sub_iff]
  simp
theorem rnodup {h:Int} {a:List Int} (r:Rising h a):a.Nodup:=r.1.imp fun {x y} h=>Int.ne_of_lt h
theorem nodup_len {a:List Int} (nd:a.Nodup) (h:∀ x∈a,0≤x∧x<60):a.length≤60:=Nat.le_trans (NdS.len_leI nd fun e he=>mem_U60 (h e he).1 (h e he).2) (by decide)
theorem mod_in (a:Int) {b:Int} (h:0<b):0≤a % b∧a % b<b:=emod_in a b h
end DL
namespace Nd
open PySem L2 Ts
def wordsM:Nat→List (List Int)
  | 0=>[[]]
  | n+1=>wordsM n++(wordsM n).map (·++[(n:Int)])
theorem wordsM_len:∀ n,(wordsM n).length=2 ^ n
  | 0=>rfl
  | n+1=>by
    show (wordsM n++(wordsM n).map (·++[(n:Int)])).length=2 ^ (n+1)
    rw [List.length_append,List.length_map,wordsM_len n,Nat.pow_succ]
    omega
theorem wordsM_small {n:Nat} (h:n≤10):(wordsM n).length≤1024:=by
  rw [wordsM_len]
  exact Nat.pow_le_pow_right (by decide) h
theorem wordsM_word:∀ n,∀ w∈wordsM n,w.length≤n
  | 0,w,h=>by
    have : w=[]:=by simpa [wordsM] using h
    rw [this]
    exact Nat.le_refl _
  | n+1,w,h=>by
    rcases List.mem_append.mp (show w∈wordsM n++(wordsM n).map (·++[(n:Int)]) from h) with h | h
    · exact Nat.le_succ_of_le (wordsM_word n w h)
    · obtain ⟨v,hv,e⟩:=List.mem_map.mp h
      rw [← e,List.length_append,List.length_singleton]
      exact Nat.succ_le_succ (wordsM_word n v hv)
def Ord (l:List (List Int)):Prop:=l.Pairwise fun x y=>HT.lexLt y x=false
theorem ord_same:∀ {l m:List (List Int)},l.Perm m→Ord l→Ord m→l=m
  | [],m,p,_,_=>(List.Perm.nil_eq p)
  | x::l,[],p,_,_=>by
    have:=p.length_eq
    simp at this
  | x::l,y::m,p,h1,h2=>by
    obtain ⟨a1,a2⟩:=List.pairwise_cons.mp h1
    obtain ⟨b1,b2⟩:=List.pairwise_cons.mp h2
    have e:x=y:=by
      have mx:x∈y::m:=p.mem_iff.mp List.mem_cons_self
      have my:y∈x::l:=p.mem_iff.mpr List.mem_cons_self
      rcases List.mem_cons.mp mx with e | mx
      · exact e
      · rcases List.mem_cons.mp my with e | my
        · exact e.symm
        · exact lex_tot (b1 x mx) (a1 y my) |>.symm▸rfl
    subst e
    rw [ord_same ((List.perm_cons x).mp p) a2 b2]
end Nd
namespace Nd
open PySem L2
def ch:Nat→Nat→Nat
  | _,0=>1
  | 0,_+1=>0
  | n+1,k+1=>ch n k+ch n (k+1)
theorem ch_succ (n k:Nat):ch (n+1) (k+1)=ch n k+ch n (k+1):=rfl
theorem ch_above:∀ {n k:Nat},n<k→ch n k=0
  | 0,0,h=>absurd h (Nat.lt_irrefl _)
  | 0,k+1,_=>rfl
  | n+1,0,h=>absurd h (Nat.not_lt_zero _)
  | n+1,k+1,h=>by rw [ch_succ,ch_above (by omega:n<k),ch_above (by omega:n<k+1)]
theorem ch_self:∀ n:Nat,ch n n=1
  | 0=>rfl
  | n+1=>by rw [ch_succ,ch_self n,ch_above (Nat.lt_succ_self n)]
def behind (top:Int):Nat→List Int→Nat
  | _,[]=>0
  | m,x::w=>ch (top - 1 - x).toNat m+behind top (m - 1) w
theorem wordsM_mem:∀ {n:Nat} {w:List Int},w∈wordsM n↔Rising n w
  | 0,w=>by
    show w∈[[]]↔_
    rw [List.mem_singleton]
    constructor
    · rintro rfl; exact Rising.nil _
    · rintro ⟨_,h⟩
      match w with
      | []=>rfl
      | x::w=>have:=h x List.mem_cons_self; omega
  | n+1,w=>by
    show w∈wordsM n++(wordsM n).map (·++[(n:Int)])↔_
    rw [List.mem_append,List.mem_map,wordsM_mem]
    constructor
    · rintro (h | ⟨v,hv,rfl⟩)
      · exact h.up (by omega)
      · have:=(wordsM_mem.mp hv).more (by omega)
        exact this.up (by omega)
    · intro h
      by_cases hn:(n:Int)∈w
      · refine .inr ⟨w.dropLast,wordsM_mem.mpr ?_,?_⟩
        · have hne:w≠[]:=fun z=>by rw [z] at hn; cases hn
          have hl:w.getLast hne=n:=by
            have h1:=h.2 _ (List.getLast_mem hne)
            by_cases e:w.getLast hne=n
            · exact e
            · exfalso
              have hd:=List.dropLast_concat_getLast hne
              rw [← hd] at hn
              rcases List.mem_append.mp hn with z | z
              · have hp:=h.1
                rw [← hd] at hp
                have:=(List.pairwise_append.mp hp).2.2 _ z _ (List.mem_singleton.mpr rfl)
                omega
              · exact e (List.mem_singleton.mp z).symm
          have hd:=List.dropLast_concat_getLast hne
          have hp:=h.1
          rw [← hd,hl] at hp
          obtain ⟨p1,_,p3⟩:=List.pairwise_append.mp hp
          exact ⟨p1,fun x hx=>⟨(h.2 x (List.dropLast_subset w hx)).1,p3 x hx _ (List.mem_singleton.mpr rfl)⟩⟩
        · have hne:w≠[]:=fun z=>by rw [z] at hn; cases hn
          have hl:w.getLast hne=n:=by
            have h1:=h.2 _ (List.getLast_mem hne)
            by_cases e:w.getLast hne=n
            · exact e
            · exfalso
              have hd:=List.dropLast_concat_getLast hne
              rw [← hd] at hn
              rcases List.mem_append.mp hn with z | z
              · have hp:=h.1
                rw [← hd] at hp
                have:=(List.pairwise_append.mp hp).2.2 _ z _ (List.mem_singleton.mpr rfl)
                omega
              · exact e (List.mem_singleton.mp z).symm
          rw [← hl]
          exact List.dropLast_concat_getLast hne
      · refine .inl ⟨h.1,fun x hx=>?_⟩
        have:=h.2 x hx
        have : x≠n:=fun z=>hn (by rw [← z]; exact hx)
        omega
theorem wordsM_nodup:∀ n:Nat,(wordsM n).Nodup
  | 0=>List.nodup_cons.mpr ⟨List.not_mem_nil,List.nodup_nil⟩
  | n+1=>by
    show (wordsM n++(wordsM n).map (·++[(n:Int)])).Nodup
    refine List.nodup_append.mpr ⟨wordsM_nodup n,?_,fun x hx y hy e=>?_⟩
    · exact List.Pairwise.map _ (fun a b h e=>h (List.append_cancel_right e)) (wordsM_nodup n)
    · subst e
      obtain ⟨v,_,rfl⟩:=List.mem_map.mp hy
      have:=(wordsM_mem.mp hx).2 n (List.mem_append_right _ (List.mem_singleton.mpr rfl))
      omega
end Nd
namespace DL
open PySem L2 Nd
def pfWords:PF:=fun ds R=>∃ h:Int,ds=[.int h]∧0≤h∧h≤10∧∀ L:List (List Int),L.Perm (wordsM h.toNat)→Ord L→R (wordsD L)
theorem words_len {L:List (List Int)} {n:Nat} (hn:n≤10) (p:L.Perm (wordsM n)):L.length≤1024∧∀ w∈L,Rising n w∧w.length≤10:=⟨by rw [p.length_eq]; exact wordsM_small hn,fun w hw=>⟨wordsM_mem.mp (p.mem_iff.mp hw),Nat.le_trans (wordsM_word n w (p.mem_iff.mp hw)) hn⟩⟩
end DL
namespace DL
open PySem L2 Nd
def ordK (L:List (List Int)):List (List Int×PyData):=L.zipIdx.map fun p=>(p.1,.int (p.2:Int))
def ordD (L:List (List Int)):PyData:=.dict (dkv (ordK L))
def numD (L:List (List Int)) (f:List Int→Int):PyData:=.list ((L.map f).map PyData.int)
instance {L:List (List Int)} {f:List Int→Int}:Dp (numD L f) 1:=⟨(inferInstance:Dp (.list ((L.map f).map PyData.int)) 1).h⟩
theorem ord_find {w:List Int}:∀ {L:List (List Int)} (k:Nat),w∈L→∃ i:Nat,L[i]? = some w∧(((L.zipIdx k).map fun p=>(p.1,PyData.int (p.2:Int))).find? fun p=>decide (p.1=w))=some (w,.int ((i+k:Nat):Int))
  | [],_,h=>nomatch h
  | x::L,k,h=>by
    rw [List.zipIdx_cons,List.map_cons,List.find?_cons]
    by_cases e:x=w
    · subst e
      exact ⟨0,rfl,by simp⟩
    · obtain ⟨i,h1,h2⟩:=ord_find (k+1) ((List.mem_cons.mp h).resolve_left fun z=>e z.symm)
      refine ⟨i+1,by simpa using h1,?_⟩
      have e':decide (x=w)=false:=decide_eq_false e
      simp only [e',h2]
      congr 3
      omega
theorem ord_get {L:List (List Int)} {w:List Int} (h:w∈L):∃ i:Nat,L[i]? = some w∧getK (ordK L) w=some (.int (i:Int)):=by
  obtain ⟨i,h1,h2⟩:=ord_find 0 h
  refine ⟨i,h1,?_⟩
  unfold getK ordK
  rw [h2]
  rfl
theorem ord_len (L:List (List Int)):(ordK L).length=L.length:=by
  unfold ordK
  rw [List.length_map,List.length_zipIdx]
theorem zip_ord {f:List Int→PyData}:∀ (L:List (List Int)) (k:Nat),((((L.zipIdx k).map fun p=>(p.1,PyData.int (p.2:Int)))).zip (L.map f)).map (fun p=>PyData.tuple [wordD p.1.1,p.2])=L.map fun w=>.tuple [wordD w,f w]
  | [],_=>rfl
  | x::L,k=>by
    rw [List.zipIdx_cons,List.map_cons,List.map_cons,List.zip_cons_cons,List.map_cons,List.map_cons,zip_ord L (k+1)]
theorem zip_num (L:List (List Int)) (f:List Int→Int):(((ordK L).zip ((L.map f).map PyData.int)).map fun p=>PyData.tuple [wordD p.1.1,p.2])=L.map fun w=>.tuple [wordD w,.int (f w)]:=by
  rw [List.map_map]
  exact zip_ord (f:=fun w=>.int (f w)) L 0
theorem num_at {L:List (List Int)} {f:List Int→Int} {i:Nat} {w:List Int} (h:L[i]? = some w):atI ((L.map f).map PyData.int) (i:Int)=some (.int (f w)):=atI_nat (by rw [List.getElem?_map,List.getElem?_map,h]; rfl)
theorem num_set {L:List (List Int)} {f:List Int→Int} {i:Nat} {w:List Int} {z:Int} (nd:L.Nodup) (h:L[i]? = some w):((L.map f).map PyData.int).set i (.int z)=(L.map fun v=>if v=w then z else f v).map PyData.int:=by
  rw [List.map_map,List.map_map]
  apply List.ext_getElem?
  intro j
  rw [List.getElem?_set]
  split
  · rename_i hij
    subst hij
    rw [List.length_map,if_pos (List.getElem?_eq_some_iff.mp h).1,List.getElem?_map,h]
    simp
  · rename_i hij
    rw [List.getElem?_map,List.getElem?_map]
    cases q:L[j]? with
    | none=>rfl
    | some v =>
      have : v≠w:=by
        rintro rfl
        exact hij ((List.getElem?_inj (l:=L) (i:=i) (j:=j) (List.getElem?_eq_some_iff.mp h).1 nd).mp (by rw [h,q]))
      simp [this]
def putM (p t:Int) (f:List Int→Int) (w:List Int):Int:=if p∈w then f w else f w+t * f (sset (w++[p]))
def pfOrder:PF:=fun ds R=>∃ h:Int,ds=[.int h]∧0≤h∧h≤10∧∀ L:List (List Int),L.Perm (wordsM h.toNat)→Ord L→R (ordD L)
def pfPut:PF:=fun ds R=>∃ (n:Nat) (L:List (List Int)) (f:List Int→Int) (p t:Int),ds=[numD L f,ordD L,.int p,.int t]∧n≤10∧L.Perm (wordsM n)∧0≤p∧p<n∧(t=1∨t = -1)∧R (numD L (putM p t f))
def cntM (deck:List (List Int)) (w:List Int):Int:=(deck.countP fun c=>sub w c:Nat)
def pfCounts:PF:=fun ds R=>∃ (h:Int) (deck:List (List Int)),ds=[.int h,.list (deck.map wordD)]∧0≤h∧h≤10∧(∀ c∈deck,Rising h c)∧∀ L:List (List Int),L.Perm (wordsM h.toNat)→Ord L→R (numD L (cntM deck))
theorem words_nodup {L:List (List Int)} {n:Nat} (p:L.Perm (wordsM n)):L.Nodup:=p.nodup_iff.mpr (wordsM_nodup n)
theorem words_mem {L:List (List Int)} {n:Nat} (p:L.Perm (wordsM n)) {w:List Int}:w∈L↔Rising n w:=p.mem_iff.trans wordsM_mem
theorem rising_put {n:Int} {w:List Int} {p:Int} (r:Rising n w) (p0:0≤p) (p1:p<n):Rising n (sset (w++[p])):=⟨sset_rise _,fun x hx=>by
  rcases List.mem_append.mp (mem_sset.mp hx) with z | z
  · exact r.2 x z
  · rw [List.mem_singleton.mp z]; exact ⟨p0,p1⟩⟩
def mt (k:Nat) (w c:List Int):Bool:=sub w c && c.all fun i=>decide (i∈w∨i<k)
theorem mt_iff {k:Nat} {w c:List Int}:mt k w c=true↔(∀ i∈w,i∈c)∧∀ i∈c,i∈w∨i<k:=by
  unfold mt
  rw [Bool.and_eq_true,sub_iff,List.all_eq_true]
  simp
theorem count_two {α:Type} {p q r:α→Bool} (h:∀ a,(p a=true↔q a=true∨r a=true)∧¬ (q a=true∧r a=true)):∀ l:List α,l.countP p=l.countP q+l.countP r
  | []=>rfl
  | a::l=>by
    obtain ⟨h1,h2⟩:=h a
    rw [List.countP_cons,List.countP_cons,List.countP_cons,count_two h l]
    cases hp:p a <;> cases hq:q a <;> cases hr:r a <;> simp_all <;> omega
theorem mt_in {k:Nat} {w c:List Int} (h:(k:Int)∈w):mt (k+1) w c=mt k w c:=by
  rw [Bool.eq_iff_iff,mt_iff,mt_iff]
  refine and_congr_right fun _=>forall_congr' fun i=>imp_congr_right fun hi=>?_
  constructor
  · rintro (z | z)
    · exact .inl z
    · by_cases e:i=k
      · exact .inl (e▸h)
      · exact .inr (by omega)
  · rintro (z | z)
    · exact .inl z
    · exact .inr (by omega)
theorem mem_put {w:List Int} {p i:Int}:i∈sset (w++[p])↔i∈w∨i=p:=by
  rw [mem_sset,List.mem_append,List.mem_singleton]
theorem mt_out {k:Nat} {w c:List Int} (h:(k:Int)∉w):(mt (k+1) w c=true↔mt k w c=true∨mt k (sset (w++[(k:Int)])) c=true)∧¬ (mt k w c=true∧mt k (sset (w++[(k:Int)])) c=true):=by
  rw [mt_iff,mt_iff,mt_iff]
  simp only [mem_put]
  constructor
  · constructor
    · rintro ⟨h1,h2⟩
      by_cases hk:(k:Int)∈c
      · refine .inr ⟨fun i hi=>?_,fun i hi=>?_⟩
        · rcases hi with hi | rfl
          · exact h1 i hi
          · exact hk
        · rcases h2 i hi with z | z
          · exact .inl (.inl z)
          · by_cases e:i=k
            · exact .inl (.inr e)
            · exact .inr (by omega)
      · refine .inl ⟨h1,fun i hi=>?_⟩
        rcases h2 i hi with z | z
        · exact .inl z
        · refine .inr ?_
          have : i≠k:=by rintro rfl; exact hk hi
          omega
    · rintro (⟨h1,h2⟩ | ⟨h1,h2⟩)
      · refine ⟨h1,fun i hi=>(h2 i hi).imp id fun z=>by omega⟩
      · refine ⟨fun i hi=>h1 i (.inl hi),fun i hi=>?_⟩
        rcases h2 i hi with (z | z) | z
        · exact .inl z
        · exact .inr (by omega)
        · exact .inr (by omega)
  · rintro ⟨⟨h1,h2⟩,⟨h3,h4⟩⟩
    rcases h2 k (h3 k (.inr rfl)) with z | z
    · exact h z
    · omega
def cntK (deck:List (List Int)) (k:Nat) (w:List Int):Int:=(deck.countP (mt k w):Nat)
theorem cnt_put (deck:List (List Int)) (k:Nat) (w:List Int):putM k 1 (cntK deck k) w=cntK deck (k+1) w:=by
  unfold putM cntK
  split
  · rename_i h
    congr 2
    funext c
    exact (mt_in h).symm
  · rename_i h
    rw [count_two (q:=mt k w) (r:=mt k (sset (w++[(k:Int)]))) (fun c=>mt_out (c:=c) h) deck]
    omega
theorem cnt_all {deck:List (List Int)} {n:Nat} (hd:∀ c∈deck,Rising n c) (w:List Int):cntK deck n w=cntM deck w:=by
  unfold cntK cntM
  congr 1
  refine List.countP_congr fun c hc=>?_
  rw [mt_iff,sub_iff]
  exact ⟨fun h=>h.1,fun h=>⟨h,fun i hi=>.inr ((hd c hc).2 i hi).2⟩⟩
theorem rise_same {n m:Int} {a b:List Int} (ha:Rising n a) (hb:Rising m b) (h:∀ i,i∈a↔i∈b):a=b:=by
  have p:a.Perm b:=(List.perm_ext_iff_of_nodup (rnodup ha) (rnodup hb)).mpr h
  exact p.eq_of_pairwise (fun x y _ _ h1 h2=>by omega) ha.1 hb.1
def cnt1 (deck:List (List Int)) (w:List Int):Int:=(deck.count w:Nat)
theorem cnt_one {deck:List (List Int)} {n:Nat} (hd:∀ c∈deck,Rising n c) {w:List Int} (hw:Rising n w):cntK deck 0 w=cnt1 deck w:=by
  unfold cntK cnt1
  congr 1
  rw [List.count_eq_countP]
  refine List.countP_congr fun c hc=>?_
  rw [mt_iff,beq_iff_eq]
  constructor
  · rintro ⟨h1,h2⟩
    refine rise_same (hd c hc) hw fun i=>⟨fun hi=>?_,h1 i⟩
    rcases h2 i hi with z | z
    · exact z
    · have:=(hd c hc).2 i hi
      omega
  · rintro rfl
    exact ⟨fun _ h=>h,fun _ h=>.inl h⟩
theorem num_congr {L:List (List Int)} {f g:List Int→Int} (h:∀ w∈L,f w=g w):numD L f=numD L g:=by
  unfold numD
  rw [List.map_congr_left h]
end DL
namespace DL
open PySem L2 Nd
end DL
namespace K51
open PySem L2 Nd DL
local macro_rules | `(tactic| array_get_dec) => do
  let ids:=(("e_seq e_skip e_ret e_if e_asg e_name e_name2 e_name4 e_own e_nF e_op e_var e_c e_imm e_immB e_take e_I e_I0 e_eqF e_eqT e_inFt_w1 e_inTt_w1 e_ixl e_cat e_catT_w1 e_rep e_nlT e_ntT e_pkOfpk e_pkOfsh e_pkOfow e_mdInpk e_mdInsh e_mdInow e_mdItpk e_mdItsh e_mdItow e_nil e_cons e_tup e_lst e_noPart e_part e_partB e_cb e_lenl e_listl e_tuplel e_intb e_isi e_v e_b e_bB e_notT e_andT e_orT e_orTf e_ifE e_dL e_dTp e_lB e_tpB_w1 e_range1 e_rng1B e_enum e_enumB e_for e_comp e_comp2 e_noTest e_step e_stepT e_stepF e_yesB e_call e_callW e_draws e_drawsB e_append e_scrSl e_sortW e_zipD e_zipDB e_dcomp2 e_dcStep e_dcBT e_dcYes e_augX e_ssT e_ssTt augIK augIB wd_e dkv_e isLst dget_e lenD_e wordsD callB callBW tupB lstB datas pkMd allOw noPk appB own1 npk retE retW retL args0 frD frD1 alD List.map_cons List.map_nil List.replicate List.getElem?_cons_zero List.getElem?_cons_succ List.set_cons_zero List.set_cons_succ List.cons_append List.nil_append Option.map_some List.length_cons List.length_nil List.append_nil rdAdd rdMul rdDiv rdMod rdGt if_true mdZip Nat.reduceAdd Nat.reduceSub Nat.reduceLeDiff true_and im_e ima_e dp_e dpa_e any_int eqD_intd eqD_lw eqD_li eqD_l0 ow_e tt_e cdiv_e Int.reduceLT Int.reduceLE Int.reduceNeg and_self Int.reduceToNat fold_w isi_li isi_ib Bool.not_true decide_true String.reduceEq or_true true_or List.isEmpty_nil ifB_lf" : String).splitOn " ").toArray.map fun (x:String)=>Lean.mkIdent x.toName
  `(tactic| try simp only [$[$ids:ident],*])
section
variable {P:Program} {w:World} {K:PySem.W.Frag} {mg:Str→Option Value} {base:Heap}
theorem scTg:FnScope ["one", "other"] ["one", "other"] (defScope s_together):=⟨rfl,rfl,rfl,by decide +kernel,rfl,by decide +kernel,by decide +kernel⟩
theorem ok_together {f:Addr} {fd:FuncData} (F:Fun K "together" "together" s_together f fd) (mT:mg "tuple" = none) (mS:mg "sorted" = none) (mE:mg "set" = none):FnOk P w K mg base CX0 1 f fd ["one", "other"] (spTog K):=by
  refine F.ok scTg (fun vs H Q E h=>?_) (fun cdv A outer s H vs Q E hr h=>?_)
  · obtain ⟨a,b,ns,ms,rfl,_⟩:=h
    rfl
  obtain ⟨a,b,ns,ms,rfl,hA,hB,rn,rm,q⟩:=h
  refine ⟨_,pss_one (ps_ret (pe_callTy call_tuple_of rfl mT (by decide +kernel) (pa_cons (pe_callB (r:=rSorted w) (call_sortedS rfl) rfl mS (by decide +kernel) (pa_cons
    (pe_op (r:=rOr w) op_setOr (pe_callTy (r:=rSet w K) (call_set rfl) rfl mE (by decide +kernel) (pa_cons (pv 0) pa_nil)) (pe_callTy (r:=rSet w K) (call_set rfl) rfl mE (by decide +kernel) (pa_cons (pv 1) pa_nil))) pa_nil)) pa_nil))),?_⟩
  refine ⟨_,rfl,a,ns,U60,rfl,hA,(by show U60.length≤62; decide),among rn,fun p1 n1=>?_⟩
  have s1:=same_new n1 (SetO w p1 ns)
  refine ⟨_,rfl,b,ms,U60,rfl,Same.tup s1 hB,(by show U60.length≤62; decide),among rm,fun p2 n2=>?_⟩
  have s2:=same_new n2 (SetO w p2 ms)
  refine ⟨p1,p2,ns,ms,U60,rfl,rfl,ne_of_none upd_same n2,s2 _ _ upd_same,upd_same,(by show U60.length≤62; decide),among rn,among rm,fun p3 n3=>?_⟩
  have s3:=same_new n3 (SetO w p3 (ns++ms))
  refine ⟨p3,_,rfl,upd_same,fun p4 ts n4 nd pw mem=>?_⟩
  have s4:=same_new n4 (.lst (ts.map V.int))
  refine ⟨p4,_,rfl,.inl ⟨SqL.of upd_same,fun p5 n5=>?_⟩⟩
  have s5:=same_new n5 (.tup (ts.map V.int))
  have sA:=((s1.trans s2).trans (s3.trans s4))
  exact q p5 ts _ (sA.free n5) upd_same nd pw mem (sA.trans s5)
theorem ok_togetherD {f:Addr} {fd:FuncData} (F:Fun K "together" "together" s_together f fd) (mT:mg "tuple" = none) (mS:mg "sorted" = none) (mE:mg "set" = none):FnOk P w K mg base CX0 1 f fd ["one", "other"] (SpP K pfTog):=tog_ok (ok_together F mT mS mE)
theorem sc_all_words:FnScope ["holes", "words", "place"] ["holes"] (defScope s_all_words):=⟨rfl,rfl,rfl,by decide +kernel,rfl,by decide +kernel,by decide +kernel⟩
theorem ok_all_words {f  : Addr} {fd  : FuncData} (F:Fun K "all_words" "all_words" s_all_words f fd) (mz_range:mg "range" = none) (mz_sorted:mg "sorted" = none):FnOk P w K mg base CX0 1 f fd ["holes"] (SpP K (pfWords)):=by
  refine' fn_pure (k:=0) F sc_all_words (fun cdv A outer s H E hr=>?hb) ?h
  case hb =>
    have hu64:=hr.units
    have CS1:∀ {scope:Scope} (h:scope={ kind:=.function,names:=[(".0",.local),("word",.local),("place",.free)],isGenerator:=false,isCoroutine:=false }),
        CompScope (cxOf CX0 P w K mg base ["holes", "words", "place"] "all_words" (defScope s_all_words) f cdv A outer s H E).nox scope [("place",s.heap.objs.size+1)] "word" ["place"] [2]:=by
      rintro scope rfl
      refine ⟨by rfl,.inl (by decide +kernel),by rfl,by decide +kernel,.inl rfl,fun y c h=>?_,by rfl,by decide +kernel,rfl,fun k y j e1 e2=>?_⟩
      · have z:=lookup_mem h
        simp only [List.mem_cons,List.not_mem_nil,or_false,Prod.mk.injEq] at z
        obtain ⟨rfl,rfl⟩:=z; rfl
      · match k,e1,e2 with
        | 0,e1,e2=>cases e1; cases e2; exact ⟨rfl,rfl,by first | exact .inl rfl | exact .inr rfl⟩
        | k+1,e1,e2=>cases e1
    exact ds_cons (ds_set (i:=1) sc_all_words.nd rfl (Or.inl rfl) (dp_lst (dpa_cons (dp_tup dpa_nil) dpa_nil)))
      (ds_cons (ds_for PassesOwn.never rfl (di_range1 rfl mz_range (dpa_cons (dp_var (pv 0)) dpa_nil)) (dg_name (i:=2) sc_all_words.nd rfl (Or.inr rfl))
      (ds_one (ds_set (i:=1) sc_all_words.nd rfl (Or.inl rfl) (dp_cat (dp_var (pv 1)) (dp_comp (CS1 rfl) rfl (dil (dp_var (pv 1))) (fun _ _ _=>dts_none) (fun _ _ _=>dp_catT (dp_var (pv 0)) (dp_tup (dpa_cons (dp_imm (dp_var (pv 1))) dpa_nil))))))))
      (ds_one (ds_ret (dp_callB (Ts.call_sortedI hu64) cs_sortW rfl mz_sorted (by decide +kernel) (dpa_cons (dp_var (pv 1)) dpa_nil)))))
  case h =>
    rintro ds R ⟨h,rfl,h0,h10,hR⟩
    refine ⟨rfl,?_⟩
    array_get_dec
    refine ⟨by omega,by omega,?_⟩
    refine forI (l:=List.range h.toNat) (g:=fun i:Nat=>.int i) rfl (fun i δ=>∃ v:DV,δ=⟨[.dat .sh (.int h),.dat .sh (.list ((wordsM i).map wordD)),v],0⟩∧NP v) ?_ ?_ ?_
    · exact ⟨_,rfl,np_un⟩
    · rintro i a _ ha ⟨v,rfl,hv⟩
      obtain ⟨rfl,hi⟩:=range_at ha
      have l1:=wordsM_small (n:=a) (by omega)
      array_get_dec
      refine compM (l:=wordsM a) (g:=wordD) rfl (fun w=>wordD (w++[(a:Int)])) (fun w hw yes no hy=>?_) ?_
      · have lw:=wordsM_word a w hw
        array_get_dec
        refine ⟨by rw [List.length_map]; omega,?_⟩
        unfold wordD at hy
        rw [List.map_append] at hy
        exact hy
      · array_get_dec
        refine ⟨by rw [List.length_map,List.length_map]; omega,.dat .sh (.int a),ds_eq ?_ rfl,np_sh⟩
        show _=[DV.dat .sh (.int h),.dat .sh (.list ((wordsM a++(wordsM a).map (·++[(a:Int)])).map wordD)),.dat .sh (.int a)]
        rw [List.map_append,List.map_map]
        rfl
    · rintro _ ⟨v,rfl,hv⟩
      rw [List.length_range]
      array_get_dec
      exact ⟨_,rfl,fun L pe pw=>hR L pe pw⟩
theorem sc__law_words:FnScope ["_law_holes", "_law_found", "_law_place"] ["_law_holes"] (defScope s__law_words):=⟨rfl,rfl,rfl,by decide +kernel,rfl,by decide +kernel,by decide +kernel⟩
theorem ok__law_words {f  : Addr} {fd  : FuncData} (F:Fun K "_law_words" "_law_words" s__law_words f fd) (mz_range:mg "range" = none) (mz_sorted:mg "sorted" = none):FnOk P w K mg base CX0 1 f fd ["_law_holes"] (SpP K (pfWords)):=by
  refine' fn_pure (k:=0) F sc__law_words (fun cdv A outer s H E hr=>?hb) ?h
  case hb =>
    have hu64:=hr.units
    have CS1:∀ {scope:Scope} (h:scope={ kind:=.function,names:=[(".0",.local),("_law_word",.local),("_law_place",.free)],isGenerator:=false,isCoroutine:=false }),
        CompScope (cxOf CX0 P w K mg base ["_law_holes", "_law_found", "_law_place"] "_law_words" (defScope s__law_words) f cdv A outer s H E).nox scope [("_law_place",s.heap.objs.size+1)] "_law_word" ["_law_place"] [2]:=by
      rintro scope rfl
      refine ⟨by rfl,.inl (by decide +kernel),by rfl,by decide +kernel,.inl rfl,fun y c h=>?_,by rfl,by decide +kernel,rfl,fun k y j e1 e2=>?_⟩
      · have z:=lookup_mem h
        simp only [List.mem_cons,List.not_mem_nil,or_false,Prod.mk.injEq] at z
        obtain ⟨rfl,rfl⟩:=z; rfl
      · match k,e1,e2 with
        | 0,e1,e2=>cases e1; cases e2; exact ⟨rfl,rfl,by first | exact .inl rfl | exact .inr rfl⟩
        | k+1,e1,e2=>cases e1
    exact ds_cons (ds_set (i:=1) sc__law_words.nd rfl (Or.inl rfl) (dp_lst (dpa_cons (dp_tup dpa_nil) dpa_nil)))
      (ds_cons (ds_for PassesOwn.never rfl (di_range1 rfl mz_range (dpa_cons (dp_var (pv 0)) dpa_nil)) (dg_name (i:=2) sc__law_words.nd rfl (Or.inr rfl))
      (ds_one (ds_set (i:=1) sc__law_words.nd rfl (Or.inl rfl) (dp_cat (dp_var (pv 1)) (dp_comp (CS1 rfl) rfl (dil (dp_var (pv 1))) (fun _ _ _=>dts_none) (fun _ _ _=>dp_catT (dp_var (pv 0)) (dp_tup (dpa_cons (dp_imm (dp_var (pv 1))) dpa_nil))))))))
      (ds_one (ds_ret (dp_callB (Ts.call_sortedI hu64) cs_sortW rfl mz_sorted (by decide +kernel) (dpa_cons (dp_var (pv 1)) dpa_nil)))))
  case h =>
    rintro ds R ⟨h,rfl,h0,h10,hR⟩
    refine ⟨rfl,?_⟩
    array_get_dec
    refine ⟨by omega,by omega,?_⟩
    refine forI (l:=List.range h.toNat) (g:=fun i:Nat=>.int i) rfl (fun i δ=>∃ v:DV,δ=⟨[.dat .sh (.int h),.dat .sh (.list ((wordsM i).map wordD)),v],0⟩∧NP v) ?_ ?_ ?_
    · exact ⟨_,rfl,np_un⟩
    · rintro i a _ ha ⟨v,rfl,hv⟩
      obtain ⟨rfl,hi⟩:=range_at ha
      have l1:=wordsM_small (n:=a) (by omega)
      array_get_dec
      refine compM (l:=wordsM a) (g:=wordD) rfl (fun w=>wordD (w++[(a:Int)])) (fun w hw yes no hy=>?_) ?_
      · have lw:=wordsM_word a w hw
        array_get_dec
        refine ⟨by rw [List.length_map]; omega,?_⟩
        unfold wordD at hy
        rw [List.map_append] at hy
        exact hy
      · array_get_dec
        refine ⟨by rw [List.length_map,List.length_map]; omega,.dat .sh (.int a),ds_eq ?_ rfl,np_sh⟩
        show _=[DV.dat .sh (.int h),.dat .sh (.list ((wordsM a++(wordsM a).map (·++[(a:Int)])).map wordD)),.dat .sh (.int a)]
        rw [List.map_append,List.map_map]
        rfl
    · rintro _ ⟨v,rfl,hv⟩
      rw [List.length_range]
      array_get_dec
      exact ⟨_,rfl,fun L pe pw=>hR L pe pw⟩
end
def dfSmall:DF:=fun ds n R=>∃ h:Int,ds=[.int h]∧0<h∧h≤60∧n≤90000∧∀ ns,Rising h ns→R (wordD ns) (n+1)
def dfDeck:DF:=fun ds n R=>∃ h m:Int,ds=[.int h,.int m]∧0<h∧h≤10∧0≤m∧m≤60∧n≤50000∧∀ (deck:List (List Int)) n',n≤n'→n'≤n+200→deck.length≤60→(∀ c∈deck,Rising h c)→R (.list (deck.map wordD)) n'
def dfFew:DF:=fun ds n R=>ds=[]∧n≤90000∧∀ h:Int,0<h→h≤10→R (.int h) (n+1)
def pfLies:PF:=fun ds R=>∃ a b:List Int,ds=[wordD a,wordD b]∧R (.bool (sub a b))
section
variable {P:Program} {w:World} {K:PySem.W.Frag} {mg:Str→Option Value} {base:Heap}
theorem sc__law_small:FnScope ["_law_draws_here", "_law_holes", "_law_pick", "_law_told", "_law_place"] ["_law_draws_here", "_law_holes"] (defScope s__law_small):=⟨rfl,rfl,rfl,by decide +kernel,rfl,by decide +kernel,by decide +kernel⟩
theorem ok__law_small {f f_L_next:Addr} {fd d_L_next:FuncData} (F:Fun K "_law_small" "_law_small" s__law_small f fd) (G_L_next:FnOk P w K mg base CX0 1 f_L_next d_L_next ["_law_draws_here"] (SpW K dfNext)) (b_L_next:Binds K d_L_next ["_law_draws_here"] []) (k_L_next:PySem.W.keepIn K (.ref f_L_next)=true) (m_L_next:mg "_law_next" = some (.ref f_L_next)) (mz_range:mg "range" = none) (mz_tuple:mg "tuple" = none):FnOk P w K mg base CX0 2 f fd ["_law_draws_here", "_law_holes"] (SpW K (dfSmall)):=by
  refine' fn_draw (k:=1) F sc__law_small (fun cdv A outer s H E hr=>?hb) ?h
  case hb =>
    have hr1:Room 1 _:=hr.mono (by decide)
    have hu64:=hr.units
    exact ds_cons (ds_set (i:=2) sc__law_small.nd rfl (Or.inl rfl) (dp_callW G_L_next hr1 rfl m_L_next k_L_next b_L_next pass0 (pv 0) dpa_nil))
      (ds_cons (ds_setO (i:=3) sc__law_small.nd rfl (Or.inl rfl) (dp_lst dpa_nil))
      (ds_cons (ds_for PassesOwn.never rfl (di_range1 rfl mz_range (dpa_cons (dp_var (pv 1)) dpa_nil)) (dg_name (i:=4) sc__law_small.nd rfl (Or.inl rfl))
      (ds_cons (ds_if (dt_eq hu64 (dp_mod (dp_var (pv 2)) dp_int) dp_int)
        (ds_one (ds_append (pv 3) (dp_var (pv 4)))) ds_nil)
        (ds_one (ds_set (i:=2) sc__law_small.nd rfl (Or.inl rfl) (dp_div (dp_var (pv 2)) dp_int)))))
      (ds_one (ds_ret (dp_callTy tuple_ok (cs_tuple (i:=true)) rfl mz_tuple (by decide +kernel) (dpa_cons (dp_var (pv 3)) dpa_nil))))))
  case h =>
    rintro ds n R ⟨h,rfl,h0,h1,hn,hR⟩
    refine ⟨rfl,?_⟩
    array_get_dec
    refine ⟨rfl,by omega,fun r1=>?_⟩
    array_get_dec
    refine ⟨by omega,by omega,?_⟩
    refine forI (l:=List.range h.toNat) (g:=fun i:Nat=>.int i) rfl (fun i δ=>∃ (p:Int) (ns:List Int) (v:DV),δ=⟨[.drw,.dat .sh (.int h),.dat .sh (.int p),.dat .ow (.list (ns.map PyData.int)),v],n+1⟩∧Rising i ns∧NP v) ?_ ?_ ?_
    · exact ⟨_,[],_,rfl,Rising.nil _,np_un⟩
    · rintro i a _ ha ⟨p,ns,v,rfl,hr,hv⟩
      obtain ⟨rfl,hi⟩:=range_at ha
      have l60:=nodup_len (rnodup hr) (fun x hx=>by have:=hr.2 x hx; omega)
      array_get_dec
      refine ifB_2 (fun hb=>?_) (fun hb=>?_)
      · array_get_dec
        refine ⟨by rw [List.length_map]; omega,?_⟩
        refine ⟨_,ns++[(a:Int)],_,ds_eq (by rw [List.map_append]; rfl) rfl,hr.more (by omega),np_sh⟩
      · array_get_dec
        exact ⟨_,ns,_,rfl,hr.up (by omega),np_sh⟩
    · rintro _ ⟨p,ns,v,rfl,hr,hv⟩
      rw [List.length_range] at hr
      array_get_dec
      exact ⟨by omega,hR ns (by rwa [show ((h.toNat:Nat):Int)=h by omega] at hr)⟩
theorem sc__law_few:FnScope ["_law_draws_here", "_law_pick"] ["_law_draws_here"] (defScope s__law_few):=⟨rfl,rfl,rfl,by decide +kernel,rfl,by decide +kernel,by decide +kernel⟩
theorem ok__law_few {f f_L_next:Addr} {fd d_L_next:FuncData} (F:Fun K "_law_few" "_law_few" s__law_few f fd) (G_L_next:FnOk P w K mg base CX0 1 f_L_next d_L_next ["_law_draws_here"] (SpW K dfNext)) (b_L_next:Binds K d_L_next ["_law_draws_here"] []) (k_L_next:PySem.W.keepIn K (.ref f_L_next)=true) (m_L_next:mg "_law_next" = some (.ref f_L_next)) (mz_int:mg "int" = none):FnOk P w K mg base CX0 2 f fd ["_law_draws_here"] (SpW K (dfFew)):=by
  refine' fn_draw (k:=1) F sc__law_few (fun cdv A outer s H E hr=>?hb) ?h
  case hb =>
    have hr1:Room 1 _:=hr.mono (by decide)
    have hu64:=hr.units
    exact ds_cons (ds_set (i:=1) sc__law_few.nd rfl (Or.inl rfl) (dp_callW G_L_next hr1 rfl m_L_next k_L_next b_L_next pass0 (pv 0) dpa_nil))
      (ds_one (ds_ret (dp_ixS (dp_lst (dpa_cons (dp_add dp_int (dp_mod (dp_div (dp_var (pv 1)) dp_int) dp_int)) (dpa_cons (dp_add dp_int (dp_mod (dp_div (dp_var (pv 1)) dp_int) dp_int)) dpa_nil))) (dp_callTy call_int1 cs_int rfl mz_int (by decide +kernel) (dpa_cons (dp_eq hu64 (dp_mod (dp_var (pv 1)) dp_int) dp_int) dpa_nil)))))
  case h =>
    rintro ds n R ⟨rfl,hn,hR⟩
    refine ⟨rfl,?_⟩
    array_get_dec
    refine ⟨rfl,by omega,fun r1=>?_⟩
    array_get_dec
    have b6:=mod_in (r1 / 4) (b:=6) (by decide)
    have b4:=mod_in (r1 / 4) (b:=4) (by decide)
    refine ⟨_,pick2 _ _ _,by omega,?_⟩
    cases decide (r1 % 4=1)
    · exact hR _ (by omega) (by omega)
    · exact hR _ (by omega) (by omega)
theorem sc__law_lies:FnScope ["_law_one", "_law_other"] ["_law_one", "_law_other"] (defScope s__law_lies):=⟨rfl,rfl,rfl,by decide +kernel,rfl,by decide +kernel,by decide +kernel⟩
theorem ok__law_lies {f  : Addr} {fd  : FuncData} (F:Fun K "_law_lies" "_law_lies" s__law_lies f fd):FnOk P w K mg base CX0 1 f fd ["_law_one", "_law_other"] (SpP K (pfLies)):=by
  refine' fn_pure (k:=0) F sc__law_lies (fun cdv A outer s H E hr=>?hb) ?h
  case hb =>
    have hu64:=hr.units
    have CS1:∀ {scope:Scope} (h:scope={ kind:=.function,names:=[(".0",.local),("_law_place",.local),("_law_other",.free)],isGenerator:=false,isCoroutine:=false }),
        CompScope (cxOf CX0 P w K mg base ["_law_one", "_law_other"] "_law_lies" (defScope s__law_lies) f cdv A outer s H E).nox scope [("_law_other",s.heap.objs.size+1)] "_law_place" ["_law_other"] [1]:=by
      rintro scope rfl
      refine ⟨by rfl,.inl (by decide +kernel),by rfl,by decide +kernel,.inl rfl,fun y c h=>?_,by rfl,by decide +kernel,rfl,fun k y j e1 e2=>?_⟩
      · have z:=lookup_mem h
        simp only [List.mem_cons,List.not_mem_nil,or_false,Prod.mk.injEq] at z
        obtain ⟨rfl,rfl⟩:=z; rfl
      · match k,e1,e2 with
        | 0,e1,e2=>cases e1; cases e2; exact ⟨rfl,rfl,by first | exact .inl rfl | exact .inr rfl⟩
        | k+1,e1,e2=>cases e1
    exact ds_one (ds_ret (dp_eq hu64 (dp_comp (CS1 rfl) rfl (dit (dp_var (pv 0))) (fun _ _ _=>dts_one (dt_notIn hu64 (dp_var (pv 0)) (dp_var (pv 1)))) (fun _ _ _=>dp_var (pv 0))) (dp_lst dpa_nil)))
  case h =>
    rintro ds R ⟨a,b,rfl,hR⟩
    refine ⟨rfl,?_⟩
    array_get_dec
    refine compI (l:=a) (g:=PyData.int) rfl (fun i=>decide (i∉b)) (fun i=>.int i) (fun i _ yes no hy hn=>?_) ?_
    · array_get_dec
      refine stepB_2 (fun h=>?_) (fun h=>?_)
      · array_get_dec
        exact hy (by simpa using h)
      · exact hn (by simpa using h)
    · array_get_dec
      have e:((a.filter fun i=>decide (i∉b)).map PyData.int).isEmpty=sub a b:=by
        rw [Bool.eq_iff_iff,List.isEmpty_iff,List.map_eq_nil_iff]
        exact less_nil
      rw [e]
      exact hR
theorem sc__law_deck:FnScope ["_law_draws_here", "_law_holes", "_law_limit", "_law_deck_here", "_law_k", "_law_card", "_law_pick", "_law_place"] ["_law_draws_here", "_law_holes", "_law_limit"] (defScope s__law_deck):=⟨rfl,rfl,rfl,by decide +kernel,rfl,by decide +kernel,by decide +kernel⟩
theorem ok__law_deck {f f_L_next f_L_small:Addr} {fd d_L_next d_L_small:FuncData} (F:Fun K "_law_deck" "_law_deck" s__law_deck f fd) (G_L_next:FnOk P w K mg base CX0 1 f_L_next d_L_next ["_law_draws_here"] (SpW K dfNext)) (b_L_next:Binds K d_L_next ["_law_draws_here"] []) (k_L_next:PySem.W.keepIn K (.ref f_L_next)=true) (m_L_next:mg "_law_next" = some (.ref f_L_next)) (G_L_small:FnOk P w K mg base CX0 2 f_L_small d_L_small ["_law_draws_here", "_law_holes"] (SpW K (dfSmall))) (b_L_small:Binds K d_L_small ["_law_draws_here", "_law_holes"] []) (k_L_small:PySem.W.keepIn K (.ref f_L_small)=true) (m_L_small:mg "_law_small" = some (.ref f_L_small)) (mz_range:mg "range" = none) (mz_len:mg "len" = none) (mz_sorted:mg "sorted" = none) (mz_set:mg "set" = none) (mz_tuple:mg "tuple" = none):FnOk P w K mg base CX0 3 f fd ["_law_draws_here", "_law_holes", "_law_limit"] (SpW K (dfDeck)):=by
  refine' fn_draw (k:=2) F sc__law_deck (fun cdv A outer s H E hr=>?hb) ?h
  case hb =>
    have hr1:Room 1 _:=hr.mono (by decide)
    have hr2:Room 2 _:=hr.mono (by decide)
    have hu64:=hr.units
    exact ds_cons (ds_setO (i:=3) sc__law_deck.nd rfl (Or.inl rfl) (dp_lst dpa_nil))
      (ds_cons (ds_for PassesOwn.never rfl (di_range1 rfl mz_range (dpa_cons (dp_mod (dp_callW G_L_next hr1 rfl m_L_next k_L_next b_L_next pass0 (pv 0) dpa_nil) (dp_add (dp_var (pv 2)) dp_int)) dpa_nil)) (dg_name (i:=4) sc__law_deck.nd rfl (Or.inl rfl))
      (ds_cons (ds_set (i:=5) sc__law_deck.nd rfl (Or.inl rfl) (dp_callW G_L_small hr2 rfl m_L_small k_L_small b_L_small pass0 (pv 0) (dpa_cons (dp_var (pv 1)) dpa_nil)))
        (ds_cons (ds_set (i:=6) sc__law_deck.nd rfl (Or.inl rfl) (dp_callW G_L_next hr1 rfl m_L_next k_L_next b_L_next pass0 (pv 0) dpa_nil))
        (ds_cons (ds_if (dt_w (dw_and (dt_ne hu64 (dp_var (pv 3)) (dp_lst dpa_nil)) (dw_and1 (dt_eq hu64 (dp_mod (dp_var (pv 6)) dp_int) dp_int))))
        (ds_one (ds_set (i:=5) sc__law_deck.nd rfl (Or.inl rfl) (dp_imm (dp_ixS (dp_var (pv 3)) (dp_mod (dp_div (dp_var (pv 6)) dp_int) (dp_callB call_len cs_len rfl mz_len (by decide +kernel) (dpa_cons (dp_var (pv 3)) dpa_nil))))))) ds_nil)
        (ds_cons (ds_if (dt_w (dw_and (dt_ne hu64 (dp_var (pv 3)) (dp_lst dpa_nil)) (dw_and1 (dt_eq hu64 (dp_mod (dp_var (pv 6)) dp_int) dp_int))))
        (ds_cons (ds_set (i:=5) sc__law_deck.nd rfl (Or.inl rfl) (dp_imm (dp_ixS (dp_var (pv 3)) (dp_mod (dp_div (dp_var (pv 6)) dp_int) (dp_callB call_len cs_len rfl mz_len (by decide +kernel) (dpa_cons (dp_var (pv 3)) dpa_nil))))))
          (ds_cons (ds_set (i:=7) sc__law_deck.nd rfl (Or.inl rfl) (dp_mod (dp_div (dp_var (pv 6)) dp_int) (dp_var (pv 1))))
          (ds_one (ds_set (i:=5) sc__law_deck.nd rfl (Or.inl rfl) (dp_callTy tuple_ok (cs_tuple (i:=true)) rfl mz_tuple (by decide +kernel) (dpa_cons (dp_ssT rfl rfl mz_sorted rfl mz_set (dpa_cons (dp_catT (dp_var (pv 5)) (dp_tup (dpa_cons (dp_imm (dp_var (pv 7))) dpa_nil))) dpa_nil)) dpa_nil)))))) ds_nil)
        (ds_one (ds_append (pv 3) (dp_var (pv 5)))))))))
      (ds_one (ds_ret (dp_take (pv 3)))))
  case h =>
    rintro ds n R ⟨h,m,rfl,h0,h1,m0,m1,hn,hR⟩
    refine ⟨rfl,?_⟩
    array_get_dec
    refine ⟨rfl,by omega,fun r1=>?_⟩
    array_get_dec
    have bm:=mod_in r1 (b:=m+1) (by omega)
    refine ⟨by omega,by omega,by omega,?_⟩
    refine forI (l:=List.range (r1 % (m+1)).toNat) (g:=fun i:Nat=>.int i) rfl (fun i δ=>∃ (deck:List (List Int)) (v4 v5 v6 v7:DV) (n':Nat),δ=⟨[.drw,.dat .sh (.int h),.dat .sh (.int m),.dat .ow (.list (deck.map wordD)),v4,v5,v6,v7],n'⟩∧n'=n+1+2 * i∧deck.length=i∧(∀ c∈deck,Rising h c)∧NP v4∧NP v5∧NP v6∧NP v7) ?_ ?_ ?_
    · exact ⟨[],_,_,_,_,_,rfl,rfl,rfl,fun _ z=>(nomatch z),np_un,np_un,np_un,np_un⟩
    · rintro i a _ ha ⟨deck,v4,v5,v6,v7,n1,rfl,k1,ld,hd,hv4,hv5,hv6,hv7⟩
      obtain ⟨rfl,hi⟩:=range_at ha
      array_get_dec
      refine ⟨h,rfl,h0,by omega,by omega,fun w rw_=>?_⟩
      array_get_dec
      refine ⟨rfl,by omega,fun r2=>?_⟩
      array_get_dec
      have pick:∀ q:Int,deck≠[]→∃ c∈deck,atI (deck.map wordD) (q % ((deck.map wordD).length:Int))=some (wordD c):=fun q hne=>by
        have hl:0<deck.length:=List.length_pos_iff.mpr hne
        have bl:=mod_in q (b:=((deck.map wordD).length:Int)) (by rw [List.length_map]; omega)
        rw [List.length_map] at bl ⊢
        exact atI_words bl.1 bl.2
      refine joinX (fun P=>andB _ _ _ P) (fun δ=>∃ (c:List Int),δ=⟨[.drw,.dat .sh (.int h),.dat .sh (.int m),.dat .ow (.list (deck.map wordD)),.dat .sh (.int a),.dat .sh (wordD c),.dat .sh (.int r2),v7],n1+1+1⟩∧Rising h c) (fun N hN=>?_) ?_
      · refine andB_2 (fun hb=>?_) (fun hb=>?_)
        · have hne:deck≠[]:=fun z=>by rw [z] at hb; cases hb
          array_get_dec
          refine ifB_2 (fun hb2=>?_) (fun hb2=>?_)
          · obtain ⟨c,hc,e⟩:=pick (r2 / 3) hne
            have hl:0<deck.length:=List.length_pos_iff.mpr hne
            array_get_dec
            rw [e]
            refine ⟨by rw [List.length_map]; omega,wordD c,rfl,?_⟩
            try array_get_dec
            exact hN _ ⟨c,rfl,hd c hc⟩
          · array_get_dec
            exact hN _ ⟨w,rfl,rw_⟩
        · array_get_dec
          exact hN _ ⟨w,rfl,rw_⟩
      · rintro _ ⟨c,rfl,rc⟩
        array_get_dec
        refine joinX (fun P=>andB _ _ _ P) (fun δ=>∃ (c:List Int) (v7:DV),δ=⟨[.drw,.dat .sh (.int h),.dat .sh (.int m),.dat .ow (.list (deck.map wordD)),.dat .sh (.int a),.dat .sh (wordD c),.dat .sh (.int r2),v7],n1+1+1⟩∧Rising h c∧NP v7) (fun N hN=>?_) ?_
        · refine andB_2 (fun hb=>?_) (fun hb=>?_)
          · have hne:deck≠[]:=fun z=>by rw [z] at hb; cases hb
            array_get_dec
            refine ifB_2 (fun hb2=>?_) (fun hb2=>?_)
            · obtain ⟨c2,hc2,e⟩:=pick (r2 / 3) hne
              have hl:0<deck.length:=List.length_pos_iff.mpr hne
              have bh:=mod_in (r2 / 300) h0
              have r2c:=hd c2 hc2
              have l60:=rising_len (r2c.up (show h≤60 by omega))
              array_get_dec
              rw [e]
              refine ⟨by rw [List.length_map]; omega,wordD c2,rfl,?_⟩
              array_get_dec
              refine ⟨by omega,by rw [List.length_map]; omega,c2++[r2 / 300 % h],by rw [List.map_append]; rfl,fun x hx=>?_,?_⟩
              · rcases List.mem_append.mp hx with z | z
                · have:=r2c.2 x z; omega
                · rw [List.mem_singleton.mp z]; omega
              · try array_get_dec
                exact hN _ ⟨_,_,rfl,rising_put r2c bh.1 bh.2,np_sh⟩
            · array_get_dec
              exact hN _ ⟨c,_,rfl,rc,hv7⟩
          · array_get_dec
            exact hN _ ⟨c,_,rfl,rc,hv7⟩
        · clear hv7
          rintro _ ⟨c,v7,rfl,rc,hv7⟩
          array_get_dec
          refine ⟨by simp [npk,hv7 _],by rw [List.length_map]; omega,?_⟩
          refine ⟨deck++[c],_,_,_,_,_,ds_eq (by rw [List.map_append]; rfl) rfl,by omega,by rw [List.length_append,List.length_singleton]; omega,fun x hx=>?_,np_sh,np_sh,np_sh,hv7⟩
          rcases List.mem_append.mp hx with z | z
          · exact hd x z
          · rw [List.mem_singleton.mp z]; exact rc
    · rintro _ ⟨deck,v4,v5,v6,v7,n1,rfl,k1,ld,hd,hv4,hv5,hv6,hv7⟩
      rw [List.length_range] at k1 ld
      array_get_dec
      exact ⟨by omega,hR deck _ (by omega) (by omega) (by omega) hd⟩
theorem sc_order_of:FnScope ["holes"] ["holes"] (defScope s_order_of):=⟨rfl,rfl,rfl,by decide +kernel,rfl,by decide +kernel,by decide +kernel⟩
theorem ok_order_of {f f_all_words:Addr} {fd d_all_words:FuncData} (F:Fun K "order_of" "order_of" s_order_of f fd) (G_all_words:FnOk P w K mg base CX0 1 f_all_words d_all_words ["holes"] (SpP K (pfWords))) (b_all_words:Binds K d_all_words ["holes"] []) (k_all_words:PySem.W.keepIn K (.ref f_all_words)=true) (m_all_words:mg "all_words" = some (.ref f_all_words)) (mz_enumerate:mg "enumerate" = none):FnOk P w K mg base CX0 2 f fd ["holes"] (SpP K (pfOrder)):=by
  refine' fn_pure (k:=1) F sc_order_of (fun cdv A outer s H E hr=>?hb) ?h
  case hb =>
    have hr1:Room 1 _:=hr.mono (by decide)
    have hu64:=hr.units
    have CS1:∀ {scope:Scope} (h:scope={ kind:=.function,names:=[(".0",.local),("number",.local),("word",.local)],isGenerator:=false,isCoroutine:=false }),
        CompScope (cxOf CX0 P w K mg base ["holes"] "order_of" (defScope s_order_of) f cdv A outer s H E).nox scope [] "number" [] []:=by
      rintro scope rfl
      exact Nd.compScope0 (by rfl) (by decide +kernel) (by rfl) (by decide +kernel) (by rfl) (by rfl)
    exact ds_one (ds_ret (dp_dcomp2 hu64 (CS1 rfl) (.inl rfl) (by decide +kernel) rfl (di_enum rfl mz_enumerate (dpa_cons (dp_call G_all_words hr1 rfl m_all_words k_all_words b_all_words pass0 (dpa_cons (dp_var (pv 0)) dpa_nil)) dpa_nil)) (fun _ _ _=>dts_none) (fun _ _ _=>dp_var (pv 1)) (fun _ _ _=>dp_var (pv 0))))
  case h =>
    rintro ds R ⟨h,rfl,h0,h10,hR⟩
    refine ⟨rfl,?_⟩
    array_get_dec
    refine ⟨h,rfl,h0,h10,fun L pe po=>?_⟩
    have nd:=words_nodup pe
    have ll:=(words_len (n:=h.toNat) (by omega) pe).1
    array_get_dec
    refine dcompI2 (l:=L.zipIdx) (g1:=fun p=>.int p.2) (g2:=fun p=>wordD p.1) (by rw [zip_map,List.map_map]; rfl) (by rw [List.length_zipIdx]; omega) (fun p=>p.1) (fun p=>.int p.2) (by rw [List.zipIdx_map_fst]; exact nd) (fun p _ yes no hy=>?_) ?_
    · array_get_dec
      exact hy
    · array_get_dec
      exact hR L pe po
theorem sc_put_to:FnScope ["numbers", "order", "place", "times"] ["numbers", "order", "place", "times"] (defScope s_put_to):=⟨rfl,rfl,rfl,by decide +kernel,rfl,by decide +kernel,by decide +kernel⟩
theorem ok_put_to {f f_together:Addr} {fd d_together:FuncData} (F:Fun K "put_to" "put_to" s_put_to f fd) (G_together:FnOk P w K mg base CX0 1 f_together d_together ["one", "other"] (SpP K pfTog)) (b_together:Binds K d_together ["one", "other"] []) (k_together:PySem.W.keepIn K (.ref f_together)=true) (m_together:mg "together" = some (.ref f_together)) (mz_zip:mg "zip" = none):FnOk P w K mg base CX0 2 f fd ["numbers", "order", "place", "times"] (SpP K (pfPut)):=by
  refine' fn_pure (k:=1) F sc_put_to (fun cdv A outer s H E hr=>?hb) ?h
  case hb =>
    have hr1:Room 1 _:=hr.mono (by decide)
    have hu64:=hr.units
    have CS1:∀ {scope:Scope} (h:scope={ kind:=.function,names:=[(".0",.local),("word",.local),("number",.local),("together",.globalImplicit),("numbers",.free),("order",.free),("place",.free),("times",.free)],isGenerator:=false,isCoroutine:=false }),
        CompScope (cxOf CX0 P w K mg base ["numbers", "order", "place", "times"] "put_to" (defScope s_put_to) f cdv A outer s H E).nox scope [("times",s.heap.objs.size+4),("place",s.heap.objs.size+3),("order",s.heap.objs.size+2),("numbers",s.heap.objs.size+1)] "word" ["numbers", "order", "place", "times"] [0,1,2,3]:=by
      rintro scope rfl
      refine ⟨by rfl,.inl (by decide +kernel),by rfl,by decide +kernel,.inl rfl,fun y c h=>?_,by rfl,by decide +kernel,rfl,fun k y j e1 e2=>?_⟩
      · have z:=lookup_mem h
        simp only [List.mem_cons,List.not_mem_nil,or_false,Prod.mk.injEq] at z
        rcases z with ⟨rfl,rfl⟩ | ⟨rfl,rfl⟩ | ⟨rfl,rfl⟩ | ⟨rfl,rfl⟩ <;> rfl
      · match k,e1,e2 with
        | 0,e1,e2=>cases e1; cases e2; exact ⟨rfl,rfl,by first | exact .inl rfl | exact .inr rfl⟩
        | 1,e1,e2=>cases e1; cases e2; exact ⟨rfl,rfl,by first | exact .inl rfl | exact .inr rfl⟩
        | 2,e1,e2=>cases e1; cases e2; exact ⟨rfl,rfl,by first | exact .inl rfl | exact .inr rfl⟩
        | 3,e1,e2=>cases e1; cases e2; exact ⟨rfl,rfl,by first | exact .inl rfl | exact .inr rfl⟩
        | k+4,e1,e2=>cases e1
    exact ds_one (ds_ret (dp_comp2 (CS1 rfl) (.inl rfl) (by decide +kernel) rfl (di_zipD rfl mz_zip (dpa_cons (dp_var (pv 1)) (dpa_cons (dp_var (pv 0)) dpa_nil))) (fun _ _ _=>dts_none) (fun _ _ _=>dp_ifE (dt_in hu64 (dp_var (pv 4)) (dp_var (pv 0))) (dp_var (pv 1)) (dp_add (dp_var (pv 1)) (dp_mul (dp_var (pv 5)) (dp_ixS (dp_var (pv 2)) (dp_dget hu64 (dp_var (pv 3)) (dp_call G_together hr1 rfl m_together k_together b_together pass0 (dpa_cons (dp_var (pv 0)) (dpa_cons (dp_tup (dpa_cons (dp_imm (dp_var (pv 4))) dpa_nil)) dpa_nil))))))))))
  case h =>
    rintro ds R ⟨n,L,f,p,t,rfl,hn,pe,p0,p1,ht,hR⟩
    refine ⟨rfl,?_⟩
    have hm:=fun w=>(words_mem (w:=w) pe)
    unfold numD ordD
    array_get_dec
    rw [zip_num]
    refine compI2 (l:=L) (g1:=wordD) (g2:=fun w=>.int (f w)) rfl (fun _=>true) (fun w=>.int (putM p t f w)) (fun w hw yes no hy _=>?_) ?_
    · have hy:=hy rfl
      have rw_:=(hm w).mp hw
      unfold putM at hy
      array_get_dec
      refine ifV_2 (fun h=>?_) (fun h=>?_)
      · array_get_dec
        rw [if_pos (of_decide_eq_true h)] at hy
        exact hy
      · rw [if_neg (of_decide_eq_false h)] at hy
        have rp:=rising_put rw_ p0 p1
        obtain ⟨i,e1,e2⟩:=ord_get ((hm _).mpr rp)
        have e3:=num_at (f:=f) e1
        array_get_dec
        refine ⟨w,[p],rfl,rw_.up (by omega),⟨List.pairwise_singleton _ _,fun x hx=>by rw [List.mem_singleton.mp hx]; omega⟩,?_⟩
        array_get_dec
        refine ⟨_,e2,?_⟩
        array_get_dec
        refine ⟨_,e3,?_⟩
        have ct:CMul t (f (sset (w++[p]))):=by rcases ht with rfl | rfl <;> exact .inl ⟨by decide,by decide⟩
        array_get_dec
        exact ⟨ct,hy⟩
    · rw [List.filter_eq_self.mpr fun _ _=>rfl]
      array_get_dec
      unfold numD at hR
      rw [List.map_map] at hR
      exact hR
theorem sc_counts:FnScope ["holes", "deck", "order", "told", "card", "place"] ["holes", "deck"] (defScope s_counts):=⟨rfl,rfl,rfl,by decide +kernel,rfl,by decide +kernel,by decide +kernel⟩
theorem ok_counts {f f_order_of f_put_to:Addr} {fd d_order_of d_put_to:FuncData} (F:Fun K "counts" "counts" s_counts f fd) (G_order_of:FnOk P w K mg base CX0 2 f_order_of d_order_of ["holes"] (SpP K (pfOrder))) (b_order_of:Binds K d_order_of ["holes"] []) (k_order_of:PySem.W.keepIn K (.ref f_order_of)=true) (m_order_of:mg "order_of" = some (.ref f_order_of)) (G_put_to:FnOk P w K mg base CX0 2 f_put_to d_put_to ["numbers", "order", "place", "times"] (SpP K (pfPut))) (b_put_to:Binds K d_put_to ["numbers", "order", "place", "times"] []) (k_put_to:PySem.W.keepIn K (.ref f_put_to)=true) (m_put_to:mg "put_to" = some (.ref f_put_to)) (mz_len:mg "len" = none) (mz_range:mg "range" = none):FnOk P w K mg base CX0 3 f fd ["holes", "deck"] (SpP K (pfCounts)):=by
  refine' fn_pure (k:=2) F sc_counts (fun cdv A outer s H E hr=>?hb) ?h
  case hb =>
    have hr1:Room 1 _:=hr.mono (by decide)
    have hr2:Room 2 _:=hr.mono (by decide)
    have hu64:=hr.units
    exact ds_cons (ds_set (i:=2) sc_counts.nd rfl (Or.inl rfl) (dp_call G_order_of hr2 rfl m_order_of k_order_of b_order_of pass0 (dpa_cons (dp_var (pv 0)) dpa_nil)))
      (ds_cons (ds_setO (i:=3) sc_counts.nd rfl (Or.inl rfl) (dp_rep (dp_lst (dpa_cons dp_int dpa_nil)) (dp_callB call_lenT cs_lenD rfl mz_len (by decide +kernel) (dpa_cons (dp_var (pv 2)) dpa_nil))))
      (ds_cons (ds_for PassesOwn.never rfl (dil (dp_var (pv 1))) (dg_name (i:=4) sc_counts.nd rfl (Or.inl rfl))
      (ds_one (ds_augX (pv 3) (dp_dget hu64 (dp_var (pv 2)) (dp_var (pv 4))) dp_int)))
      (ds_cons (ds_for PassesOwn.never rfl (di_range1 rfl mz_range (dpa_cons (dp_var (pv 0)) dpa_nil)) (dg_name (i:=5) sc_counts.nd rfl (Or.inl rfl))
      (ds_one (ds_setO (i:=3) sc_counts.nd rfl (Or.inl rfl) (dp_call G_put_to hr2 rfl m_put_to k_put_to b_put_to pass0 (dpa_cons (dp_var (pv 3)) (dpa_cons (dp_var (pv 2)) (dpa_cons (dp_var (pv 5)) (dpa_cons dp_int dpa_nil))))))))
      (ds_one (ds_ret (dp_take (pv 3)))))))
  case h =>
    rintro ds R ⟨h,deck,rfl,h0,h10,hd,hR⟩
    refine ⟨rfl,?_⟩
    array_get_dec
    refine ⟨h,rfl,h0,h10,fun L pe po=>?_⟩
    have nd:=words_nodup pe
    have ll:=(words_len (n:=h.toNat) (by omega) pe).1
    have en:((h.toNat:Nat):Int)=h:=by omega
    have hm:=fun w=>(words_mem (w:=w) pe)
    unfold ordD
    array_get_dec
    rw [ord_len]
    refine ⟨by omega,by omega,by rw [Int.toNat_natCast]; omega,?_⟩
    have e0:(List.replicate (L.length:Int).toNat [PyData.int 0]).flatten=(L.map (cnt1 [])).map PyData.int:=by
      rw [Int.toNat_natCast]
      clear pe po nd ll hm
      induction L with
      | nil=>rfl
      | cons x L ih=>rw [List.length_cons,List.replicate_succ,List.flatten_cons,ih]; rfl
    rw [e0]
    refine forI (l:=deck) (g:=wordD) rfl (fun i δ=>∃ (v4 v5:DV),δ=⟨[.dat .sh (.int h),.dat .sh (.list (deck.map wordD)),.dat .sh (.dict (dkv (ordK L))),.dat .ow (.list ((L.map (cnt1 (deck.take i))).map PyData.int)),v4,v5],0⟩∧NP v4∧NP v5) ?_ ?_ ?_
    · exact ⟨_,_,rfl,np_un,np_un⟩
    · rintro i c _ hc ⟨v4,v5,rfl,hv4,hv5⟩
      have cm:c∈L:=(hm c).mpr (by rw [en]; exact hd c (List.mem_of_getElem? hc))
      obtain ⟨j,e1,e2⟩:=ord_get cm
      have hj:=(List.getElem?_eq_some_iff.mp e1).1
      array_get_dec
      refine ⟨_,e2,?_⟩
      array_get_dec
      refine ⟨by omega,cnt1 (deck.take i) c,by rw [Int.toNat_natCast,List.getElem?_map,List.getElem?_map,e1]; rfl,?_⟩
      refine ⟨by simp [npk,hv5 _],by rw [List.length_map,List.length_map]; omega,?_⟩
      refine ⟨.dat .sh (wordD c),v5,ds_eq ?_ rfl,np_sh,hv5⟩
      rw [Int.toNat_natCast,num_set nd e1]
      have e4:(fun v=>if v=c then cnt1 (deck.take i) c+1 else cnt1 (deck.take i) v)=cnt1 (deck.take (i+1)):=by
        funext v
        unfold cnt1
        rw [take_more hc,List.count_append]
        by_cases e:v=c
        · subst e; simp
        · have : ¬ c=v:=fun z=>e z.symm
          simp [e,this,List.count_singleton]
      rw [e4]
    · rintro _ ⟨v4,v5,rfl,hv4,hv5⟩
      have hd':∀ c∈deck,Rising (h.toNat:Int) c:=fun c hc=>by rw [en]; exact hd c hc
      rw [List.take_length]
      array_get_dec
      refine ⟨by omega,by omega,?_⟩
      refine forI (l:=List.range h.toNat) (g:=fun i:Nat=>.int i) rfl (fun i δ=>∃ (m:Md) (v5:DV),δ=⟨[.dat .sh (.int h),.dat .sh (.list (deck.map wordD)),.dat .sh (.dict (dkv (ordK L))),.dat .ow (numD L (cntK deck i)),v4,v5],0⟩∧NP v5) ?_ ?_ ?_
      · refine ⟨.ow,_,ds_eq ?_ rfl,hv5⟩
        rw [num_congr (f:=cntK deck 0) (g:=cnt1 deck) fun w hw=>cnt_one hd' ((hm w).mp hw)]
        rfl
      · rintro i a _ ha ⟨m,v5,rfl,hv5⟩
        obtain ⟨rfl,hi⟩:=range_at ha
        array_get_dec
        refine ⟨h.toNat,L,cntK deck a,a,1,rfl,by omega,pe,by omega,by omega,.inl rfl,?_⟩
        try array_get_dec
        refine ⟨.ow,.dat .sh (.int a),ds_eq ?_ rfl,np_sh⟩
        rw [num_congr (f:=putM a 1 (cntK deck a)) (g:=cntK deck (a+1)) fun w _=>cnt_put deck a w]
      · rintro _ ⟨m,v5,rfl,hv5⟩
        rw [List.length_range]
        array_get_dec
        have:=hR L pe po
        rw [num_congr (f:=cntM deck) (g:=cntK deck h.toNat) fun w _=>(cnt_all hd' w).symm] at this
        exact this
theorem sc_law:FnScope ["_law_script", "_law_cell", "_law_draws_here", "_law_holes", "_law_deck_here", "_law_due", "_law_handed", "_law_turn", "_law_told"] ["_law_script"] (defScope sLaw):=⟨rfl,rfl,rfl,by decide +kernel,rfl,by decide +kernel,by decide +kernel⟩
theorem ok_law {f f_counts f_L_draws f_L_words f_L_lies f_L_few f_L_deck:Addr} {fd d_counts d_L_draws d_L_words d_L_lies d_L_few d_L_deck:FuncData} (F:Fun K "law" "law" sLaw f fd) (G_counts:FnOk P w K mg base CX0 3 f_counts d_counts ["holes", "deck"] (SpP K (pfCounts))) (b_counts:Binds K d_counts ["holes", "deck"] []) (k_counts:PySem.W.keepIn K (.ref f_counts)=true) (m_counts:mg "counts" = some (.ref f_counts)) (G_L_draws:FnOk P w K mg base CX0 1 f_L_draws d_L_draws ["_law_cell"] (spDrawsD)) (b_L_draws:Binds K d_L_draws ["_law_cell"] []) (k_L_draws:PySem.W.keepIn K (.ref f_L_draws)=true) (m_L_draws:mg "_law_draws" = some (.ref f_L_draws)) (G_L_words:FnOk P w K mg base CX0 1 f_L_words d_L_words ["_law_holes"] (SpP K (pfWords))) (b_L_words:Binds K d_L_words ["_law_holes"] []) (k_L_words:PySem.W.keepIn K (.ref f_L_words)=true) (m_L_words:mg "_law_words" = some (.ref f_L_words)) (G_L_lies:FnOk P w K mg base CX0 1 f_L_lies d_L_lies ["_law_one", "_law_other"] (SpP K (pfLies))) (b_L_lies:Binds K d_L_lies ["_law_one", "_law_other"] []) (k_L_lies:PySem.W.keepIn K (.ref f_L_lies)=true) (m_L_lies:mg "_law_lies" = some (.ref f_L_lies)) (G_L_few:FnOk P w K mg base CX0 2 f_L_few d_L_few ["_law_draws_here"] (SpW K (dfFew))) (b_L_few:Binds K d_L_few ["_law_draws_here"] []) (k_L_few:PySem.W.keepIn K (.ref f_L_few)=true) (m_L_few:mg "_law_few" = some (.ref f_L_few)) (G_L_deck:FnOk P w K mg base CX0 3 f_L_deck d_L_deck ["_law_draws_here", "_law_holes", "_law_limit"] (SpW K (dfDeck))) (b_L_deck:Binds K d_L_deck ["_law_draws_here", "_law_holes", "_law_limit"] []) (k_L_deck:PySem.W.keepIn K (.ref f_L_deck)=true) (m_L_deck:mg "_law_deck" = some (.ref f_L_deck)) (mz_int:mg "int" = none) (mz_len:mg "len" = none) (mz_list:mg "list" = none) (mz_range:mg "range" = none) (mz_isinstance:mg "isinstance" = none) (mz_bool:mg "bool" = none):FnOk P w K mg base CX0 4 f fd ["_law_script"] (spLawD K):=by
  refine' fn_law (k:=3) F sc_law (fun cdv A outer s H E hr=>?hb) ?h
  case hb =>
    have hr1:Room 1 _:=hr.mono (by decide)
    have hr2:Room 2 _:=hr.mono (by decide)
    have hr3:Room 3 _:=hr.mono (by decide)
    have hu64:=hr.units
    have CS1:∀ {scope:Scope} (h:scope={ kind:=.function,names:=[(".0",.local),("_law_word",.cell),("len",.globalImplicit),("_law_deck_here",.free)],isGenerator:=false,isCoroutine:=false }),
        CompScope (cxOf CX0 P w K mg base ["_law_script", "_law_cell", "_law_draws_here", "_law_holes", "_law_deck_here", "_law_due", "_law_handed", "_law_turn", "_law_told"] "law" (defScope sLaw) f cdv A outer s H E).nox scope [("_law_deck_here",s.heap.objs.size+1)] "_law_word" ["_law_deck_here"] [4]:=by
      rintro scope rfl
      refine ⟨by rfl,.inr ⟨"_law_word",fun _=>rfl,rfl,by decide +kernel⟩,by rfl,by decide +kernel,.inr rfl,fun y c h=>?_,by rfl,by decide +kernel,rfl,fun k y j e1 e2=>?_⟩
      · have z:=lookup_mem h
        simp only [List.mem_cons,List.not_mem_nil,or_false,Prod.mk.injEq] at z
        obtain ⟨rfl,rfl⟩:=z; rfl
      · match k,e1,e2 with
        | 0,e1,e2=>cases e1; cases e2; exact ⟨rfl,rfl,by first | exact .inl rfl | exact .inr rfl⟩
        | k+1,e1,e2=>cases e1
    have CS2:∀ {scope:Scope} (h:scope={ kind:=.function,names:=[(".0",.local),("_law_card",.local),("_law_lies",.globalImplicit),("_law_word",.free)],isGenerator:=false,isCoroutine:=false }) (fp0:List Addr) (s0:Shared) (H0:Hp),
        CompScope (cxComp (cxOf CX0 P w K mg base ["_law_script", "_law_cell", "_law_draws_here", "_law_holes", "_law_deck_here", "_law_due", "_law_handed", "_law_turn", "_law_told"] "law" (defScope sLaw) f cdv A outer s H E).nox { kind:=.function,names:=[(".0",.local),("_law_word",.cell),("len",.globalImplicit),("_law_deck_here",.free)],isGenerator:=false,isCoroutine:=false } [("_law_deck_here",s.heap.objs.size+1)] ["_law_word", "_law_deck_here"] fp0 s0 H0) scope [("_law_word",s0.heap.objs.size+1)] "_law_card" ["_law_word"] [0]:=by
      rintro scope rfl fp0 s0 H0
      refine ⟨by rfl,.inl (by decide +kernel),by rfl,by decide +kernel,.inl rfl,fun y c h=>?_,by rfl,by decide +kernel,rfl,fun k y j e1 e2=>?_⟩
      · have z:=lookup_mem h
        simp only [List.mem_cons,List.not_mem_nil,or_false,Prod.mk.injEq] at z
        obtain ⟨rfl,rfl⟩:=z; rfl
      · match k,e1,e2 with
        | 0,e1,e2=>cases e1; cases e2; exact ⟨rfl,rfl,by first | exact .inl rfl | exact .inr rfl⟩
        | k+1,e1,e2=>cases e1
    have CS3:∀ {scope:Scope} (h:scope={ kind:=.function,names:=[(".0",.local),("_law_one",.local),("isinstance",.globalImplicit),("bool",.globalImplicit)],isGenerator:=false,isCoroutine:=false }),
        CompScope (cxOf CX0 P w K mg base ["_law_script", "_law_cell", "_law_draws_here", "_law_holes", "_law_deck_here", "_law_due", "_law_handed", "_law_turn", "_law_told"] "law" (defScope sLaw) f cdv A outer s H E).nox scope [] "_law_one" [] []:=by
      rintro scope rfl
      exact Nd.compScope0 (by rfl) (by decide +kernel) (by rfl) (by decide +kernel) (by rfl) (by rfl)
    exact ds_cons (ds_for PassesOwn.never rfl (dil (dp_cat (dp_scrSl (pv 0) dpo_none (dpo_some dp_int)) (dp_lst (dpa_cons dp_int dpa_nil)))) (dg_name (i:=1) sc_law.nd rfl (Or.inl rfl))
      (ds_cons (ds_set (i:=2) sc_law.nd rfl (Or.inl rfl) (dp_draws G_L_draws hr1 rfl m_L_draws k_L_draws b_L_draws pass0 (dpa_cons (dp_var (pv 1)) dpa_nil)))
        (ds_cons (ds_set (i:=3) sc_law.nd rfl (Or.inl rfl) (dp_callW G_L_few hr2 rfl m_L_few k_L_few b_L_few pass0 (pv 2) dpa_nil))
        (ds_cons (ds_set (i:=4) sc_law.nd rfl (Or.inr rfl) (dp_callW G_L_deck hr3 rfl m_L_deck k_L_deck b_L_deck pass0 (pv 2) (dpa_cons (dp_var (pv 3)) (dpa_cons (dp_ixS (dp_lst (dpa_cons dp_int (dpa_cons dp_int dpa_nil))) (dp_callTy call_int1 cs_int rfl mz_int (by decide +kernel) (dpa_cons (dp_gt (dp_var (pv 3)) dp_int) dpa_nil))) dpa_nil))))
        (ds_cons (ds_setC (o:=false) (i0:=5) sc_law.nd rfl rfl (CS1 rfl) rfl (dil (dp_call G_L_words hr1 rfl m_L_words k_L_words b_L_words pass0 (dpa_cons (dp_var (pv 3)) dpa_nil))) (fun _ _ _=>dts_none) (fun _ _ _=>dp_callB call_len cs_len rfl mz_len (by decide +kernel) (dpa_cons (dp_comp (CS2 rfl _ _ _) rfl (dil (dp_var (pv 1))) (fun _ _ _=>dts_one (dt_val (dp_call G_L_lies hr1 rfl m_L_lies k_L_lies b_L_lies pass0 (dpa_cons (dp_var (pv 1)) (dpa_cons (dp_var (pv 0)) dpa_nil))))) (fun _ _ _=>dp_var (pv 0))) dpa_nil)))
        (ds_cons (ds_set (i:=6) sc_law.nd rfl (Or.inl rfl) (dp_callTy list_ok (cs_list (i:=true)) rfl mz_list (by decide +kernel) (dpa_cons (dp_var (pv 4)) dpa_nil)))
        (ds_one (ds_for PassesOwn.never rfl (di_range1 rfl mz_range (dpa_cons dp_int dpa_nil)) (dg_name (i:=7) sc_law.nd rfl (Or.inl rfl))
        (ds_cons (ds_setO (i:=8) sc_law.nd rfl (Or.inl rfl) (dp_call G_counts hr3 rfl m_counts k_counts b_counts pass0 (dpa_cons (dp_var (pv 3)) (dpa_cons (dp_var (pv 6)) dpa_nil))))
          (ds_cons (ds_if (dt_w (dw_or (dt_not (dt_val (dp_callB isi_ok cs_isi rfl mz_isinstance (by decide +kernel) (dpa_cons (dp_var (pv 8)) (dpa_cons (dp_ty (n := "list") rfl mz_list (by decide +kernel)) dpa_nil))))) (dw_or (dt_ne hu64 (dp_var (pv 8)) (dp_var (pv 5))) (dw_or1 (dt_ne hu64 (dp_var (pv 6)) (dp_var (pv 4)))))))
          (ds_one (ds_ret dp_bl)) ds_nil)
          (ds_cons (ds_if (dt_ne hu64 (dp_comp (CS3 rfl) rfl (dil (dp_var (pv 8))) (fun _ _ _=>dts_one (dt_val (dp_callB isi_ok cs_isi rfl mz_isinstance (by decide +kernel) (dpa_cons (dp_var (pv 0)) (dpa_cons (dp_ty (n := "bool") rfl mz_bool (by decide +kernel)) dpa_nil))))) (fun _ _ _=>dp_var (pv 0))) (dp_lst dpa_nil))
          (ds_one (ds_ret dp_bl)) ds_nil)
          (ds_one (ds_append (pv 8) dp_non)))))))))))))
      (ds_one (ds_ret dp_bl))
  case h =>
    intro ns h63
    array_get_dec
    have lc:(cutG ns none (some 3)).length≤3:=cut_k 3
    refine ⟨by rw [List.length_map]; omega,?_⟩
    refine forI (l:=cutG ns none (some 3)++[0]) (g:=PyData.int) (by rw [List.map_append]; rfl) (fun i δ=>∃ (l:List DV) (n':Nat),δ=⟨.scr ns::l,n'⟩∧l.length=8∧(∀ v∈l,NP v)∧n'≤300 * i) ?_ ?_ ?_
    · exact ⟨_,_,rfl,rfl,by simp [np_un],by omega⟩
    · rintro i c _ hc ⟨l,n0,rfl,hl,hv,hn⟩
      have hi:i<4:=by
        have:=(List.getElem?_eq_some_iff.mp hc).1
        rw [List.length_append,List.length_singleton] at this
        omega
      match l,hl with
      | [v1,v2,v3,v4,v5,v6,v7,v8],_ =>
      simp only [List.forall_mem_cons] at hv
      obtain ⟨hv1,hv2,hv3,hv4,hv5,hv6,hv7,hv8,-⟩:=hv
      array_get_dec
      refine ⟨rfl,by omega,fun h h0 h1=>?_⟩
      array_get_dec
      obtain ⟨m,em,m0,m1⟩ : ∃ m:Int,atI [PyData.int 60,.int 20] (if decide (8<h)=true then 1 else 0)=some (.int m)∧0≤m∧m≤60:=by
        rw [pick2]
        cases decide (8<h)
        · exact ⟨60,rfl,by decide,by decide⟩
        · exact ⟨20,rfl,by decide,by decide⟩
      refine ⟨_,em,h,m,rfl,h0,h1,m0,m1,by omega,fun deck n1 k1 k2 ld hd=>?_⟩
      refine ⟨h,rfl,by omega,h1,fun L pe po=>?_⟩
      have ll:=(words_len (n:=h.toNat) (by omega) pe).1
      array_get_dec
      refine compM (l:=L) (g:=wordD) rfl (fun w=>.int (cntM deck w)) (fun w hw yes no hy=>?_) ?_
      · array_get_dec
        refine compI (l:=deck) (g:=wordD) rfl (fun c=>sub w c) wordD (fun c hc yes' no' hy' hn'=>?_) ?_
        · array_get_dec
          refine ⟨w,c,rfl,?_⟩
          refine stepB_2 (fun hb=>?_) (fun hb=>?_)
          · array_get_dec
            exact hy' hb
          · exact hn' hb
        · array_get_dec
          rw [List.length_map,← List.countP_eq_length_filter]
          exact hy
      rw [show L.map (fun w=>PyData.int (cntM deck w))=(L.map (cntM deck)).map PyData.int by rw [List.map_map]; rfl]
      array_get_dec
      refine forI (l:=List.range 3) (g:=fun i:Nat=>.int i) rfl (fun i δ=>∃ (v7 v8:DV),δ=⟨[.scr ns,.dat .sh (.int c),.drw,.dat .sh (.int h),.dat .sh (.list (deck.map wordD)),.dat .sh (.list ((L.map (cntM deck)).map PyData.int)),.dat .sh (.list (deck.map wordD)),v7,v8],n1⟩∧NP v7∧NP v8) ?_ ?_ ?_
      · exact ⟨_,_,rfl,hv7,hv8⟩
      · clear hv7 hv8
        rintro j a _ ha ⟨v7,v8,rfl,hv7,hv8⟩
        array_get_dec
        refine ⟨h,deck,rfl,by omega,h1,hd,fun L' pe' po'=>?_⟩
        obtain rfl:L'=L:=ord_same (pe'.trans pe.symm) po' po
        unfold numD
        array_get_dec
        refine compI (l:=L'.map (cntM deck)) (g:=PyData.int) rfl (fun _=>false) (fun i=>.int i) (fun z _ yes no hy hn=>?_) ?_
        · array_get_dec
          exact hn rfl
        · rw [List.filter_eq_nil_iff.mpr fun _ _=>by simp]
          array_get_dec
          refine ⟨by rw [List.length_map,List.length_map]; omega,?_⟩
          exact ⟨_,_,rfl,np_sh,np_ow⟩
      · rintro _ ⟨v7,v8,rfl,hv7,hv8⟩
        exact ⟨_,_,rfl,rfl,by simp only [List.forall_mem_cons]; exact ⟨np_sh,np_drw,np_sh,np_sh,np_sh,np_sh,hv7,hv8,np_nil⟩,by omega⟩
    · rintro _ ⟨l,n0,rfl,hl,hv,hn⟩
      array_get_dec
end
end K51
namespace K51
open PySem L2 Nd DL
structure Def (K:PySem.W.Frag) (x:Str) (st:Stmt) (f:Addr) (fd:FuncData):Prop where
  nm:PySem.W.nsIn K mainGlobals x=some (some (.ref f))
  fn:Fun K x x st f fd
theorem def_mk {K:PySem.W.Frag} {x:Str} {st:Stmt} {f:Addr} {od an:Option Addr} {sl:Array (Option Value)} {oc kV dc pm cd ct:Value} (a:PySem.W.nsIn K mainGlobals x=some (some (.ref f))) (l:K.lookup f=some ⟨oc,od,.func (PySem.W.fnOf x x (defArgs st) (defBody st) (defScope st) .none kV dc pm an cd ct),sl⟩) (c:PySem.W.codeIn K cd x=true) (k:PySem.W.keepIn K (.ref f)=true):Def K x st f (PySem.W.fnOf x x (defArgs st) (defBody st) (defScope st) .none kV dc pm an cd ct):=⟨a,fun_mk l c k⟩
theorem all_mk {l:PySem.W.OpenLaw} {w:World} {K:PySem.W.Frag} {h:Heap} {mg:Str→Option Value} {fa f1 f2 f3 f4 f5 f6 f7 f8 f9 f10 f11 f12 f13:Addr} {d1 d2 d3 d4 d5 d6 d7 d8 d9 d10 d11 d12:FuncData} (X:K.In h) (G:h.Ns mainGlobals mg) (hfa:mg "law" = some (.ref fa)) {od an:Option Addr} {sl:Array (Option Value)} {oc kV dc pm cd ct:Value} (D1:Def K "_law_draws" sDraws f1 d1) (D2:Def K "_law_next" sNext f2 d2) (D3:Def K "together" s_together f3 d3) (D4:Def K "all_words" s_all_words f4 d4) (D5:Def K "_law_words" s__law_words f5 d5) (D6:Def K "_law_small" s__law_small f6 d6) (D7:Def K "_law_few" s__law_few f7 d7) (D8:Def K "_law_lies" s__law_lies f8 d8) (D9:Def K "_law_deck" s__law_deck f9 d9) (D10:Def K "order_of" s_order_of f10 d10) (D11:Def K "put_to" s_put_to f11 d11) (D12:Def K "counts" s_counts f12 d12) (aL:PySem.W.nsIn K mainGlobals "law" = some (some (.ref f13))) (lL:K.lookup f13=some ⟨oc,od,.func (PySem.W.fnOf "law" "law" (defArgs sLaw) (defBody sLaw) (defScope sLaw) .none kV dc pm an cd ct),sl⟩) (cL:PySem.W.codeIn K cd "law" = true) (kL:PySem.W.keepIn K (.ref f13)=true) (z1:PySem.W.nsIn K mainGlobals "tuple" = some none) (z2:PySem.W.nsIn K mainGlobals "sorted" = some none) (z3:PySem.W.nsIn K mainGlobals "set" = some none) (z4:PySem.W.nsIn K mainGlobals "range" = some none) (z5:PySem.W.nsIn K mainGlobals "int" = some none) (z6:PySem.W.nsIn K mainGlobals "len" = some none) (z7:PySem.W.nsIn K mainGlobals "enumerate" = some none) (z8:PySem.W.nsIn K mainGlobals "zip" = some none) (z9:PySem.W.nsIn K mainGlobals "list" = some none) (z10:PySem.W.nsIn K mainGlobals "isinstance" = some none) (z11:PySem.W.nsIn K mainGlobals "bool" = some none):∃ fd:FuncData,(∀ (s:Shared) (v:Value),BindsTo s fd ⟨[v],[]⟩ [("_law_script",v)])∧∀ base:Heap,K.In base→base.Ns mainGlobals mg→FnOk l.prog w K mg base CX0 4 fa fd ["_law_script"] (DL.spLawD K):=by
  have e:=hfa.symm.trans (PySem.W.mg_of X G aL)
  cases e
  have FL:=fun_mk (st:=sLaw) lL cL kL
  have b1:=D1.fn.binds (ps:=["_law_cell"]) fun _ _ _ _ _ _ us hl=>match us,hl with | [_],_=>rfl
  have b2:=D2.fn.binds (ps:=["_law_draws_here"]) fun _ _ _ _ _ _ us hl=>match us,hl with | [_],_=>rfl
  have b3:=D3.fn.binds (ps:=["one", "other"]) fun _ _ _ _ _ _ us hl=>match us,hl with | [_,_],_=>rfl
  have b4:=D4.fn.binds (ps:=["holes"]) fun _ _ _ _ _ _ us hl=>match us,hl with | [_],_=>rfl
  have b5:=D5.fn.binds (ps:=["_law_holes"]) fun _ _ _ _ _ _ us hl=>match us,hl with | [_],_=>rfl
  have b6:=D6.fn.binds (ps:=["_law_draws_here", "_law_holes"]) fun _ _ _ _ _ _ us hl=>match us,hl with | [_,_],_=>rfl
  have b7:=D7.fn.binds (ps:=["_law_draws_here"]) fun _ _ _ _ _ _ us hl=>match us,hl with | [_],_=>rfl
  have b8:=D8.fn.binds (ps:=["_law_one", "_law_other"]) fun _ _ _ _ _ _ us hl=>match us,hl with | [_,_],_=>rfl
  have b9:=D9.fn.binds (ps:=["_law_draws_here", "_law_holes", "_law_limit"]) fun _ _ _ _ _ _ us hl=>match us,hl with | [_,_,_],_=>rfl
  have b10:=D10.fn.binds (ps:=["holes"]) fun _ _ _ _ _ _ us hl=>match us,hl with | [_],_=>rfl
  have b11:=D11.fn.binds (ps:=["numbers", "order", "place", "times"]) fun _ _ _ _ _ _ us hl=>match us,hl with | [_,_,_,_],_=>rfl
  have b12:=D12.fn.binds (ps:=["holes", "deck"]) fun _ _ _ _ _ _ us hl=>match us,hl with | [_,_],_=>rfl
  have m1:=PySem.W.mg_of X G D1.nm
  have m2:=PySem.W.mg_of X G D2.nm
  have m3:=PySem.W.mg_of X G D3.nm
  have m4:=PySem.W.mg_of X G D4.nm
  have m5:=PySem.W.mg_of X G D5.nm
  have m6:=PySem.W.mg_of X G D6.nm
  have m7:=PySem.W.mg_of X G D7.nm
  have m8:=PySem.W.mg_of X G D8.nm
  have m9:=PySem.W.mg_of X G D9.nm
  have m10:=PySem.W.mg_of X G D10.nm
  have m11:=PySem.W.mg_of X G D11.nm
  have m12:=PySem.W.mg_of X G D12.nm
  have y1:=PySem.W.mg_none_of X G z1
  have y2:=PySem.W.mg_none_of X G z2
  have y3:=PySem.W.mg_none_of X G z3
  have y4:=PySem.W.mg_none_of X G z4
  have y5:=PySem.W.mg_none_of X G z5
  have y6:=PySem.W.mg_none_of X G z6
  have y7:=PySem.W.mg_none_of X G z7
  have y8:=PySem.W.mg_none_of X G z8
  have y9:=PySem.W.mg_none_of X G z9
  have y10:=PySem.W.mg_none_of X G z10
  have y11:=PySem.W.mg_none_of X G z11
  refine ⟨PySem.W.fnOf "law" "law" (defArgs sLaw) (defBody sLaw) (defScope sLaw) .none kV dc pm an cd ct,fun s v=>.of_eq rfl,fun base _ _=>?_⟩
  have g1:=ok_drawsD (P:=l.prog) (w:=w) (mg:=mg) (base:=base) D1.fn
  have g2:=ok_nextD (P:=l.prog) (w:=w) (mg:=mg) (base:=base) D2.fn
  have g3:=ok_togetherD (P:=l.prog) (w:=w) (mg:=mg) (base:=base) D3.fn y1 y2 y3
  have g4:=ok_all_words (P:=l.prog) (w:=w) (mg:=mg) (base:=base) D4.fn y4 y2
  have g5:=ok__law_words (P:=l.prog) (w:=w) (mg:=mg) (base:=base) D5.fn y4 y2
  have g6:=ok__law_small (P:=l.prog) (w:=w) (mg:=mg) (base:=base) D6.fn g2 b2 D2.fn.kp m2 y4 y1
  have g7:=ok__law_few (P:=l.prog) (w:=w) (mg:=mg) (base:=base) D7.fn g2 b2 D2.fn.kp m2 y5
  have g8:=ok__law_lies (P:=l.prog) (w:=w) (mg:=mg) (base:=base) D8.fn
  have g9:=ok__law_deck (P:=l.prog) (w:=w) (mg:=mg) (base:=base) D9.fn g2 b2 D2.fn.kp m2 g6 b6 D6.fn.kp m6 y4 y6 y2 y3 y1
  have g10:=ok_order_of (P:=l.prog) (w:=w) (mg:=mg) (base:=base) D10.fn g4 b4 D4.fn.kp m4 y7
  have g11:=ok_put_to (P:=l.prog) (w:=w) (mg:=mg) (base:=base) D11.fn g3 b3 D3.fn.kp m3 y8
  have g12:=ok_counts (P:=l.prog) (w:=w) (mg:=mg) (base:=base) D12.fn g10 b10 D10.fn.kp m10 g11 b11 D11.fn.kp m11 y6 y4
  exact ok_law FL g12 b12 D12.fn.kp m12 g1 b1 D1.fn.kp m1 g5 b5 D5.fn.kp m5 g8 b8 D8.fn.kp m8 g7 b7 D7.fn.kp m7 g9 b9 D9.fn.kp m9 y5 y6 y9 y4 y10 y11
theorem walk {l:PySem.W.OpenLaw} {q:Program} {loose:List Str} {XP:(Str→Option Value)→Heap→Prop} {YP:World→Heap→Prop} {d:DefRec} {K:Params→PySem.W.Frag} (hn:l.most=some 63) (hdf:d.params.defaults=[]) (hY:∀ (w:World) (h:Heap),YP w h→(K w.params).In h) (F:∀ (w:World) (mg:Str→Option Value) (fa:Addr) (h:Heap),(K w.params).In h→h.Ns mainGlobals mg→mg d.name=some (.ref fa)→∃ fd:FuncData,(∀ (s:Shared) (u:Value),BindsTo s fd ⟨[u],[]⟩ [("_law_script",u)])∧∀ base:Heap,(K w.params).In base→base.Ns mainGlobals mg→FnOk l.prog w (K w.params) mg base CX0 4 fa fd ["_law_script"] (DL.spLawD (K w.params))):PySem.W.WalkO q loose XP YP l.row.toRowW d [] (fun f vs=>PySem.call f vs) :=
  L2.walk_ofD (n:=63) (k:=4) (x := "_law_script") (CX:=fun _=>CX0) (sp:=fun w=>DL.spLawD (K w.params)) hn (by decide) hdf ⟨rfl,by decide,by decide,rfl⟩ hY F (fun _ _ a ns hl _ hS=>⟨a,ns,rfl,hS,hl,fun _=>rfl⟩) fun _ _ _ _ _ z=>z
end K51
open PySem PySem.W PyProof.Rows
set_option maxRecDepth 100000 in
set_option maxHeartbeats 0 in
theorem PySem.Challenge.cw_needledeck_k51_counts_of_all_needlings_holds : PySem.Challenge.rw_needledeck_k51_counts_of_all_needlings.Holds := by
  w_on; o_law; k_head; (case hw=>w_witness2)
  k_fill
  refine K51.walk (l:=PySem.Challenge.rw_needledeck_k51_counts_of_all_needlings) rfl rfl (fun w h Y=>PySem.W.kIn_of Y) ?F
  case F =>
    intro w mg fa h KX G hmg
    refine' K51.all_mk KX G hmg (K51.def_mk ?a1 ?l1 ?c1 ?k1) (K51.def_mk ?a2 ?l2 ?c2 ?k2) (K51.def_mk ?a3 ?l3 ?c3 ?k3) (K51.def_mk ?a4 ?l4 ?c4 ?k4) (K51.def_mk ?a5 ?l5 ?c5 ?k5) (K51.def_mk ?a6 ?l6 ?c6 ?k6) (K51.def_mk ?a7 ?l7 ?c7 ?k7) (K51.def_mk ?a8 ?l8 ?c8 ?k8) (K51.def_mk ?a9 ?l9 ?c9 ?k9) (K51.def_mk ?a10 ?l10 ?c10 ?k10) (K51.def_mk ?a11 ?l11 ?c11 ?k11) (K51.def_mk ?a12 ?l12 ?c12 ?k12) ?aL ?lL ?cL ?kL ?z1 ?z2 ?z3 ?z4 ?z5 ?z6 ?z7 ?z8 ?z9 ?z10 ?z11
    (case a1=>k_is); (case l1=>k_is); (case c1=>k_is); (case k1=>k_is)
    (case a2=>k_is); (case l2=>k_is); (case c2=>k_is); (case k2=>k_is)
    (case a3=>k_is); (case l3=>k_is); (case c3=>k_is); (case k3=>k_is)
    (case a4=>k_is); (case l4=>k_is); (case c4=>k_is); (case k4=>k_is)
    (case a5=>k_is); (case l5=>k_is); (case c5=>k_is); (case k5=>k_is)
    (case a6=>k_is); (case l6=>k_is); (case c6=>k_is); (case k6=>k_is)
    (case a7=>k_is); (case l7=>k_is); (case c7=>k_is); (case k7=>k_is)
    (case a8=>k_is); (case l8=>k_is); (case c8=>k_is); (case k8=>k_is)
    (case a9=>k_is); (case l9=>k_is); (case c9=>k_is); (case k9=>k_is)
    (case a10=>k_is); (case l10=>k_is); (case c10=>k_is); (case k10=>k_is)
    (case a11=>k_is); (case l11=>k_is); (case c11=>k_is); (case k11=>k_is)
    (case a12=>k_is); (case l12=>k_is); (case c12=>k_is); (case k12=>k_is)
    (case aL=>k_is); (case lL=>k_is); (case cL=>k_is); (case kL=>k_is)
    (case z1=>k_is); (case z2=>k_is); (case z3=>k_is); (case z4=>k_is); (case z5=>k_is); (case z6=>k_is); (case z7=>k_is); (case z8=>k_is); (case z9=>k_is); (case z10=>k_is); (case z11=>k_is)
