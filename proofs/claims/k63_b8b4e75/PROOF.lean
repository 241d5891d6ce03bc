import PyProof.Rows.All
import Wide.All
import OpenK.AllK
import Wide.FinOn
import Lean
import PyProof.EqAt
import PyProof.EqKinds
import PyProof.TupleCall
import PyProof.FactsAll.set
import PyProof.FactsAll.subtypes
import KE.KTupSum
import KE.KMinBuiltin
import PyProof.Draws
import PyProof.DictWalks
import PyProof.DictCompW
import PyProof.IsiH_tuple
import PyProof.FactsAll.zip
import KE.KDictOf
import PyProof.DictValues
import PySem.Challenge.RW_needledeck_k63_what_is_found
set_option Elab.async false
set_option linter.all false
set_option maxRecDepth 100000
set_option maxHeartbeats 4000000
namespace L2
open PySem PySem.Spec PyProof.Rows
abbrev Key:=Sum Int Str
def keyIs:Key→Value→Bool
  | .inl k,v=>Value.isInt k v
  | .inr x,v=>Value.isStrOf x v
def keyH (w:World):Key→Int
  | .inl k=>hashInt k
  | .inr x=>hashStr w x
theorem keyIs_shape:∀ {k:Key} {v:Value},keyIs k v=true→(∃ i t,k=Sum.inl i∧v=Value.int i t)∨(∃ x t,k=Sum.inr x∧v=Value.str x t)
  | .inl i,v,h=>by
    obtain ⟨t,e⟩:=Value.isInt_shape (k:=i) (v:=v) h
    exact .inl ⟨i,t,rfl,e⟩
  | .inr x,v,h=>by
    obtain ⟨t,e⟩:=Value.isStrOf_shape (x:=x) (v:=v) h
    exact .inr ⟨x,t,rfl,e⟩
theorem key_ll (a b:Int):decide ((Sum.inl a:Key)=Sum.inl b)=(a == b):=by
  by_cases e:a=b
  · subst e; simp
  · have h:¬ (Sum.inl a:Key)=Sum.inl b:=fun q=>e (Sum.inl.inj q)
    rw [decide_eq_false h]
    exact (beq_eq_false_iff_ne.mpr e).symm
theorem key_rr (a b:Str):decide ((Sum.inr a:Key)=Sum.inr b)=decide (a=b):=by
  by_cases e:a=b
  · subst e; simp
  · have h:¬ (Sum.inr a:Key)=Sum.inr b:=fun q=>e (Sum.inr.inj q)
    rw [decide_eq_false h,decide_eq_false e]
theorem key_lr (a:Int) (b:Str):decide ((Sum.inl a:Key)=Sum.inr b)=false:=decide_eq_false (fun q=>nomatch q)
theorem key_rl (a:Str) (b:Int):decide ((Sum.inr a:Key)=Sum.inl b)=false:=decide_eq_false (fun q=>nomatch q)
def mixKind (prog:Program) (w:World):PySem.KeyKind prog w Key where
  is:=keyIs
  hash:=keyH w
  inj:=fun v a b ha hb=>by
    rcases keyIs_shape ha with ⟨i,t,rfl,rfl⟩ | ⟨x,t,rfl,rfl⟩
    · rcases keyIs_shape hb with ⟨j,u,rfl,e⟩ | ⟨y,u,rfl,e⟩
      · injection e with e1 _; rw [e1]
      · exact nomatch e
    · rcases keyIs_shape hb with ⟨j,u,rfl,e⟩ | ⟨y,u,rfl,e⟩
      · exact nomatch e
      · injection e with e1 _; rw [e1]
  byValue:=fun k v h=>by
    rcases keyIs_shape h with ⟨i,t,rfl,rfl⟩ | ⟨x,t,rfl,rfl⟩ <;> rfl
  pyHash:=fun hv h=>by
    rcases keyIs_shape hv with ⟨i,t,rfl,rfl⟩ | ⟨x,t,rfl,rfl⟩
    · exact wpAny_pyHash_int h
    · exact wpAny_pyHash_str h
  eqBool:=fun hu hv h=>by
    rcases keyIs_shape hu with ⟨i,t,rfl,rfl⟩ | ⟨x,t,rfl,rfl⟩
    · rcases keyIs_shape hv with ⟨j,u,rfl,rfl⟩ | ⟨y,u,rfl,rfl⟩
      · rw [key_ll] at h; exact wpAny_eqBool_int h
      · rw [key_lr] at h; exact SeqAt.EqAt.int_str i t y u _ _ _ _ h
    · rcases keyIs_shape hv with ⟨j,u,rfl,rfl⟩ | ⟨y,u,rfl,rfl⟩
      · rw [key_rl] at h; exact SeqAt.EqAt.str_int x t j u _ _ _ _ h
      · rw [key_rr] at h; exact wpAny_eqBool_str h
  «strs»:=fun k x t v h=>by
    rcases keyIs_shape h with ⟨i,u,rfl,e⟩ | ⟨y,u,rfl,e⟩
    · exact nomatch e
    · injection e with e1 _
      subst e1
      cases v <;> rfl
end L2
namespace L2
open PySem PySem.Spec PyProof.Rows
inductive V where
  | non | bl (b:Bool) | int (i:Int) | str (x:Str) | byt (b:Array UInt8) | flt (b:UInt64) | ref (a:Addr) | ty (n:String)
  deriving DecidableEq
def RelV:V→Value→Prop
  | .non,u=>u=Value.none
  | .bl b,u=>u=Value.bool b
  | .int i,u=>∃ t,u=Value.int i t
  | .str x,u=>∃ t,u=Value.str x t
  | .byt b,u=>∃ t,u=Value.bytes b t
  | .flt b,u=>∃ t,u=Value.float b t
  | .ref a,u=>u=Value.ref a
  | .ty n,u=>u=Value.type n
abbrev Vals:List V→List Value→Prop:=Paired RelV
theorem Vals.length {xs:List V} {us:List Value} (r:Vals xs us):xs.length=us.length:=Paired.length r
theorem Vals.get:∀ {xs:List V} {us:List Value} {i:Nat} {x:V},Vals xs us→xs[i]? = some x→∃ u,us[i]? = some u∧RelV x u
  | _,_,_,_,.nil,e=>by simp at e
  | _,_,0,_,.cons r _,e=>by simp at e; subst e; exact ⟨_,rfl,r⟩
  | _,_,i+1,x,.cons _ t,e=>by
    obtain ⟨u,h1,h2⟩:=Vals.get (i:=i) (x:=x) t (by simpa using e)
    exact ⟨u,by simpa using h1,h2⟩
theorem Vals.set {x:V} {u:Value} (r:RelV x u):∀ {xs:List V} {us:List Value} (i:Nat),Vals xs us→Vals (xs.set i x) (us.set i u)
  | _,_,_,.nil=>.nil
  | _,_,0,.cons _ t=>.cons r t
  | _,_,i+1,.cons q t=>.cons q (Vals.set r i t)
theorem Vals.append:∀ {xs ys:List V} {us ws:List Value},Vals xs us→Vals ys ws→Vals (xs++ys) (us++ws)
  | _,_,_,_,.nil,s=>s
  | _,_,_,_,.cons r t,s=>.cons r (Vals.append t s)
theorem Vals.take:∀ {xs:List V} {us:List Value} (n:Nat),Vals xs us→Vals (xs.take n) (us.take n)
  | _,_,0,_=>.nil
  | _,_,_+1,.nil=>.nil
  | _,_,n+1,.cons r t=>.cons r (Vals.take n t)
theorem Vals.drop:∀ {xs:List V} {us:List Value} (n:Nat),Vals xs us→Vals (xs.drop n) (us.drop n)
  | _,_,0,r=>r
  | _,_,_+1,.nil=>.nil
  | _,_,n+1,.cons _ t=>Vals.drop n t
def RelO:Option V→Option Value→Prop
  | some v,some u=>RelV v u
  | none,none=>True
  | _,_=>False
def KV {κ:Type}:List (κ×V)→List (κ×Value)→Prop:=Paired fun (p:κ×V) (q:κ×Value)=>p.1=q.1∧RelV p.2 q.2
def kV:Key→V
  | .inl i=>.int i
  | .inr x=>.str x
inductive HO where
  /-- a list -/
  | lst (xs:List V)
  /-- a tuple (never changes) -/
  | tup (xs:List V)
  /-- a dict whose keys are ints and texts; one whose keys are tuples of ints and texts (the empty one is both) -/
  | dK (kvs:List (Key×V)) | dT (kvs:List (List Key×V))
  /-- a set of ints: its members,its size -/
  | set (S:Int→Bool) (n:Nat)
  /-- an instance of the class at C,its dict at dx,its attributes -/
  | ins (C dx:Addr) (fs:List (Str×V))
  /-- the dict of the instance at x -/
  | own (x:Addr)
  /-- the dict of an exception -/
  | xd (fs:List (Str×V))
  /-- a bound method,f of x -/
  | met (f x:Addr)
  /-- a range object lo,lo+1,.. below hi -/
  | rng (lo hi:Int)
  /-- a thing that is known to the object (the script; a dict while a loop walks it): read,never written while it is so -/
  | frz (o:Obj) (u:HO)
  /-- a code object's table -/
  | tbl (ps:Array Value)
  /-- any other thing,by what is true of its one object (a def of one's own: SetO a S n:=HO.ext fun h=>..) -/
  | ext (φ:Heap→Prop)
abbrev Hp:=Addr→Option HO
def upd (H:Hp) (a:Addr) (o:HO):Hp:=fun b=>if b=a then some o else H b
theorem upd_same {H:Hp} {a:Addr} {o:HO}:upd H a o a=some o:=by unfold upd; rw [if_pos rfl]
theorem upd_ne {H:Hp} {a b:Addr} {o:HO} (h:b≠a):upd H a o b=H b:=by unfold upd; rw [if_neg h]
theorem ne_of_none {H:Hp} {a b:Addr} {o:HO} (h:H a=some o) (h':H b=none):a≠b:=by
  intro e; subst e; rw [h] at h'; cases h'
section
variable (P:Program) (w:World)
def ObjOk (H:Hp) (h:Heap) (a:Addr):HO→Prop
  | .lst xs=>xs.length≤sizeLine∧∃ (its:List Value) (n:Nat),Vals xs its∧h.get? a=some { cls:=.type "list",data:=.seq its.toArray n }
  | .tup xs=>xs.length≤sizeLine∧∃ its:List Value,Vals xs its∧IsTup h a its.toArray
  | .dK kvs=>kvs.length≤sizeLine∧(a == sysModules)=false∧∃ vs,KV kvs vs∧h.DictOf (mixKind P w) a vs
  | .dT kvs=>kvs.length≤sizeLine∧(a == sysModules)=false∧∃ xs:List (List Key×Addr×Value),
      Paired (fun (p:List Key×V) (q:List Key×Addr×Value)=>p.1=q.1∧H q.2.1=some (.tup (p.1.map kV))∧RelV p.2 q.2.2) kvs xs ∧
      ∃ o es ep,h.get? a=some o∧o.ExactDict∧o.data=.dict es ep∧es.toList=xs.map (entryOfKey (tupleKind (mixKind P w)))∧(xs.map (·.1)).Nodup∧ep=es.size
  | .set S n=>h.SetOf (intKind P w) a S n
  | .ins C dx fs=>H dx=some (.own a)∧fs.length≤1000∧dx≠a∧h.get? a=some (PySem.W.instObj C dx) ∧
      ∃ mA,h.Ns1 dx mA∧(∀ f,RelO (fs.lookup f) (mA f))∧PySem.Within mA (fs.map (·.1))
  | .own _=>∃ o,h.get? a=some o
  | .xd fs=>∃ mA,h.Ns1 a mA∧∀ f,RelO (fs.lookup f) (mA f)
  | .rng lo hi=>∃ t u v,h.get? a=some { cls:=.type "range",data:=.fields #[.int lo t,.int hi u,.int 1 v] }
  | .frz o u=>h.get? a=some o∧ObjOk H h a u
  | .tbl ps=>h.get? a=some { cls:=.none,data:=.fields ps }
  | .met f x=>h.get? a=some (PySem.W.methodObj (.ref f) (.ref x))
  | .ext φ=>φ h∧(∃ o,h.get? a=some o)∧∀ h1 h2:Heap,φ h1→(∀ o,h1.get? a=some o→h2.get? a=some o)→φ h2
def HOk (H:Hp) (h:Heap):Prop:=∀ a o,H a=some o→ObjOk P w H h a o
end
section
variable {P:Program} {w:World} {H H':Hp} {h h':Heap} {a:Addr} {o:HO}
theorem ObjOk.lt (x:ObjOk P w H h a o):a<h.objs.size:=by
  cases o with
  | lst xs=>obtain ⟨_,_,_,_,e⟩:=x; exact Heap.lt_size e
  | tup xs=>obtain ⟨_,_,_,p⟩:=x; exact p.lt
  | dK kvs=>obtain ⟨_,_,_,_,o,_,_,e,_⟩:=x; exact Heap.lt_size e
  | dT kvs=>obtain ⟨_,_,_,_,o,_,_,e,_⟩:=x; exact Heap.lt_size e
  | set S n=>obtain ⟨o,_,_,_,e,_⟩:=x; exact Heap.lt_size e
  | ins C dx fs=>obtain ⟨_,_,_,e,_⟩:=x; exact Heap.lt_size e
  | own y=>obtain ⟨_,e⟩:=x; exact Heap.lt_size e
  | xd fs=>obtain ⟨_,⟨_,_,_,e,_⟩,_⟩:=x; exact Heap.lt_size e
  | rng lo hi=>obtain ⟨_,_,_,e⟩:=x; exact Heap.lt_size e
  | frz ob u=>obtain ⟨e,_⟩:=x; exact Heap.lt_size e
  | tbl ps=>exact Heap.lt_size (show h.get? a=some _ from x)
  | met f y=>exact Heap.lt_size (show h.get? a=some _ from x)
  | ext φ=>obtain ⟨_,⟨_,e⟩,_⟩:=x; exact Heap.lt_size e
theorem Paired.mapP {α β:Type} {F G:α→β→Prop}:∀ {l₁:List α} {l₂:List β},Paired F l₁ l₂→(∀ a b,F a b→G a b)→Paired G l₁ l₂
  | _,_,.nil,_=>.nil
  | _,_,.cons r t,f=>.cons (f _ _ r) (Paired.mapP t f)
theorem ObjOk.stay (x:ObjOk P w H h a o) (k:∀ b u,(b=a∨H b=some (.own a))→h.get? b=some u→h'.get? b=some u) (ho:∀ b,H b=some (.own a)→H' b=some (.own a)) (ht:∀ b xs,H b=some (.tup xs)→H' b=some (.tup xs)):ObjOk P w H' h' a o:=by
  induction o with
  | lst xs=>obtain ⟨z,its,n,r,e⟩:=x; exact ⟨z,its,n,r,k _ _ (.inl rfl) e⟩
  | tup xs=>obtain ⟨z,its,r,ob,e,c⟩:=x; exact ⟨z,its,r,ob,k _ _ (.inl rfl) e,c⟩
  | dK kvs=>obtain ⟨z,y,vs,r,ob,es,ep,e,c⟩:=x; exact ⟨z,y,vs,r,ob,es,ep,k _ _ (.inl rfl) e,c⟩
  | dT kvs =>
    obtain ⟨z,y,xs,r,ob,es,ep,e,c⟩:=x
    exact ⟨z,y,xs,Paired.mapP r fun p q z=>⟨z.1,ht _ _ z.2.1,z.2.2⟩,ob,es,ep,k _ _ (.inl rfl) e,c⟩
  | set S n=>obtain ⟨ob,es,ep,t,e,c⟩:=x; exact ⟨ob,es,ep,t,k _ _ (.inl rfl) e,c⟩
  | ins C dx fs =>
    obtain ⟨d,z,ne,e,mA,⟨od,es,ep,e2,c⟩,r⟩:=x
    exact ⟨ho _ d,z,ne,k _ _ (.inl rfl) e,mA,⟨od,es,ep,k _ _ (.inr d) e2,c⟩,r⟩
  | own y=>obtain ⟨ob,e⟩:=x; exact ⟨ob,k _ _ (.inl rfl) e⟩
  | xd fs=>obtain ⟨mA,⟨od,es,ep,e,c⟩,r⟩:=x; exact ⟨mA,⟨od,es,ep,k _ _ (.inl rfl) e,c⟩,r⟩
  | rng lo hi=>obtain ⟨t,u,v,e⟩:=x; exact ⟨t,u,v,k _ _ (.inl rfl) e⟩
  | frz ob u ih=>obtain ⟨e,q⟩:=x; exact ⟨k _ _ (.inl rfl) e,ih q⟩
  | tbl ps =>
    have e:h.get? a=some { cls:=.none,data:=.fields ps }:=x
    show h'.get? a=some { cls:=.none,data:=.fields ps }
    exact k a _ (.inl rfl) e
  | met f y =>
    have e:h.get? a=some (PySem.W.methodObj (.ref f) (.ref y)):=x
    show h'.get? a=some (PySem.W.methodObj (.ref f) (.ref y))
    exact k a _ (.inl rfl) e
  | ext φ=>obtain ⟨p,⟨o,e⟩,st⟩:=x; exact ⟨st _ _ p fun o q=>k _ _ (.inl rfl) q,⟨o,k _ _ (.inl rfl) e⟩,st⟩
theorem HOk.lt (x:HOk P w H h) (e:H a=some o):a<h.objs.size:=(x a o e).lt
theorem HOk.fresh (x:HOk P w H h) (e:h.objs.size≤a):H a=none:=by
  cases q:H a with
  | none=>rfl
  | some u=>exact absurd (Nat.lt_of_lt_of_le (x.lt q) e) (Nat.lt_irrefl _)
theorem HOk.kept (x:HOk P w H h) (k:∀ b u,h.get? b=some u→h'.get? b=some u):HOk P w H h':=fun a o e =>
  (x a o e).stay (fun b u _ q=>k b u q) (fun _ q=>q) fun _ _ q=>q
theorem HOk.laid (x:HOk P w H h) (k:∀ b u,h.get? b=some u→h'.get? b=some u) (hp:h.objs.size≤a) (new:ObjOk P w (upd H a o) h' a o):HOk P w (upd H a o) h':=fun b u e=>by
  have hn:=x.fresh hp
  by_cases hb:b=a
  · subst hb; rw [upd_same] at e; cases e; exact new
  · rw [upd_ne hb] at e
    exact (x b u e).stay (fun c v _ q=>k c v q) (fun c q=>by rw [upd_ne (ne_of_none q hn)]; exact q) fun c xs q=>by rw [upd_ne (ne_of_none q hn)]; exact q
end
def Rd (H:Hp) (a:Addr) (u:HO):Prop:=H a=some u∨∃ o,H a=some (.frz o u)
theorem Rd.ok {P:Program} {w:World} {H:Hp} {h:Heap} {a:Addr} {u:HO} (r:Rd H a u) (x:HOk P w H h):ObjOk P w H h a u:=by
  rcases r with r | ⟨o,r⟩
  · exact x a u r
  · obtain ⟨_,q⟩:=x a _ r
    exact q
def Mut:Option HO→Prop
  | some (.lst _)=>True
  | some (.dK _)=>True
  | some (.dT _)=>True
  | some (.set _ _)=>True
  | some (.ins _ _ _)=>True
  | some (.ext _)=>True
  | _=>False
section
variable {P:Program} {w:World} {H:Hp} {h h':Heap} {x e:Addr} {o':HO}
theorem HOk.write (ok:HOk P w H h) (mu:Mut (H x)) (he:e=x∨H e=some (.own x)) (k:∀ b u,b≠e→h.get? b=some u→h'.get? b=some u) (heo:∃ u,h'.get? e=some u) (new:ObjOk P w (upd H x o') h' x o'):HOk P w (upd H x o') h':=fun b u q=>by
  have nown:∀ c y,H c=some (.own y)→c≠x:=fun c y r z=>by subst z; rw [r] at mu; exact mu
  have ntup:∀ c xs,H c=some (.tup xs)→c≠x:=fun c xs r z=>by subst z; rw [r] at mu; exact mu
  by_cases hb:b=x
  · subst hb; rw [upd_same] at q; cases q; exact new
  · rw [upd_ne hb] at q
    by_cases hbe:b=e
    · have q':H b=some (.own x):=by
        rcases he with z | z
        · exact absurd (hbe.trans z) hb
        · rw [hbe]; exact z
      rw [q] at q'; cases q'
      obtain ⟨v,hv⟩:=heo
      exact ⟨v,by rw [hbe]; exact hv⟩
    · refine (ok b u q).stay (fun c v hc r=>k c v ?_ r) (fun c r=>by rw [upd_ne (nown c b r)]; exact r) fun c xs r=>by rw [upd_ne (ntup c xs r)]; exact r
      rcases hc with rfl | hc
      · exact hbe
      · rintro rfl
        rcases he with z | z
        · exact nown c b hc z
        · rw [hc] at z; cases z; exact hb rfl
end
structure Un (fs ex:List Addr) (H H':Hp) (h h':Heap):Prop where
  keep:∀ b o,h.get? b=some o→H b=none→b∉fs→b∉ex→h'.get? b=some o
  slot:∀ b o,h.get? b=some o→H b=none→b∈fs→b∉ex→∃ sl,h'.get? b=some { o with slots:=sl }
  free:∀ b o,h.get? b=some o→H b=none→b∉ex→H' b=none
  there:∀ b o,h.get? b=some o→b∉ex→∃ o',h'.get? b=some o'
  tups:∀ b xs,H b=some (.tup xs)→H' b=some (.tup xs)
  frzs:∀ b o u,H b=some (.frz o u)→H' b=some (.frz o u)
  tbls:∀ b ps,H b=some (.tbl ps)→∃ more,H' b=some (.tbl (ps++more))
section
variable {fs fs' ex ex':List Addr} {H H1 H2:Hp} {h h1 h2 h':Heap} {a x e:Addr} {o:HO}
theorem Un.any (u:Un fs ex H H1 h h1) {b:Addr} {ob:Obj} (q:h.get? b=some ob) (n:H b=none) (hx:b∉ex):∃ sl,h1.get? b=some { ob with slots:=sl }:=by
  by_cases hb:b∈fs
  · exact u.slot b ob q n hb hx
  · exact ⟨ob.slots,u.keep b ob q n hb hx⟩
theorem Un.kept (k:∀ b u,h.get? b=some u→h'.get? b=some u):Un fs ex H H h h' :=
  ⟨fun b ob q _ _ _=>k b ob q,fun b ob q _ _ _=>⟨ob.slots,k b ob q⟩,fun _ _ _ n _=>n,fun b ob q _=>⟨ob,k b ob q⟩,fun _ _ q=>q,fun _ _ _ q=>q,fun _ ps q=>⟨#[],by rw [q]; simp⟩⟩
theorem Un.refl:Un fs ex H H h h:=Un.kept fun _ _ q=>q
theorem Un.laid (k:∀ b u,h.get? b=some u→h'.get? b=some u) (hp:h.objs.size≤a) (hn:H a=none):Un fs ex H (upd H a o) h h' where
  keep:=fun b u q _ _ _=>k b u q
  slot:=fun b u q _ _ _=>⟨u.slots,k b u q⟩
  free:=fun b u q n _=>by rw [upd_ne (Nat.ne_of_lt (Nat.lt_of_lt_of_le (Heap.lt_size q) hp))]; exact n
  there:=fun b u q _=>⟨u,k b u q⟩
  tups:=fun b xs q=>by rw [upd_ne (ne_of_none q hn)]; exact q
  frzs:=fun b u xs q=>by rw [upd_ne (ne_of_none q hn)]; exact q
  tbls:=fun b ps q=>⟨#[],by rw [upd_ne (ne_of_none q hn),q]; simp⟩
theorem Un.write (mu:Mut (H x)) (he:e=x∨H e=some (.own x)) (k:∀ b u,b≠e→h.get? b=some u→h'.get? b=some u) (heo:∃ u,h'.get? e=some u):Un fs ex H (upd H x o) h h':=by
  have hx:∀ b,H b=none→b≠x:=fun b n z=>by subst z; rw [n] at mu; exact mu
  have hb:∀ b,H b=none→b≠e:=fun b n z=>by
    subst z
    rcases he with r | r
    · exact hx b n r
    · rw [n] at r; cases r
  have hm:∀ b u,H b=some u→¬ Mut (some u)→b≠x:=fun b u q nm z=>by subst z; rw [q] at mu; exact nm mu
  refine ⟨fun b u q n _ _=>k b u (hb b n) q,fun b u q n _ _=>⟨u.slots,k b u (hb b n) q⟩,fun b u q n _=>by rw [upd_ne (hx b n)]; exact n,fun b u q _=>?_,
    fun b xs q=>by rw [upd_ne (hm b _ q fun z=>z)]; exact q,fun b u xs q=>by rw [upd_ne (hm b _ q fun z=>z)]; exact q,fun b ps q=>⟨#[],by rw [upd_ne (hm b _ q fun z=>z),q]; simp⟩⟩
  by_cases hbe:b=e
  · subst hbe; exact heo
  · exact ⟨u,k b u hbe q⟩
end
def trk (h:Heap) (H:Hp):List Addr:=(List.range h.objs.size).filter fun a=>(H a).isSome
def hidT (h:Heap) (H:Hp):Heap:=PySem.W.hideAll h (trk h H)
theorem hidT_size (h:Heap) (H:Hp):(hidT h H).objs.size=h.objs.size:=PySem.W.hideAll_size _ _
theorem hidT_get {h:Heap} {H:Hp} {b:Addr} {o:Obj} (e:h.get? b=some o) (n:H b=none):(hidT h H).get? b=some o :=
  PySem.W.hideAll_get _ e fun hm=>by
    have q:(H b).isSome=true:=(List.mem_filter.mp hm).2
    rw [n] at q; simp at q
theorem of_hidT {h:Heap} {H:Hp} {b:Addr} {o:Obj} (e:(hidT h H).get? b=some o):h.get? b=some o∧H b=none:=by
  have e':h.get? b=some o:=PySem.W.of_hideAll (trk h H) e
  refine ⟨e',?_⟩
  cases q:H b with
  | none=>rfl
  | some x =>
    have hm:b∈trk h H:=List.mem_filter.mpr ⟨List.mem_range.mpr (Heap.lt_size e'),by simp [q]⟩
    have z:(hidT h H).get? b=none:=PySem.W.hideAll_none (trk h H) hm
    rw [z] at e; cases e
def allNews (g h:Heap) (L:Addr):List (Addr×Obj):=(List.range h.objs.size).filterMap fun a=>if a=L∨(g.get? a).isSome=true then none else (h.get? a).map fun o=>(a,o)
def rest (g h:Heap) (L d:Addr):List (Addr×Obj):=(allNews g h L).filter fun p=>decide (p.1≠d)
end L2
namespace L2
open PySem PySem.Spec PyProof.Rows
structure Mod (K:PySem.W.Frag) (mg:Str→Option Value) (base:Heap):Prop where
  kin:K.In base
  glob:base.Ns mainGlobals mg
  blt:∃ mb,base.Ns builtinsNs mb∧∀ x:Str,x ≠ "__name__" → mb x=bootBuiltins x
  nolimit:base.NoLimit
structure Cx where
  prog:Program
  w:World
  K:PySem.W.Frag
  mg:Str→Option Value
  base:Heap
  A:Around
  N:List Str
  s₀:Shared
  H₀:Hp
  env:Env
  outer:List Env
  stack:List Env
  ex:List Addr
  fn:Str→Bool
  calm:Bool
  pn:List (Addr×Obj)
  xe:Value→Shared→Prop
def frs (l:List Env):List Addr:=l.filterMap (·.frame)
abbrev Cx.fs (X:Cx):List Addr:=frs X.outer
def Vis (sc:Scope) (x:Str):Prop:=sc.names.lookup x=some .local∨sc.names.lookup x=some .cell∨sc.names.lookup x=some .free
def Loc (sc:Scope) (x:Str):Prop:=sc.names.lookup x=some .local∨sc.names.lookup x=some .cell
def Look (env:Env) (h:Heap) (m:Str→Option Value) (x:Str) (u:Value):Prop :=
  (env.kindOf x=some .local∧m x=some u)∨((env.kindOf x=some .cell∨env.kindOf x=some .free)∧∃ c,env.cells.lookup x=some c∧h.IsCell c (some u))
structure Cx.Ok (X:Cx):Prop where
  mod:Mod X.K X.mg X.base
  kind:X.env.scope.kind=.function
  glob:X.env.globals=mainGlobals
  blt:X.env.builtins=builtinsNs
  above:X.s₀.heap.objs.size≤X.env.locals
  inj:∀ x y c,X.env.cells.lookup x=some c→X.env.cells.lookup y=some c→x=y
  has:∀ x,(X.env.kindOf x=some .cell∨X.env.kindOf x=some .free)→∃ c,X.env.cells.lookup x=some c
  cab:∀ x c,X.fn x=true→X.env.cells.lookup x=some c→X.s₀.heap.objs.size≤c
  hd:X.calm=true→X.A.handled=none
  frames:X.A.frames=some X.stack
  stk:X.stack=X.outer∨(X.stack=X.env::X.outer∧X.env.frame=some X.env.locals)
  exf:∀ b∈X.ex,b≠X.env.locals∧∀ x c,X.env.cells.lookup x=some c→c≠b
  bs:∀ b o,X.base.get? b=some o→X.s₀.heap.get? b=some o∧X.H₀ b=none
  bsz:X.base.objs.size≤X.s₀.heap.objs.size
  noex:∀ b o,X.base.get? b=some o→b∉X.ex
  exfs:∀ b∈X.ex,b∉X.fs
  funs:X.s₀.heap.FunFrames X.base X.outer
  frf:∀ b∈X.fs,X.H₀ b=none
structure Inv (X:Cx) (pins:List (Addr×Obj)) (σ:List (Option V)) (H:Hp) (s:Shared):Prop where
  ok:X.Ok
  os:s.os=X.s₀.os
  bare:AllBare s.gens
  base:Un X.fs X.ex X.H₀ H X.s₀.heap s.heap
  loc:∃ m,s.heap.Ns X.env.locals m∧∀ (i:Nat) (x:Str) (v:V),X.N[i]? = some x→σ[i]? = some (some v)→Vis X.env.scope x→∃ u,RelV v u∧Look X.env s.heap m x u
  cell:∀ x c,X.env.cells.lookup x=some c→∃ v,s.heap.IsCell c v
  free:H X.env.locals=none
  freeC:∀ x c,X.env.cells.lookup x=some c→H c=none
  pin:∀ p∈X.pn++pins,s.heap.get? p.1=some p.2∧H p.1=none∧p.1≠X.env.locals∧p.1∉X.fs∧∀ v,p.2.data≠.cell v
  hok:HOk X.prog X.w H s.heap
  len:σ.length=X.N.length
section
variable {X:Cx} {pins:List (Addr×Obj)} {σ:List (Option V)} {H H':Hp} {s:Shared} {h':Heap}
theorem Cx.Ok.nofr (ok:X.Ok) {b:Addr} {o:Obj} (e:X.base.get? b=some o):b∉X.fs:=fun hb=>by
  have:=(ok.funs.mem hb).1
  rw [e] at this; cases this
theorem Inv.bs (I:Inv X pins σ H s):∀ b o,X.base.get? b=some o→s.heap.get? b=some o∧H b=none:=fun b o e =>
  ⟨I.base.keep b o (I.ok.bs b o e).1 (I.ok.bs b o e).2 (I.ok.nofr e) (I.ok.noex b o e),I.base.free b o (I.ok.bs b o e).1 (I.ok.bs b o e).2 (I.ok.noex b o e)⟩
theorem Inv.bk (I:Inv X pins σ H s):∀ b o,X.base.get? b=some o→s.heap.get? b=some o:=fun b o e=>(I.bs b o e).1
theorem Inv.mod (I:Inv X pins σ H s):Mod X.K X.mg X.base:=I.ok.mod
theorem Inv.kIn (I:Inv X pins σ H s):X.K.In s.heap:=I.ok.mod.kin.keeps I.bk
theorem Inv.lt (I:Inv X pins σ H s):X.env.locals<s.heap.objs.size:=let ⟨_,hn,_⟩:=I.loc; hn.lt
theorem Inv.sz (I:Inv X pins σ H s):X.s₀.heap.objs.size≤s.heap.objs.size:=Nat.le_trans I.ok.above (Nat.le_of_lt I.lt)
theorem Inv.nofs (I:Inv X pins σ H s) {a:Addr} (h:s.heap.objs.size≤a):a∉X.fs:=fun hb=>by
  obtain ⟨_,o,ho,_⟩:=I.ok.funs.mem hb
  exact absurd (Nat.lt_of_lt_of_le (Heap.lt_size ho) (Nat.le_trans I.sz h)) (Nat.lt_irrefl _)
theorem Inv.cne (I:Inv X pins σ H s):∀ x c,X.env.cells.lookup x=some c→c≠X.env.locals:=fun x c e z=>by
  obtain ⟨v,o,ho,hd⟩:=I.cell x c e
  obtain ⟨m,⟨o',es,ep,ho',hd',_⟩,_⟩:=I.loc
  rw [z,ho'] at ho; cases ho; rw [hd'] at hd; cases hd
theorem Inv.funs (I:Inv X pins σ H s):s.heap.FunFrames X.base X.outer:=by
  have all:∀ (l:List Env),(∀ b∈frs l,b∈X.fs)→X.s₀.heap.FunFrames X.base l→s.heap.FunFrames X.base l:=by
    intro l
    induction l with
    | nil=>intro _ _; trivial
    | cons env r ih =>
      intro hs hl
      obtain ⟨hk,⟨L,o,hf,hn,ho,hd⟩,hr⟩:=hl
      have hL:L∈X.fs:=hs L (by unfold frs; rw [List.filterMap_cons,hf]; exact List.mem_cons_self)
      obtain ⟨sl,e⟩:=I.base.slot L o ho (I.ok.frf L hL) hL fun z=>I.ok.exfs L z hL
      exact ⟨hk,⟨L,_,hf,hn,e,hd⟩,ih (fun b hb=>hs b (by unfold frs; rw [List.filterMap_cons,hf]; exact List.mem_cons_of_mem _ hb)) hr⟩
  exact all X.outer (fun _ hb=>hb) I.ok.funs
theorem Inv.stack (I:Inv X pins σ H s):s.heap.FunFrames X.base X.stack:=by
  rcases I.ok.stk with e | ⟨e,hf⟩
  · rw [e]; exact I.funs
  · rw [e]
    obtain ⟨m,hn,_⟩:=I.loc
    refine .cons (by rw [I.ok.kind]; decide) hf hn ?_ I.funs
    exact Heap.get?_none_of_le (Nat.le_trans I.ok.bsz I.ok.above)
theorem Inv.stkSub (I:Inv X pins σ H s):∀ b∈frs X.stack,b∈X.env.locals::X.fs:=fun b hb=>by
  rcases I.ok.stk with e | ⟨e,hf⟩
  · rw [e] at hb; exact List.mem_cons_of_mem _ hb
  · rw [e] at hb
    unfold frs at hb
    rw [List.filterMap_cons,hf] at hb
    exact hb
theorem Inv.stkFree (I:Inv X pins σ H s):∀ b∈frs X.stack,H b=none:=fun b hb=>by
  rcases List.mem_cons.mp (I.stkSub b hb) with e | hb
  · rw [e]; exact I.free
  · obtain ⟨_,o,ho,_⟩:=I.ok.funs.mem hb
    exact I.base.free b o ho (I.ok.frf b hb) fun z=>I.ok.exfs b z hb
theorem Inv.step {g':Array GenState} {t':Nat} {d':Drawn} {ch:List Addr} (I:Inv X pins σ H s) (hch:∀ b∈ch,(b∈X.ex∨X.s₀.heap.objs.size≤b)∧b≠X.env.locals∧(∀ x c,X.env.cells.lookup x=some c→c≠b)∧∀ p∈X.pn++pins,p.1≠b) (keep:∀ b o,b≠X.env.locals→b∉X.fs→b∉ch→s.heap.get? b=some o→H b=none→h'.get? b=some o) (slot:∀ b o,b≠X.env.locals→b∈X.fs→b∉ch→s.heap.get? b=some o→H b=none→∃ sl,h'.get? b=some { o with slots:=sl }) (free:∀ b o,b∉ch→s.heap.get? b=some o→H b=none→H' b=none) (there:∀ b o,b∉ch→s.heap.get? b=some o→∃ o',h'.get? b=some o') (tups:∀ b xs,H b=some (.tup xs)→H' b=some (.tup xs)) (frzs:∀ b o u,H b=some (.frz o u)→H' b=some (.frz o u)) (tbls:∀ b ps,H b=some (.tbl ps)→∃ more,H' b=some (.tbl (ps++more))) (ns:∀ m,s.heap.Ns X.env.locals m→h'.Ns X.env.locals m) (hok:HOk X.prog X.w H' h') (hg:AllBare g'):Inv X pins σ H' { s with heap:=h',gens:=g',drawn:=d',toks:=t' }:=by
  have neL:∀ b o,X.s₀.heap.get? b=some o→b≠X.env.locals:=fun b o e=>Nat.ne_of_lt (Nat.lt_of_lt_of_le (Heap.lt_size e) I.ok.above)
  have neC:∀ b o,X.s₀.heap.get? b=some o→b∉X.ex→b∉ch:=fun b o e hx hb=>by
    rcases (hch b hb).1 with z | z
    · exact hx z
    · exact absurd (Nat.lt_of_lt_of_le (Heap.lt_size e) z) (Nat.lt_irrefl _)
  have cellK:∀ x c,X.env.cells.lookup x=some c→∀ v,s.heap.IsCell c v→h'.IsCell c v:=fun x c e v ⟨o,ho,hd⟩=>by
    have nch:c∉ch:=fun z=>(hch c z).2.2.1 x c e rfl
    by_cases hc:c∈X.fs
    · obtain ⟨sl,q⟩:=slot c o (I.cne x c e) hc nch ho (I.freeC x c e)
      exact ⟨_,q,hd⟩
    · exact ⟨o,keep c o (I.cne x c e) hc nch ho (I.freeC x c e),hd⟩
  refine ⟨I.ok,I.os,hg,⟨fun b o e n hb hx=>?_,fun b o e n hb hx=>?_,fun b o e n hx=>?_,fun b o e hx=>?_,fun b xs e=>tups b xs (I.base.tups b xs e),fun b o xs e=>frzs b o xs (I.base.frzs b o xs e),fun b ps e=>?_⟩,?_,fun x c e=>?_,?_,fun x c e=>?_,fun p hp=>?_,hok,I.len⟩
  · exact keep b o (neL b o e) hb (neC b o e hx) (I.base.keep b o e n hb hx) (I.base.free b o e n hx)
  · obtain ⟨sl,e1⟩:=I.base.slot b o e n hb hx
    obtain ⟨sl',e2⟩:=slot b _ (neL b o e) hb (neC b o e hx) e1 (I.base.free b o e n hx)
    exact ⟨sl',e2⟩
  · obtain ⟨o',e1⟩:=I.base.there b o e hx
    exact free b o' (neC b o e hx) e1 (I.base.free b o e n hx)
  · obtain ⟨o',e1⟩:=I.base.there b o e hx
    exact there b o' (neC b o e hx) e1
  · obtain ⟨m1,e1⟩:=I.base.tbls b ps e
    obtain ⟨m2,e2⟩:=tbls b _ e1
    exact ⟨m1++m2,by rw [e2,Array.append_assoc]⟩
  · obtain ⟨m,hn,hl⟩:=I.loc
    refine ⟨m,ns m hn,fun i x v e1 e2 e3=>?_⟩
    obtain ⟨u,r,l⟩:=hl i x v e1 e2 e3
    refine ⟨u,r,?_⟩
    rcases l with l | ⟨k,c,e,z⟩
    · exact .inl l
    · exact .inr ⟨k,c,e,cellK x c e _ z⟩
  · obtain ⟨v,z⟩:=I.cell x c e
    exact ⟨v,cellK x c e v z⟩
  · obtain ⟨m,⟨o,_,_,ho,_⟩,_⟩:=I.loc
    exact free _ o (fun z=>(hch _ z).2.1 rfl) ho I.free
  · obtain ⟨v,o,ho,hd⟩:=I.cell x c e
    exact free c o (fun z=>(hch c z).2.2.1 x c e rfl) ho (I.freeC x c e)
  · obtain ⟨e,n,ne,nf,d⟩:=I.pin p hp
    have nch:p.1∉ch:=fun z=>(hch p.1 z).2.2.2 p hp rfl
    exact ⟨keep p.1 p.2 ne nf nch e n,free p.1 p.2 nch e n,ne,nf,d⟩
theorem Inv.un {t':Nat} (I:Inv X pins σ H s) (u:Un X.fs [] H H' s.heap h') (hok:HOk X.prog X.w H' h'):Inv X pins σ H' { s with heap:=h',toks:=t' }:=by
  obtain ⟨m,⟨o,es,ep,ho,r⟩,_⟩:=id I.loc
  obtain ⟨sl,hL⟩:=u.any ho I.free (by simp)
  exact I.step (g':=s.gens) (d':=s.drawn) (ch:=[]) (fun _ z=>nomatch z) (fun b o _ hb _ e n=>u.keep b o e n hb (by simp)) (fun b o _ hb _ e n=>u.slot b o e n hb (by simp)) (fun b o _ e n=>u.free b o e n (by simp)) (fun b o _ e=>u.there b o e (by simp)) u.tups u.frzs u.tbls (fun m' hm=>by
    obtain ⟨o',es',ep',ho',r'⟩:=hm
    rw [ho] at ho'; cases ho'
    exact ⟨_,es',ep',hL,r'⟩) hok I.bare
theorem Inv.call {g':Array GenState} {t':Nat} {d':Drawn} {ch:List Addr} (I:Inv X pins σ H s) (u:Un (frs X.stack) ch H H' s.heap h') (hok:HOk X.prog X.w H' h') (hg:AllBare g') (hch:∀ b∈ch,(b∈X.ex∨X.s₀.heap.objs.size≤b)∧b≠X.env.locals∧(∀ x c,X.env.cells.lookup x=some c→c≠b)∧∀ p∈X.pn++pins,p.1≠b):Inv X pins σ H' { s with heap:=h',gens:=g',drawn:=d',toks:=t' }:=by
  obtain ⟨m,⟨o,es,ep,ho,r⟩,_⟩:=id I.loc
  obtain ⟨sl,hL⟩:=u.any ho I.free fun z=>(hch _ z).2.1 rfl
  exact I.step (ch:=ch) hch (fun b o hL hb hc e n=>u.keep b o e n (fun z=>(List.mem_cons.mp (I.stkSub b z)).elim hL hb) hc) (fun b o _ _ hc e n=>u.any e n hc) (fun b o hc e n=>u.free b o e n hc) (fun b o hc e=>u.there b o e hc) u.tups u.frzs u.tbls (fun m' hm=>by
    obtain ⟨o',es',ep',ho',r'⟩:=hm
    rw [ho] at ho'; cases ho'
    exact ⟨_,es',ep',hL,r'⟩) hok hg
theorem Inv.turned {t':Nat} {it:Addr} (I:Inv X pins σ H s) (k:∀ b o,b≠it→s.heap.get? b=some o→h'.get? b=some o) (hn:H it=none) (hL:it≠X.env.locals) (h1:it∈X.ex∨X.s₀.heap.objs.size≤it) (h2:∀ x c,X.env.cells.lookup x=some c→c≠it) (h3:∀ p∈X.pn++pins,p.1≠it):Inv X pins σ H { s with heap:=h',toks:=t' }:=by
  have nit:∀ b u,H b=some u→b≠it:=fun b u e z=>by rw [z,hn] at e; cases e
  refine I.step (g':=s.gens) (d':=s.drawn) (ch:=[it]) (fun b hb=>?_) (fun b o _ _ hc e _=>k b o (fun z=>hc (by simp [z])) e) (fun b o _ _ hc e _=>⟨o.slots,k b o (fun z=>hc (by simp [z])) e⟩) (fun _ _ _ _ n=>n)
    (fun b o hc e=>⟨o,k b o (fun z=>hc (by simp [z])) e⟩) (fun _ _ e=>e) (fun _ _ _ e=>e) (fun b ps e=>⟨#[],by rw [e]; simp⟩) (fun m hm=>?_) (fun b u e=>?_) I.bare
  · have e:b=it:=by simpa using hb
    subst e
    exact ⟨h1,hL,h2,h3⟩
  · obtain ⟨o,es,ep,ho,r⟩:=hm
    exact ⟨o,es,ep,k _ o (Ne.symm hL) ho,r⟩
  · refine (I.hok b u e).stay (fun c v hc q=>k c v ?_ q) (fun _ q=>q) fun _ _ q=>q
    rcases hc with z | z
    · rw [z]; exact nit b u e
    · exact nit c _ z
theorem Inv.tok (I:Inv X pins σ H s) (t:Nat):Inv X pins σ H { s with toks:=t }:=I.un (h':=s.heap) (t':=t) Un.refl I.hok
theorem Inv.kept {t':Nat} (I:Inv X pins σ H s) (k:∀ b u,s.heap.get? b=some u→h'.get? b=some u):Inv X pins σ H { s with heap:=h',toks:=t' }:=I.un (Un.kept k) (I.hok.kept k)
theorem Inv.laid {a:Addr} {o:HO} {t':Nat} (I:Inv X pins σ H s) (k:∀ b u,s.heap.get? b=some u→h'.get? b=some u) (hp:s.heap.objs.size≤a) (new:ObjOk X.prog X.w (upd H a o) h' a o):Inv X pins σ (upd H a o) { s with heap:=h',toks:=t' }:=I.un (Un.laid k hp (I.hok.fresh hp)) (I.hok.laid k hp new)
theorem Inv.write {x e:Addr} {o:HO} {t':Nat} (I:Inv X pins σ H s) (mu:Mut (H x)) (he:e=x∨H e=some (.own x)) (k:∀ b u,b≠e→s.heap.get? b=some u→h'.get? b=some u) (heo:∃ u,h'.get? e=some u) (new:ObjOk X.prog X.w (upd H x o) h' x o):Inv X pins σ (upd H x o) { s with heap:=h',toks:=t' }:=I.un (Un.write mu he k heo) (I.hok.write mu he k heo new)
theorem Inv.pins_of {pins':List (Addr×Obj)} (I:Inv X pins σ H s) (h:∀ p∈pins',s.heap.get? p.1=some p.2∧H p.1=none∧p.1≠X.env.locals∧p.1∉X.fs∧∀ v,p.2.data≠.cell v):Inv X pins' σ H s :=
  ⟨I.ok,I.os,I.bare,I.base,I.loc,I.cell,I.free,I.freeC,fun p hp=>(List.mem_append.mp hp).elim (fun z=>I.pin p (List.mem_append_left _ z)) (h p),I.hok,I.len⟩
theorem nodup_ix {N:List Str} (hN:N.Nodup) {i j:Nat} {x:Str} (a:N[i]? = some x) (b:N[j]? = some x):i=j:=by
  obtain ⟨h1,e1⟩:=List.getElem?_eq_some_iff.mp a
  obtain ⟨h2,e2⟩:=List.getElem?_eq_some_iff.mp b
  exact (List.getElem_inj hN).mp (e1.trans e2.symm)
theorem store_ok2 {M:Model} {A:Around} {E:Value→Shared→Prop} {i:Nat} {x:Str} {v:V} {u:Value} {Q:Unit→Shared→Prop} (I:Inv X pins σ H s) (hN:X.N.Nodup) (hi:X.N[i]? = some x) (hx:Loc X.env.scope x) (r:RelV v u) (h:∀ s',Inv X pins (σ.set i (some v)) H s'→(∃ a,Heap.SameBut a s.heap s'.heap∧(a=X.env.locals∨X.env.cells.lookup x=some a))→Q () s') (hf:X.fn x=true∨X.env.scope.names.lookup x=some .local:=by first | exact .inl rfl | exact .inr rfl | assumption):wpAny M A (storeName X.env x u) Q E s:=by
  obtain ⟨m,hn,hl⟩:=id I.loc
  have hcls:(X.env.scope.kind == .class || (X.env.scope.kind == .module && X.env.locals != X.env.globals))=false:=by rw [I.ok.kind]; rfl
  have hiσ:i<σ.length:=by rw [I.len]; exact (List.getElem?_eq_some_iff.mp hi).1
  have cne:=I.cne
  have tracked:∀ {a:Addr} {h':Heap},(∃ o,s.heap.get? a=some o∧H a=none)→Heap.SameBut a s.heap h'→HOk X.prog X.w H h':=fun {a h'} ha hs b ob e=>by
    obtain ⟨_,_,hfree⟩:=ha
    refine (I.hok b ob e).stay (fun c w' hc q=>(hs.2 c ?_).trans q) (fun _ q=>q) fun _ _ q=>q
    rintro rfl
    rcases hc with rfl | hc
    · rw [hfree] at e; cases e
    · rw [hfree] at hc; cases hc
  rcases hx with hk | hk
  · refine wpAny_storeName_local hk hn (fun h' hn' hs=>?_) hcls
    obtain ⟨oL,_,_,hoL,_⟩:=id hn
    refine h _ ⟨I.ok,I.os,I.bare,⟨fun b o e n hb hx=>?_,fun b o e n hb hx=>?_,I.base.free,fun b o e hx=>?_,I.base.tups,I.base.frzs,I.base.tbls⟩,⟨_,hn',fun j y v' e1 e2 e3=>?_⟩,fun y c e=>?_,I.free,I.freeC,fun p hp=>?_,tracked ⟨oL,hoL,I.free⟩ hs,by simpa using I.len⟩ ⟨_,hs,.inl rfl⟩
    · exact (hs.2 b (Nat.ne_of_lt (Nat.lt_of_lt_of_le (Heap.lt_size e) I.ok.above))).trans (I.base.keep b o e n hb hx)
    · obtain ⟨sl,e1⟩:=I.base.slot b o e n hb hx
      exact ⟨sl,(hs.2 b (Nat.ne_of_lt (Nat.lt_of_lt_of_le (Heap.lt_size e) I.ok.above))).trans e1⟩
    · obtain ⟨o',e1⟩:=I.base.there b o e hx
      exact ⟨o',(hs.2 b (Nat.ne_of_lt (Nat.lt_of_lt_of_le (Heap.lt_size e) I.ok.above))).trans e1⟩
    · by_cases hj:j=i
      · subst hj
        rw [hi] at e1; cases e1
        rw [List.getElem?_set_self hiσ] at e2
        cases e2
        exact ⟨u,r,.inl ⟨hk,by simp⟩⟩
      · rw [List.getElem?_set_ne (Ne.symm hj)] at e2
        obtain ⟨u',r',q⟩:=hl j y v' e1 e2 e3
        refine ⟨u',r',?_⟩
        rcases q with ⟨k,e⟩ | ⟨k,c,e,z⟩
        · refine .inl ⟨k,?_⟩
          have : y≠x:=fun e=>hj (nodup_ix hN e1 (e▸hi))
          simp [this,e]
        · exact .inr ⟨k,c,e,z.sameBut hs (cne y c e)⟩
    · obtain ⟨w',z⟩:=I.cell y c e
      exact ⟨w',z.sameBut hs (cne y c e)⟩
    · obtain ⟨e,n,ne,nf,d⟩:=I.pin p hp
      exact ⟨(hs.2 p.1 ne).trans e,n,ne,nf,d⟩
  · have hfn:X.fn x=true:=by
      rcases hf with z | z
      · exact z
      · rw [z] at hk; cases hk
    obtain ⟨c,hc⟩:=I.ok.has x (.inl hk)
    obtain ⟨w',z⟩:=I.cell x c hc
    refine wpAny_storeName_cell I.ok.kind hk hc z (fun h' hc' hs=>?_)
    obtain ⟨oc,hoc,hocd⟩:=id z
    refine h { s with heap:=h' } ⟨I.ok,I.os,I.bare,⟨fun b o e n hb hx=>?_,fun b o e n hb hx=>?_,I.base.free,fun b o e hx=>?_,I.base.tups,I.base.frzs,I.base.tbls⟩,⟨m,hn.sameBut hs (Ne.symm (cne x c hc)),fun j y v' e1 e2 e3=>?_⟩,fun y c' e=>?_,I.free,I.freeC,fun p hp=>?_,tracked ⟨oc,hoc,I.freeC x c hc⟩ hs,by simpa using I.len⟩ ⟨c,hs,.inr hc⟩
    · exact (hs.2 b (Nat.ne_of_lt (Nat.lt_of_lt_of_le (Heap.lt_size e) (I.ok.cab x c hfn hc)))).trans (I.base.keep b o e n hb hx)
    · obtain ⟨sl,e1⟩:=I.base.slot b o e n hb hx
      exact ⟨sl,(hs.2 b (Nat.ne_of_lt (Nat.lt_of_lt_of_le (Heap.lt_size e) (I.ok.cab x c hfn hc)))).trans e1⟩
    · obtain ⟨o',e1⟩:=I.base.there b o e hx
      exact ⟨o',(hs.2 b (Nat.ne_of_lt (Nat.lt_of_lt_of_le (Heap.lt_size e) (I.ok.cab x c hfn hc)))).trans e1⟩
    · by_cases hj:j=i
      · subst hj
        rw [hi] at e1; cases e1
        rw [List.getElem?_set_self hiσ] at e2
        cases e2
        exact ⟨u,r,.inr ⟨.inl hk,c,hc,hc'⟩⟩
      · rw [List.getElem?_set_ne (Ne.symm hj)] at e2
        obtain ⟨u',r',q⟩:=hl j y v' e1 e2 e3
        refine ⟨u',r',?_⟩
        rcases q with q | ⟨k,c',e,z'⟩
        · exact .inl q
        · refine .inr ⟨k,c',e,z'.sameBut hs ?_⟩
          rintro rfl
          exact hj (nodup_ix hN e1 (I.ok.inj _ _ _ e hc▸hi))
    · by_cases hcc:c'=c
      · subst hcc; exact ⟨_,hc'⟩
      · obtain ⟨w2,z2⟩:=I.cell y c' e
        exact ⟨w2,z2.sameBut hs hcc⟩
    · obtain ⟨e,n,ne,nf,d⟩:=I.pin p hp
      refine ⟨(hs.2 p.1 ?_).trans e,n,ne,nf,d⟩
      intro q
      rw [q,hoc] at e
      have q':oc=p.2:=Option.some.inj e
      exact d w' (by rw [← q']; exact hocd)
theorem store_ok {M:Model} {A:Around} {E:Value→Shared→Prop} {i:Nat} {x:Str} {v:V} {u:Value} {Q:Unit→Shared→Prop} (I:Inv X pins σ H s) (hN:X.N.Nodup) (hi:X.N[i]? = some x) (hx:Loc X.env.scope x) (r:RelV v u) (h:∀ s',Inv X pins (σ.set i (some v)) H s'→Q () s') (hf:X.fn x=true∨X.env.scope.names.lookup x=some .local:=by first | exact .inl rfl | exact .inr rfl | assumption):wpAny M A (storeName X.env x u) Q E s :=
  store_ok2 I hN hi hx r (fun s' I' _=>h s' I') hf
theorem Inv.call' {s':Shared} {ch:List Addr} (I:Inv X pins σ H s) (ho:s'.os=s.os) (u:Un (frs X.stack) ch H H' s.heap s'.heap) (hok:HOk X.prog X.w H' s'.heap) (hg:AllBare s'.gens) (hch:∀ b∈ch,(b∈X.ex∨X.s₀.heap.objs.size≤b)∧b≠X.env.locals∧(∀ x c,X.env.cells.lookup x=some c→c≠b)∧∀ p∈X.pn++pins,p.1≠b):Inv X pins σ H' s':=by
  obtain ⟨h',g',d',t',o'⟩:=s'
  have e:o'=s.os:=ho
  subst e
  exact I.call (g':=g') (t':=t') (d':=d') u hok hg hch
end
abbrev XK:=Value→Option Addr→Hp→Prop
abbrev St:=List (Option V)
abbrev VK:=V→Hp→Prop
abbrev TE:=St→Hp→VK→Prop
abbrev TT:=St→Hp→(Bool→Hp→Prop)→Prop
abbrev TA:=St→Hp→(List V→Hp→Prop)→Prop
structure Ends where
  nx:St→Hp→Prop
  rt:VK
  bk:St→Hp→Prop:=fun _ _=>False
  ct:St→Hp→Prop:=fun _ _=>False
abbrev TS:=Ends→St→Hp→Prop
def EP (X:Cx) (pins:List (Addr×Obj)) (σ:St) (Q:VK) (u:Value) (s':Shared):Prop:=∃ v H',Inv X pins σ H' s'∧RelV v u∧Q v H'
def TP (X:Cx) (pins:List (Addr×Obj)) (σ:St) (Q:Bool→Hp→Prop) (b:Bool) (s':Shared):Prop:=∃ H',Inv X pins σ H' s'∧Q b H'
def AP (X:Cx) (pins:List (Addr×Obj)) (σ:St) (Q:List V→Hp→Prop) (us:List Value) (s':Shared):Prop:=∃ vs H',Inv X pins σ H' s'∧Vals vs us∧Q vs H'
def SP (X:Cx) (pins:List (Addr×Obj)) (D:Ends) (f:Flow) (s':Shared):Prop :=
  match f with
  | .next=>∃ σ' H',Inv X pins σ' H' s'∧D.nx σ' H'
  | .brk=>∃ σ' H',Inv X pins σ' H' s'∧D.bk σ' H'
  | .cont=>∃ σ' H',Inv X pins σ' H' s'∧D.ct σ' H'
  | .ret u=>∃ v σ' H',Inv X pins σ' H' s'∧RelV v u∧D.rt v H'
def PE (X:Cx) (e:Expr) (t:TE):Prop :=
  ∀ (pins:List (Addr×Obj)) (s:Shared) (σ:St) (H:Hp) (Q:VK),Inv X pins σ H s→t σ H Q→wpAny (model X.prog X.w) X.A (eval e X.env) (EP X pins σ Q) X.xe s
def PT (X:Cx) (e:Expr) (t:TT):Prop :=
  ∀ (pins:List (Addr×Obj)) (s:Shared) (σ:St) (H:Hp) (Q:Bool→Hp→Prop),Inv X pins σ H s→t σ H Q→wpAny (model X.prog X.w) X.A (isTrue e X.env (eval e X.env)) (TP X pins σ Q) X.xe s
def PW (X:Cx) (e:Expr) (t:TT):Prop :=
  ∀ (whole:Sem Value) (pins:List (Addr×Obj)) (s:Shared) (σ:St) (H:Hp) (Q:Bool→Hp→Prop),Inv X pins σ H s→t σ H Q→wpAny (model X.prog X.w) X.A (isTrue e X.env whole) (TP X pins σ Q) X.xe s
theorem PW.pt {X:Cx} {e:Expr} {t:TT} (h:PW X e t):PT X e t:=h _
def PA (X:Cx) (es:List Expr) (t:TA):Prop :=
  ∀ (pos:Pos) (pins:List (Addr×Obj)) (s:Shared) (σ:St) (H:Hp) (Q:List V→Hp→Prop),Inv X pins σ H s→t σ H Q→wpAny (model X.prog X.w) X.A (spliced (backTo pos (starEach es X.env))) (AP X pins σ Q) X.xe s
def PS (X:Cx) (st:Stmt) (t:TS):Prop :=
  ∀ (pins:List (Addr×Obj)) (s:Shared) (σ:St) (H:Hp) (D:Ends),Inv X pins σ H s→t D σ H→wpAny (model X.prog X.w) X.A (exec st X.env) (SP X pins D) X.xe s
def PSs (X:Cx) (st:List Stmt) (t:TS):Prop :=
  ∀ (pins:List (Addr×Obj)) (s:Shared) (σ:St) (H:Hp) (D:Ends),Inv X pins σ H s→t D σ H→wpAny (model X.prog X.w) X.A (execs st X.env) (SP X pins D) X.xe s
theorem thn {α:Type} {t:Sem α} {Q Q':α→Shared→Prop} {M:Model} {A:Around} {E:Value→Shared→Prop} {s:Shared} (h:wpAny M A t Q E s) (hQ:∀ a s,Q a s→Q' a s):wpAny M A t Q' E s:=wpAny_mono h hQ fun _ _ x=>x
end L2
namespace L2
open PySem PySem.Spec PyProof.Rows
section
variable {X:Cx}
theorem bin {a b:Expr} {ta tb:TE} (ha:PE X a ta) (hb:PE X b tb) {pins:List (Addr×Obj)} {s:Shared} {σ:St} {H:Hp} {R:V→V→Hp→Prop} (I:Inv X pins σ H s) (h:ta σ H fun x H1=>tb σ H1 fun y H2=>R x y H2) {α:Type} {Q:α→Shared→Prop} {f:Value→Value→Sem α} (hf:∀ v u s2 x y H2,Inv X pins σ H2 s2→RelV x v→RelV y u→R x y H2→wpAny (model X.prog X.w) X.A (f v u) Q X.xe s2):wpAny (model X.prog X.w) X.A (eval a X.env) (fun v s₁=>wpAny (model X.prog X.w) X.A (eval b X.env) (fun u s₂=>wpAny (model X.prog X.w) X.A (f v u) Q X.xe s₂) X.xe s₁) X.xe s:=by
  refine thn (ha pins s σ H _ I h) fun v s1 ⟨x,H1,I1,r1,q1⟩=>?_
  refine thn (hb pins s1 σ H1 _ I1 q1) fun u s2 ⟨y,H2,I2,r2,q2⟩=>?_
  exact hf v u s2 x y H2 I2 r1 r2 q2
def tVar (i:Nat):TE:=fun σ H Q=>∃ v,σ[i]? = some (some v)∧Q v H
def tC (v:V):TE:=fun _ H Q=>Q v H
theorem pe_var {i:Nat} {x:Str} {pos:Pos} (hN:X.N[i]? = some x) (hv:Vis X.env.scope x) (hd:(x == ("__debug__" : Str))=false:=by decide) (hcd:(x == ("__classdict__" : Str))=false:=by decide):PE X (.Name x pos) (tVar i):=by
  intro pins s σ H Q I h
  obtain ⟨v,e,h⟩:=h
  obtain ⟨m,hn,hl⟩:=I.loc
  obtain ⟨u,r,l⟩:=hl i x v hN e hv
  have fin:EP X pins σ Q u s:=⟨v,H,I,r,h⟩
  rcases l with ⟨hk,hm⟩ | ⟨hk,c,hc,hcell⟩
  · exact wpAny_Name (wpAny_loadName_local I.ok.kind hk hn hm fin) hd
  · rcases hk with hk | hk
    · exact wpAny_Name (wpAny_loadName_cell I.ok.kind hk hc hcell fin) hd
    · exact wpAny_Name (wpAny_loadName_free I.ok.kind hk hc hcell fin hcd) hd
theorem pe_int {i j pos}:PE X (.Constant (.int i) j pos) (tC (.int i)):=fun _ _ _ H _ I h=>wpAny_Constant_int ⟨.int i,H,I.tok _,⟨_,rfl⟩,h⟩
theorem pe_bl {b j pos}:PE X (.Constant (.bool b) j pos) (tC (.bl b)):=fun _ _ _ H _ I h=>Constant_bool ⟨.bl b,H,I,rfl,h⟩
theorem pe_non {j pos}:PE X (.Constant .none j pos) (tC .non):=fun _ _ _ H _ I h=>Constant_none ⟨.non,H,I,rfl,h⟩
theorem pe_str {x j pos}:PE X (.Constant (.str x) j pos) (tC (.str x)):=fun _ _ _ H _ I h=>Calls.Constant_str ⟨.str x,H,I.tok _,⟨_,rfl⟩,h⟩
def Gl (X:Cx) (x:Str):Prop:=X.env.kindOf x=some .globalImplicit
theorem ld_glob {E:Value→Shared→Prop} {pins:List (Addr×Obj)} {s:Shared} {σ:St} {H:Hp} {x:Str} {u:Value} {pos:Pos} {Q:Value→Shared→Prop} (I:Inv X pins σ H s) (hg:Gl X x) (hm:X.mg x=some u) (h:Q u s) (hd:(x == ("__debug__" : Str))=false:=by decide):wpAny (model X.prog X.w) X.A (eval (.Name x pos) X.env) Q E s :=
  Calls.Name_function_global I.ok.kind hg (Calls.loadGlobal_global (by rw [I.ok.glob]; exact I.mod.glob.keeps I.bk) hm h) hd
theorem ld_blt {E:Value→Shared→Prop} {pins:List (Addr×Obj)} {s:Shared} {σ:St} {H:Hp} {x:Str} {u:Value} {pos:Pos} {Q:Value→Shared→Prop} (I:Inv X pins σ H s) (hg:Gl X x) (hm:X.mg x=none) (hv:bootBuiltins x=some u) (h:Q u s) (hn:x ≠ "__name__" := by decide) (hd:(x == ("__debug__" : Str))=false:=by decide):wpAny (model X.prog X.w) X.A (eval (.Name x pos) X.env) Q E s:=by
  obtain ⟨mb,h1,h2⟩:=I.mod.blt
  exact Calls.Name_function_global I.ok.kind hg (Calls.loadGlobal_builtin (by rw [I.ok.glob]; exact I.mod.glob.keeps I.bk) hm (by rw [I.ok.blt]; exact h1.keeps I.bk) ((h2 x hn).trans hv) h) hd
theorem pe_glob {x:Str} {v:V} {u:Value} {pos:Pos} (hg:Gl X x) (hm:X.mg x=some u) (r:RelV v u) (hd:(x == ("__debug__" : Str))=false:=by decide):PE X (.Name x pos) (tC v) :=
  fun _ _ _ H _ I h=>ld_glob I hg hm ⟨v,H,I,r,h⟩ hd
theorem pe_bltn {x:Str} {v:V} {u:Value} {pos:Pos} (hg:Gl X x) (hm:X.mg x=none) (hv:bootBuiltins x=some u) (r:RelV v u) (hn:x ≠ "__name__" := by decide) (hd:(x == ("__debug__" : Str))=false:=by decide):PE X (.Name x pos) (tC v) :=
  fun _ _ _ H _ I h=>ld_blt I hg hm hv ⟨v,H,I,r,h⟩ hn hd
variable {a b:Expr} {ta tb:TE} {pos:Pos}
def PC (X:Cx) (op:CmpOp) (a b:Expr) (t:TE):Prop :=
  ∀ (pins:List (Addr×Obj)) (s:Shared) (σ:St) (H:Hp) (Q:VK),Inv X pins σ H s→t σ H Q →
    wpAny (model X.prog X.w) X.A (eval a X.env) (fun v s₁=>wpAny (model X.prog X.w) X.A (eval b X.env) (fun u s₂=>wpAny (model X.prog X.w) X.A (compareOp op v u) (EP X pins σ Q) X.xe s₂) X.xe s₁) X.xe s
theorem nobehind (b:Expr) {op:CmpOp} (h:op≠.In) (h2:op≠.NotIn):behindInMarks op b=false:=by
  have e1:(op == CmpOp.In)=false:=by cases op <;> first | rfl | exact absurd rfl h
  have e2:(op == CmpOp.NotIn)=false:=by cases op <;> first | rfl | exact absurd rfl h2
  cases b <;> simp [behindInMarks,e1,e2]
def tB (t:TE):TT:=fun σ H Q=>t σ H fun x H1=>∃ c,x=.bl c∧Q c H1
theorem pt_cmp {op:CmpOp} {t:TE} (h:PC X op a b t) (h1:behindInMarks op b=false:=by first | exact nobehind _ (by decide) (by decide) | rfl):PT X (.Compare a [op] [b] pos) (tB t):=by
  intro pins s σ H Q I hw
  refine wpAny_isTrue_Compare1 (thn (h pins s σ H _ I hw) fun v s1 h1=>thn h1 fun u s2 h2=>thn h2 fun c s3 ⟨x,H1,I1,r1,q1⟩=>?_) h1
  obtain ⟨d,rfl,q⟩:=q1
  cases r1
  exact wpAny_truthy_bool ⟨H1,I1,q⟩
theorem pt_val {e:Expr} {t:TE} (h:PE X e t) (he:∀ whole,isTrue e X.env whole=(do let v ← whole; standAt e.pos; holding [v] (truthy v)):=by intro _; rfl):PT X e (tB t):=by
  intro pins s σ H Q I hw
  refine isTrue_plain (thn (h pins s σ H _ I hw) fun v s1 ⟨x,H1,I1,r1,q1⟩=>?_) (he _)
  obtain ⟨d,rfl,q⟩:=q1
  cases r1
  exact wpAny_truthy_bool ⟨H1,I1,q⟩
variable {tA tB':TT} {rest:List Expr}
def tAnd (t u:TT):TT:=fun σ H Q=>t σ H fun c H1=>if c=true then u σ H1 Q else Q false H1
def tOr (t u:TT):TT:=fun σ H Q=>t σ H fun c H1=>if c=true then Q true H1 else u σ H1 Q
def tNot (t:TT):TT:=fun σ H Q=>t σ H fun c H1=>Q (!c) H1
theorem pw_and1 (ha:PT X a tA):PW X (.BoolOp .And [a] pos) tA:=by
  intro wh pins s σ H Q I h
  refine isTrue_and (thn (ha pins s σ H Q I h) fun c s1 e=>?_)
  cases c with
  | true=>exact isTrue_and_nil e
  | false=>exact e
theorem pw_or1 (ha:PT X a tA):PW X (.BoolOp .Or [a] pos) tA:=by
  intro wh pins s σ H Q I h
  refine isTrue_or (thn (ha pins s σ H Q I h) fun c s1 e=>?_)
  cases c with
  | false=>exact isTrue_or_nil e
  | true=>exact e
theorem pw_and (ha:PT X a tA) (hb:PW X (.BoolOp .And (b::rest) pos) tB'):PW X (.BoolOp .And (a::b::rest) pos) (tAnd tA tB'):=by
  intro wh pins s σ H Q I h
  refine isTrue_and (thn (ha pins s σ H _ I h) fun c s1 ⟨H1,I1,q1⟩=>?_)
  cases c with
  | true=>exact hb wh pins s1 σ H1 Q I1 q1
  | false=>exact ⟨H1,I1,q1⟩
theorem pw_or (ha:PT X a tA) (hb:PW X (.BoolOp .Or (b::rest) pos) tB'):PW X (.BoolOp .Or (a::b::rest) pos) (tOr tA tB'):=by
  intro wh pins s σ H Q I h
  refine isTrue_or (thn (ha pins s σ H _ I h) fun c s1 ⟨H1,I1,q1⟩=>?_)
  cases c with
  | true=>exact ⟨H1,I1,q1⟩
  | false=>exact hb wh pins s1 σ H1 Q I1 q1
theorem pt_not (ha:PT X a tA):PT X (.UnaryOp .Not a pos) (tNot tA):=by
  intro pins s σ H Q I h
  exact isTrue_not (ha pins s σ H (fun c H1=>Q (!c) H1) I h)
def tAndV (ta tb:TE):TE:=fun σ H Q=>ta σ H fun x H1=>∃ c,x=.bl c∧if c=true then tb σ H1 Q else Q (.bl false) H1
def tNotV (ta:TE):TE:=fun σ H Q=>ta σ H fun x H1=>∃ c,x=.bl c∧Q (.bl (!c)) H1
theorem pe_one {op} {t:TE} (h:PE X a t):PE X (.BoolOp op [a] pos) t:=fun pins s σ H Q I hw=>BoolOp_one (h pins s σ H Q I hw)
theorem pe_and (ha:PE X a ta) (hb:PE X (.BoolOp .And (b::rest) pos) tb):PE X (.BoolOp .And (a::b::rest) pos) (tAndV ta tb):=by
  intro pins s σ H Q I h
  refine BoolOp_and (thn (ha pins s σ H _ I h) fun v s1 ⟨x,H1,I1,r1,q1⟩=>?_)
  obtain ⟨c,rfl,q1⟩:=q1
  cases r1
  refine wpAny_truthy_bool ?_
  cases c with
  | true=>exact hb pins s1 σ H1 Q I1 q1
  | false=>exact ⟨.bl false,H1,I1,rfl,q1⟩
theorem pe_not (ha:PE X a ta):PE X (.UnaryOp .Not a pos) (tNotV ta):=by
  intro pins s σ H Q I h
  refine UnaryOp_ (thn (ha pins s σ H _ I h) fun v s1 ⟨x,H1,I1,r1,q1⟩=>?_)
  obtain ⟨c,rfl,q1⟩:=q1
  cases r1
  exact not_of (wpAny_truthy_bool ⟨.bl (!c),H1,I1,rfl,q1⟩)
end
end L2
namespace L2
open PySem PySem.Spec PyProof.Rows
def SqL (K:PySem.W.Frag) (H:Hp) (a:Addr) (xs:List V):Prop :=
  Rd H a (.lst xs) ∨
    ∃ (o:Obj) (its:Array Value) (n:Nat),K.lookup a=some o∧o.cls=.type "list" ∧ o.dict=none∧o.data=.seq its n∧its.size≤sizeLine∧Vals xs its.toList
def SqT (K:PySem.W.Frag) (H:Hp) (a:Addr) (xs:List V):Prop :=
  Rd H a (.tup xs) ∨
    ∃ (o:Obj) (its:Array Value) (n:Nat),K.lookup a=some o∧o.cls=.type "tuple" ∧ o.data=.seq its n∧its.size≤sizeLine∧Vals xs its.toList
def absV:Value→Option V
  | .none=>some .non
  | .bool b=>some (.bl b)
  | .int i _=>some (.int i)
  | .str x _=>some (.str x)
  | .bytes b _=>some (.byt b)
  | .float b _=>some (.flt b)
  | .ref a=>some (.ref a)
  | .type n=>some (.ty n)
  | _=>none
theorem RelV.abs {x:V} {u:Value} (r:RelV x u):absV u=some x:=by
  cases x with
  | non=>cases r; rfl
  | bl _=>cases r; rfl
  | int _=>obtain ⟨t,rfl⟩:=r; rfl
  | str _=>obtain ⟨t,rfl⟩:=r; rfl
  | byt _=>obtain ⟨t,rfl⟩:=r; rfl
  | flt _=>obtain ⟨t,rfl⟩:=r; rfl
  | ref _=>cases r; rfl
  | ty _=>cases r; rfl
theorem RelV.inj {x y:V} {u:Value} (r:RelV x u) (q:RelV y u):x=y:=Option.some.inj (r.abs.symm.trans q.abs)
theorem Vals.inj:∀ {xs ys:List V} {us:List Value},Vals xs us→Vals ys us→xs=ys
  | _,_,_,.nil,.nil=>rfl
  | _,_,_,.cons r t,.cons r' t'=>by rw [r.inj r',Vals.inj t t']
section
variable {X:Cx} {pins:List (Addr×Obj)} {σ:St} {H:Hp} {s:Shared} {a:Addr} {xs ys:List V}
theorem SqL.of {K:PySem.W.Frag} (h:H a=some (.lst xs)):SqL K H a xs:=.inl (.inl h)
theorem SqT.of {K:PySem.W.Frag} (h:H a=some (.tup xs)):SqT K H a xs:=.inl (.inl h)
theorem Inv.list (I:Inv X pins σ H s) (h:SqL X.K H a xs):∃ its:List Value,Vals xs its∧PlainL s.heap a its.toArray∧xs.length≤sizeLine:=by
  rcases h with h | ⟨o,its,n,hk,hc,hd,hs,hz,r⟩
  · obtain ⟨z,its,n,r,e⟩:=h.ok I.hok
    exact ⟨its,r,⟨_,n,e,rfl,rfl,rfl⟩,z⟩
  · refine ⟨its.toList,r,⟨o,n,I.kIn a o hk,hc,hd,by simpa using hs⟩,?_⟩
    have e:=r.length
    simp only [Array.length_toList] at e
    omega
theorem Inv.tuple (I:Inv X pins σ H s) (h:SqT X.K H a xs):∃ its:List Value,Vals xs its∧IsTup s.heap a its.toArray∧xs.length≤sizeLine:=by
  rcases h with h | ⟨o,its,n,hk,hc,hs,hz,r⟩
  · obtain ⟨z,its,r,p⟩:=h.ok I.hok
    exact ⟨its,r,p,z⟩
  · refine ⟨its.toList,r,⟨o,I.kIn a o hk,hc,n,by simpa using hs⟩,?_⟩
    have e:=r.length
    simp only [Array.length_toList] at e
    omega
theorem Inv.list_inj (I:Inv X pins σ H s) (h:SqL X.K H a xs) (h':SqL X.K H a ys):xs=ys:=by
  obtain ⟨its,r,⟨o,n,e,_,_,d⟩,_⟩:=I.list h
  obtain ⟨its',r',⟨o',n',e',_,_,d'⟩,_⟩:=I.list h'
  rw [e] at e'; cases e'
  rw [d] at d'
  injection d' with d1 _
  have : its=its':=by simpa using congrArg Array.toList d1
  subst this
  exact r.inj r'
theorem Inv.tuple_inj (I:Inv X pins σ H s) (h:SqT X.K H a xs) (h':SqT X.K H a ys):xs=ys:=by
  obtain ⟨its,r,⟨o,e,_,n,d⟩,_⟩:=I.tuple h
  obtain ⟨its',r',⟨o',e',_,n',d'⟩,_⟩:=I.tuple h'
  rw [e] at e'; cases e'
  rw [d] at d'
  injection d' with d1 _
  have : its=its':=by simpa using congrArg Array.toList d1
  subst this
  exact r.inj r'
end
abbrev Cx.wish (X:Cx) (E:Value→Shared→Prop):Cx:={ X with xe:=E }
abbrev Cx.nox (X:Cx):Cx:=X.wish fun _ _=>False
theorem Cx.Ok.wish {X:Cx} (ok:X.Ok) (E:Value→Shared→Prop):(X.wish E).Ok :=
  ⟨ok.mod,ok.kind,ok.glob,ok.blt,ok.above,ok.inj,ok.has,ok.cab,ok.hd,ok.frames,ok.stk,ok.exf,ok.bs,ok.bsz,ok.noex,ok.exfs,ok.funs,ok.frf⟩
theorem Cx.Ok.unwish {X:Cx} {E:Value→Shared→Prop} (ok:(X.wish E).Ok):X.Ok :=
  ⟨ok.mod,ok.kind,ok.glob,ok.blt,ok.above,ok.inj,ok.has,ok.cab,ok.hd,ok.frames,ok.stk,ok.exf,ok.bs,ok.bsz,ok.noex,ok.exfs,ok.funs,ok.frf⟩
section
variable {X:Cx} {pins:List (Addr×Obj)} {σ:St} {H:Hp} {s:Shared} {E:Value→Shared→Prop}
theorem Inv.wish (I:Inv X pins σ H s) (E:Value→Shared→Prop):Inv (X.wish E) pins σ H s:=⟨I.ok.wish E,I.os,I.bare,I.base,I.loc,I.cell,I.free,I.freeC,I.pin,I.hok,I.len⟩
theorem Inv.unwish (I:Inv (X.wish E) pins σ H s):Inv X pins σ H s:=⟨I.ok.unwish,I.os,I.bare,I.base,I.loc,I.cell,I.free,I.freeC,I.pin,I.hok,I.len⟩
theorem SP.unwish {D:Ends} {f:Flow} {s':Shared} (h:SP (X.wish E) pins D f s'):SP X pins D f s':=by
  cases f with
  | next=>obtain ⟨σ',H',I,q⟩:=h; exact ⟨σ',H',I.unwish,q⟩
  | brk=>obtain ⟨σ',H',I,q⟩:=h; exact ⟨σ',H',I.unwish,q⟩
  | cont=>obtain ⟨σ',H',I,q⟩:=h; exact ⟨σ',H',I.unwish,q⟩
  | ret u=>obtain ⟨v,σ',H',I,r,q⟩:=h; exact ⟨v,σ',H',I.unwish,r,q⟩
theorem PSs.nox {st:List Stmt} {t:TS} (h:PSs X.nox st t):PSs X st t:=fun pins s σ H D I hw =>
  wpAny_mono (h pins s σ H D (I.wish _) hw) (fun _ _ q=>q.unwish) fun _ _ z=>False.elim z
end
section
variable {X:Cx} {st:Stmt} {rest:List Stmt} {t u:TS} {e:Expr} {te:TE} {pos:Pos}
def tNext:TS:=fun D σ H=>D.nx σ H
def tSeq (t u:TS):TS:=fun D σ H=>t { D with nx:=u D } σ H
theorem pss_nil:PSs X [] tNext:=fun _ _ σ H _ I h=>wpAny_execs_nil ⟨σ,H,I,h⟩
theorem pss_cons (h1:PS X st t) (h2:PSs X rest u):PSs X (st::rest) (tSeq t u):=by
  intro pins s σ H D I h
  refine wpAny_execs_cons (thn (h1 pins s σ H { D with nx:=u D } I h) fun f s1 q=>?_)
  cases f with
  | next =>
    obtain ⟨σ',H',I',q⟩:=q
    exact h2 pins s1 σ' H' D I' q
  | ret v=>exact q
  | brk=>exact q
  | cont=>exact q
theorem pss_one (h1:PS X st t):PSs X [st] t:=by
  intro pins s σ H D I h
  refine wpAny_execs_cons (thn (h1 pins s σ H D I h) fun f s1 q=>?_)
  cases f with
  | next=>exact wpAny_execs_nil q
  | ret v=>exact q
  | brk=>exact q
  | cont=>exact q
theorem Inv.quiet {pins:List (Addr×Obj)} {σ:St} {H:Hp} {s:Shared} (I:Inv X pins σ H s):interactive X.env=false:=by simp [interactive,I.ok.kind]
def tDrop (te:TE):TS:=fun D σ H=>te σ H fun _ H1=>D.nx σ H1
theorem ps_expr (he:PE X e te) (hs:swapsWith e none pos.line X.env=pure false:=by rfl):PS X (.Expr e pos) (tDrop te):=by
  intro pins s σ H D I h
  exact wpAny_Expr_any (thn (he pins s σ H _ I h) fun v s1 ⟨x,H1,I1,r1,q1⟩=>⟨σ,H1,I1,q1⟩) I.quiet hs
def tRet (te:TE):TS:=fun D σ H=>te σ H D.rt
theorem ps_ret (he:PE X e te):PS X (.Return (some e) pos) (tRet te):=by
  intro pins s σ H D I h
  exact wpAny_Return_some (thn (he pins s σ H _ I h) fun v s1 ⟨x,H1,I1,r1,q1⟩=>⟨x,σ,H1,I1,r1,q1⟩)
def tIfS (c:TT) (t u:TS):TS:=fun D σ H=>c σ H fun b H1=>if b=true then t D σ H1 else u D σ H1
theorem ps_if {c:Expr} {a b:List Stmt} {tc:TT} (hc:PT X c tc) (ha:PSs X a t) (hb:PSs X b u):PS X (.If c a b pos) (tIfS tc t u):=by
  intro pins s σ H D I h
  refine wpAny_If (thn (hc pins s σ H _ I h) fun d s1 ⟨H1,I1,q1⟩=>?_)
  cases d with
  | true=>exact ha pins s1 σ H1 D I1 q1
  | false=>exact hb pins s1 σ H1 D I1 q1
end
abbrev TG:=V→St→Hp→(St→Hp→Prop)→Prop
abbrev TGs:=List V→St→Hp→(St→Hp→Prop)→Prop
def PG (X:Cx) (target:Expr) (t:TG):Prop :=
  ∀ (pins:List (Addr×Obj)) (s:Shared) (σ:St) (H:Hp) (v:V) (u:Value) (Q:St→Hp→Prop),Inv X pins σ H s→RelV v u→t v σ H Q →
    wpAny (model X.prog X.w) X.A (assign target X.env u) (fun _ s'=>∃ σ' H',Inv X pins σ' H' s'∧Q σ' H') X.xe s
def PGs (X:Cx) (ts:List Expr) (t:TGs):Prop :=
  ∀ (pins:List (Addr×Obj)) (s:Shared) (σ:St) (H:Hp) (vs:List V) (us:List Value) (Q:St→Hp→Prop),Inv X pins σ H s→Vals vs us→t vs σ H Q →
    wpAny (model X.prog X.w) X.A (assignInOrder ((assignEach ts X.env).map (·.2)) us) (fun _ s'=>∃ σ' H',Inv X pins σ' H' s'∧Q σ' H') X.xe s
abbrev TSet:=V→V→V→Hp→(Hp→Prop)→Prop
def PSet (X:Cx) (t:TSet):Prop :=
  ∀ (pins:List (Addr×Obj)) (s:Shared) (σ:St) (H:Hp) (o i v:V) (ov iv u:Value) (Q:Hp→Prop),Inv X pins σ H s→RelV o ov→RelV i iv→RelV v u→t o i v H Q →
    wpAny (model X.prog X.w) X.A (setItem ov iv u) (fun _ s'=>∃ H',Inv X pins σ H' s'∧Q H') X.xe s
abbrev TIp:=V→V→Hp→VK→Prop
def PIp (X:Cx) (op:Operator) (t:TIp):Prop :=
  ∀ (pins:List (Addr×Obj)) (s:Shared) (σ:St) (H:Hp) (x y:V) (v u:Value) (Q:VK),Inv X pins σ H s→RelV x v→RelV y u→t x y H Q →
    wpAny (model X.prog X.w) X.A (inplaceOp op v u) (EP X pins σ Q) X.xe s
section
variable {X:Cx} {pos:Pos}
def gName (i:Nat):TG:=fun v σ H Q=>Q (σ.set i (some v)) H
theorem pg_name {i:Nat} {x:Str} (hN:X.N.Nodup) (hi:X.N[i]? = some x) (hx:Loc X.env.scope x) (hf:X.fn x=true∨X.env.scope.names.lookup x=some .local:=by first | exact .inl rfl | exact .inr rfl | assumption):PG X (.Name x pos) (gName i):=by
  intro pins s σ H v u Q I r h
  exact wpAny_assign_Name (store_ok I hN hi hx r (fun s' I'=>⟨_,H,I',h⟩) hf)
def gNil:TGs:=fun vs σ H Q=>vs=[]∧Q σ H
def gCons (t:TG) (u:TGs):TGs:=fun vs σ H Q=>∃ v r,vs=v::r∧t v σ H fun σ' H'=>u r σ' H' Q
theorem pgs_nil:PGs X [] gNil:=by
  intro pins s σ H vs us Q I r h
  obtain ⟨e,h⟩:=h
  subst e
  cases r
  exact assignInOrder_nil ⟨σ,H,I,h⟩
theorem pgs_cons {e:Expr} {es:List Expr} {t:TG} {u:TGs} (h1:PG X e t) (h2:PGs X es u) (hs:(assignEach (e::es) X.env).map (·.2)=assign e X.env::(assignEach es X.env).map (·.2):=by rfl):PGs X (e::es) (gCons t u):=by
  intro pins s σ H vs us Q I r h
  obtain ⟨v,vr,e1,h⟩:=h
  subst e1
  cases r with
  | cons r rr =>
    rw [hs]
    refine assignInOrder_cons (thn (h1 pins s σ H _ _ _ I r h) fun _ s1 ⟨σ1,H1,I1,q1⟩=>?_)
    exact h2 pins s1 σ1 H1 _ _ Q I1 rr q1
def gTup (K:PySem.W.Frag) (n:Nat) (t:TGs):TG:=fun v σ H Q=>∃ a xs,v=.ref a∧SqT K H a xs∧xs.length=n∧t xs σ H Q
theorem pg_tup {es:List Expr} {k:Nat} {t:TGs} {n:Nat} (hc:X.calm=true) (h:PGs X es t) (hn:(assignEach es X.env).length=n:=by rfl) (hst:(assignEach es X.env).findIdx? (·.1)=none:=by rfl):PG X (.Tuple es k pos) (gTup X.K n t):=by
  intro pins s σ H v u Q I r hw
  obtain ⟨a,xs,e1,hq,hl,hw⟩:=hw
  subst e1
  cases r
  obtain ⟨its,rv,ht,hz⟩:=I.tuple hq
  refine assign_Tuple_tuple (I.ok.hd hc) ht (by simp [hn,← hl,rv.length]) hst fun h' hx=>?_
  have I1:Inv X pins σ H { s with heap:=h' }:=I.kept (t':=s.toks) fun b o e=>hx b o (Nat.ne_of_lt (Heap.lt_size e)) e
  exact h pins _ σ H xs _ Q I1 (by simpa using rv) hw
def gSub (to ti:TE) (t:TSet):TG:=fun v σ H Q=>to σ H fun o H1=>ti σ H1 fun i H2=>t o i v H2 fun H3=>Q σ H3
theorem pg_sub {o i:Expr} {to ti:TE} {t:TSet} (ho:PE X o to) (hi:PE X i ti) (hs:PSet X t)
    (ha:∀ v,assign (.Subscript o i pos) X.env v=(do
      let ov ← holding [v] (eval o X.env)
      let iv ← holding [v,ov] (eval i X.env)
      standAt pos
      holding [v,ov,iv] (setItem ov iv v)
      release [v,ov,iv] []):=by intro _; rfl):PG X (.Subscript o i pos) (gSub to ti t):=by
  intro pins s σ H v u Q I r h
  rw [ha]
  refine wpAny_bind (wpAny_holding (thn (ho pins s σ H _ I h) fun ov s1 ⟨x,H1,I1,r1,q1⟩=>?_))
  refine wpAny_bind (wpAny_holding (thn (hi pins s1 σ H1 _ I1 q1) fun iv s2 ⟨y,H2,I2,r2,q2⟩=>?_))
  refine wpAny_bind (wpAny_standAt (wpAny_bind (wpAny_holding (thn (hs pins s2 σ H2 x y v ov iv u _ I2 r1 r2 r q2) fun _ s3 ⟨H3,I3,q3⟩=>?_))))
  exact wpAny_release ⟨σ,H3,I3,q3⟩
def tAsg (te:TE) (g:TG):TS:=fun D σ H=>te σ H fun x H1=>g x σ H1 D.nx
theorem ps_asg {tg e:Expr} {te:TE} {g:TG} (he:PE X e te) (hg:PG X tg g) (hs:swapsWithSole [tg] e pos.line X.env=pure false:=by rfl) (hw:swappedStores [tg] e X.env=pure none:=by rfl) (h1:(assignEach [tg] X.env).map (·.2)=[assign tg X.env]:=by rfl):PS X (.Assign [tg] e pos) (tAsg te g):=by
  intro pins s σ H D I h
  refine wpAny_Assign_stores (thn (he pins s σ H _ I h) fun v s1 ⟨x,H1,I1,r1,q1⟩=>?_) hs hw
  rw [h1]
  exact thn (hg pins s1 σ H1 x v _ I1 r1 q1) fun _ s2 q=>q
theorem ps_set {i:Nat} {x:Str} {e:Expr} {te:TE} {pos':Pos} (hN:X.N.Nodup) (hi:X.N[i]? = some x) (hx:Loc X.env.scope x) (he:PE X e te) (hs:swapsWith e (some (.Name x pos')) pos.line X.env=pure false:=by rfl) (hf:X.fn x=true∨X.env.scope.names.lookup x=some .local:=by first | exact .inl rfl | exact .inr rfl | assumption):PS X (.Assign [.Name x pos'] e pos) (tAsg te (gName i)):=by
  intro pins s σ H D I h
  refine wpAny_Assign_Name (thn (he pins s σ H _ I h) fun v s1 ⟨y,H1,I1,r1,q1⟩=>?_) hs
  exact store_ok I1 hN hi hx r1 (fun s2 I2=>⟨_,H1,I2,q1⟩) hf
def tAug (i:Nat) (te:TE) (ti:TIp):TS:=fun D σ H=>∃ x,σ[i]? = some (some x)∧te σ H fun y H1=>ti x y H1 fun z H2=>D.nx (σ.set i (some z)) H2
theorem ps_aug {i:Nat} {x:Str} {e:Expr} {te:TE} {op:Operator} {ti:TIp} {pos':Pos} (hN:X.N.Nodup) (hi:X.N[i]? = some x) (hx:Loc X.env.scope x) (he:PE X e te) (ho:PIp X op ti) (hf:X.fn x=true∨X.env.scope.names.lookup x=some .local:=by first | exact .inl rfl | exact .inr rfl | assumption):PS X (.AugAssign (.Name x pos') op e pos) (tAug i te ti):=by
  intro pins s σ H D I h
  obtain ⟨v,e1,h⟩:=h
  obtain ⟨m,hn,hl⟩:=I.loc
  have vis:Vis X.env.scope x:=by rcases hx with k | k; exact .inl k; exact .inr (.inl k)
  obtain ⟨u,r,l⟩:=hl i x v hi e1 vis
  refine wpAny_AugAssign_Name ?_
  have go:wpAny (model X.prog X.w) X.A (eval e X.env) (fun w s₂=>wpAny (model X.prog X.w) X.A (inplaceOp op u w) (fun r s₃=>wpAny (model X.prog X.w) X.A (storeName X.env x r) (fun _=>SP X pins D .next) X.xe s₃) X.xe s₂) X.xe s:=by
    refine thn (he pins s σ H _ I h) fun w s1 ⟨y,H1,I1,r1,q1⟩=>?_
    refine thn (ho pins s1 σ H1 v y u w _ I1 r r1 q1) fun z s2 ⟨zv,H2,I2,r2,q2⟩=>?_
    exact store_ok I2 hN hi hx r2 (fun s3 I3=>⟨_,H2,I3,q2⟩) hf
  rcases l with ⟨hk,hm⟩ | ⟨hk,c,hc,hcell⟩
  · exact wpAny_loadName_local I.ok.kind hk hn hm go
  · rcases hk with hk | hk
    · exact wpAny_loadName_cell I.ok.kind hk hc hcell go
    · rcases hx with k | k
      · have : X.env.scope.names.lookup x=some .free:=hk
        rw [k] at this; cases this
      · have : X.env.scope.names.lookup x=some .free:=hk
        rw [k] at this; cases this
def ipI (f:Int→Int→Int):TIp:=fun x y H Q=>∃ i j,x=.int i∧y=.int j∧Q (.int (f i j)) H
theorem ip_add:PIp X .Add (ipI fun i j=>i+j):=by
  intro pins s σ H x y v u Q I r1 r2 h
  obtain ⟨i,j,e1,e2,q⟩:=h
  subst e1; subst e2
  obtain ⟨t,rfl⟩:=r1
  obtain ⟨t',rfl⟩:=r2
  exact iadd_int ⟨.int _,H,I.tok _,⟨_,rfl⟩,q⟩
end
structure It where
  go:Nat→Hp→Prop
  yld:Nat→Hp→V→Hp→Prop
  stop:Nat→Hp→Prop
def FpOk (X:Cx) (pins:List (Addr×Obj)) (H:Hp) (b:Addr):Prop :=
  H b=none∧b≠X.env.locals∧b∉X.fs∧(b∈X.ex∨X.s₀.heap.objs.size≤b)∧(∀ x c,X.env.cells.lookup x=some c→c≠b)∧∀ p∈X.pn++pins,p.1≠b
theorem Inv.fpOk {X:Cx} {pins:List (Addr×Obj)} {σ:St} {H H':Hp} {s:Shared} {b:Addr} (I:Inv X pins σ H s) (hb:s.heap.objs.size≤b) (hn:H' b=none):FpOk X pins H' b:=by
  refine ⟨hn,Nat.ne_of_gt (Nat.lt_of_lt_of_le I.lt hb),I.nofs hb,.inr (Nat.le_trans I.sz hb),fun x c e z=>?_,fun p hp z=>?_⟩
  · obtain ⟨v,q⟩:=I.cell x c e
    exact absurd (Nat.lt_of_lt_of_le q.lt (by rw [z]; exact hb)) (Nat.lt_irrefl _)
  · exact absurd (Nat.lt_of_lt_of_le (Heap.lt_size (I.pin p hp).1) (by rw [z]; exact hb)) (Nat.lt_irrefl _)
structure Turn (P:Program) (w:World) (K:PySem.W.Frag) (tg:Expr) (J:It) (fp:List Addr) (it:Addr) (tn:Nat→Heap→Prop):Prop where
  mem:it∈fp
  obj:∀ i h,tn i h→∀ b∈fp,∃ o,h.get? b=some o∧∀ v,o.data≠.cell v
  keep:∀ i h h',tn i h→(∀ b∈fp,∀ o,h.get? b=some o→h'.get? b=some o)→tn i h'
  item:∀ (X:Cx),X.prog=P→X.w=w→X.K=K→X.calm=true→∀ (i:Nat) (pins:List (Addr×Obj)) (s:Shared) (σ:St) (H:Hp) (E:Value→Shared→Prop),Inv X pins σ H s→(∀ b∈fp,FpOk X pins H b)→tn i s.heap→J.go i H →
    wpAny (model P w) X.A (pyNext (.ref it)) (fun r s1=>∃ u,r=some u ∧
      wpAny (model P w) X.A (letOwnedTupleGo tg (.ref it) u) (fun _ s2=>∃ x H',Inv X pins σ H' s2∧RelV x u∧J.yld i H x H'∧tn (i+1) s2.heap∧∀ b∈fp,H' b=none) E s1) E s
  done:∀ (X:Cx),X.prog=P→X.w=w→X.K=K→X.calm=true→∀ (i:Nat) (pins:List (Addr×Obj)) (s:Shared) (σ:St) (H:Hp) (E:Value→Shared→Prop),Inv X pins σ H s→(∀ b∈fp,FpOk X pins H b)→tn i s.heap→J.stop i H →
    wpAny (model P w) X.A (pyNext (.ref it)) (fun r s1=>r=none∧Inv X pins σ H s1) E s
  self:∀ (A:Around) (i:Nat) (s:Shared) (Q:Value→Shared→Prop) (E:Value→Shared→Prop),tn i s.heap→Q (.ref it) s→wpAny (model P w) A (pyIter (.ref it)) Q E s
abbrev TI:=St→Hp→(It→Hp→Prop)→Prop
def PIE (X:Cx) (pins:List (Addr×Obj)) (σ:St) (tg:Expr) (R:It→Hp→Prop) (itv:Value) (s2:Shared):Prop :=
  ∃ (it:Addr) (fp:List Addr) (tn:Nat→Heap→Prop) (J:It) (H':Hp),itv=.ref it∧Inv X pins σ H' s2∧Turn X.prog X.w X.K tg J fp it tn∧tn 0 s2.heap∧(∀ b∈fp,FpOk X pins H' b)∧R J H'
def PI (X:Cx) (tg iter:Expr) (wi:TI):Prop :=
  ∀ (pins:List (Addr×Obj)) (s:Shared) (σ:St) (H:Hp) (R:It→Hp→Prop),Inv X pins σ H s→wi σ H R →
    wpAny (model X.prog X.w) X.A (eval iter X.env) (fun v s1=>wpAny (model X.prog X.w) X.A (pyIter v) (PIE X pins σ tg R) X.xe s1) X.xe s
theorem go_of {M:Model} {A:Around} {E:Value→Shared→Prop} {s:Shared} {tg:Expr} {it:Addr} {u:Value} {o:Obj} {n:String} {vs:Array Value} {Q:Unit→Shared→Prop} (ho:s.heap.get? it=some o) (hc:o.cls=.type n) (hd:o.data=.fields vs) (hn:["enumerate", "zip", "dict_itemiterator", "dict_reverseitemiterator", "odict_iterator", "itertools.zip_longest", "itertools.pairwise"].contains n=false) (hQ:Q () s):wpAny M A (letOwnedTupleGo tg (.ref it) u) Q E s:=by
  unfold letOwnedTupleGo
  cases tg <;> first
    | exact wpAny_pure hQ
    | (cases u <;> first
        | exact wpAny_pure hQ
        | (refine wpAny_bind (wpAny_load ho ?_)
           rw [hc,hd]
           show wpAny M A (if (["enumerate", "zip", "dict_itemiterator", "dict_reverseitemiterator", "odict_iterator", "itertools.zip_longest", "itertools.pairwise"].contains n && vs[0]? == some (rawInt _))=true then _ else _) Q E s
           rw [if_neg (by intro h; rw [hn,Bool.false_and] at h; cases h)]
           exact wpAny_pure hQ))
def Itl (K:PySem.W.Frag) (a:Addr):It :=
  ⟨fun i H=>∃ xs x,SqL K H a xs∧xs[i]? = some x,fun i H x H'=>H'=H∧∀ xs,SqL K H a xs→xs[i]? = some x,fun i H=>∃ xs,SqL K H a xs∧xs.length≤i⟩
def Itt (K:PySem.W.Frag) (a:Addr):It :=
  ⟨fun i H=>∃ xs x,SqT K H a xs∧xs[i]? = some x,fun i H x H'=>H'=H∧∀ xs,SqT K H a xs→xs[i]? = some x,fun i H=>∃ xs,SqT K H a xs∧xs.length≤i⟩
def Itr (lo:Int) (n:Nat):It:=⟨fun i _=>i<n,fun i H x H'=>H'=H∧x=.int (lo+i),fun i _=>n≤i⟩
theorem turn_list {P:Program} {w:World} {K:PySem.W.Frag} {tg:Expr} (a it:Addr):Turn P w K tg (Itl K a) [it] it (fun i h=>h.IsListIter it a i) where
  mem:=by simp
  obj:=fun i h st b hb=>by
    have e:b=it:=by simpa using hb
    subst e
    obtain ⟨o,e,c,d⟩:=st
    exact ⟨o,e,fun v z=>by rw [d] at z; cases z⟩
  keep:=fun i h h' st k=>st.at fun o e=>k it (by simp) o e
  item:=by
    intro X hP hw hK hc i pins s σ H E I hf st hg
    subst hP hw hK
    obtain ⟨xs,x,hq,hx⟩:=hg
    obtain ⟨its,rv,p,hz⟩:=I.list hq
    obtain ⟨u,hu,ru⟩:=rv.get hx
    obtain ⟨f0,f1,f2,f3,f4,f5⟩:=hf it (by simp)
    refine wpAny_pyNext_list_item st p.isList (x:=u) (by simpa using hu) fun h' st' sb=>?_
    have I1:Inv X pins σ H { s with heap:=h' }:=I.turned (t':=s.toks) (fun b o hb e=>(sb.2 b hb).trans e) f0 f1 f3 f4 f5
    obtain ⟨o,e,c,d⟩:=id st'
    exact ⟨u,rfl,go_of (s:={ s with heap:=h' }) e c d (by decide) ⟨x,H,I1,ru,⟨rfl,fun ys hy=>by rw [I.list_inj hy hq]; exact hx⟩,st',fun b hb=>(hf b hb).1⟩⟩
  done:=by
    intro X hP hw hK hc i pins s σ H E I hf st hg
    subst hP hw hK
    obtain ⟨xs,hq,hx⟩:=hg
    obtain ⟨its,rv,p,hz⟩:=I.list hq
    obtain ⟨f0,f1,f2,f3,f4,f5⟩:=hf it (by simp)
    have hl:=rv.length
    exact wpAny_pyNext_list_end (I.ok.hd hc) st p.isList (by simp; omega) fun h' eb=>⟨rfl,I.turned (t':=s.toks) (fun b o hb e=>eb b o hb e) f0 f1 f3 f4 f5⟩
  self:=fun _ _ _ _ _ st h=>wpAny_pyIter_listiter st h
theorem turn_tuple {P:Program} {w:World} {K:PySem.W.Frag} {tg:Expr} (a it:Addr):Turn P w K tg (Itt K a) [it] it (fun i h=>h.IsTupleIter it a i) where
  mem:=by simp
  obj:=fun i h st b hb=>by
    have e:b=it:=by simpa using hb
    subst e
    obtain ⟨o,e,c,d⟩:=st
    exact ⟨o,e,fun v z=>by rw [d] at z; cases z⟩
  keep:=fun i h h' st k=>st.at fun o e=>k it (by simp) o e
  item:=by
    intro X hP hw hK hc i pins s σ H E I hf st hg
    subst hP hw hK
    obtain ⟨xs,x,hq,hx⟩:=hg
    obtain ⟨its,rv,p,hz⟩:=I.tuple hq
    obtain ⟨u,hu,ru⟩:=rv.get hx
    obtain ⟨f0,f1,f2,f3,f4,f5⟩:=hf it (by simp)
    refine wpAny_pyNext_tuple_item st (show s.heap.IsTuple a its.toArray from p) (x:=u) (by simpa using hu) fun h' st' sb=>?_
    have I1:Inv X pins σ H { s with heap:=h' }:=I.turned (t':=s.toks) (fun b o hb e=>(sb.2 b hb).trans e) f0 f1 f3 f4 f5
    obtain ⟨o,e,c,d⟩:=id st'
    exact ⟨u,rfl,go_of (s:={ s with heap:=h' }) e c d (by decide) ⟨x,H,I1,ru,⟨rfl,fun ys hy=>by rw [I.tuple_inj hy hq]; exact hx⟩,st',fun b hb=>(hf b hb).1⟩⟩
  done:=by
    intro X hP hw hK hc i pins s σ H E I hf st hg
    subst hP hw hK
    obtain ⟨xs,hq,hx⟩:=hg
    obtain ⟨its,rv,p,hz⟩:=I.tuple hq
    obtain ⟨f0,f1,f2,f3,f4,f5⟩:=hf it (by simp)
    have hl:=rv.length
    exact wpAny_pyNext_tuple_end (I.ok.hd hc) st (show s.heap.IsTuple a its.toArray from p) (by simp; omega) fun h' eb=>⟨rfl,I.turned (t':=s.toks) (fun b o hb e=>eb b o hb e) f0 f1 f3 f4 f5⟩
  self:=fun _ _ _ _ _ st h=>wpAny_pyIter_tupleiter st h
theorem turn_range {P:Program} {w:World} {K:PySem.W.Frag} {tg:Expr} (it:Addr) (lo:Int) (n:Nat):Turn P w K tg (Itr lo n) [it] it (fun i h=>IsRangeIter h it (lo+(i:Nat) * 1) ((n:Int) - (i:Nat)) 1) where
  mem:=by simp
  obj:=fun i h st b hb=>by
    have e:b=it:=by simpa using hb
    subst e
    exact ⟨_,st,fun v z=>by
      have z':Data.fields _=Data.cell v:=z
      cases z'⟩
  keep:=fun i h h' st k=>k it (by simp) _ st
  item:=by
    intro X hP hw hK hc i pins s σ H E I hf st hg
    subst hP hw hK
    obtain ⟨f0,f1,f2,f3,f4,f5⟩:=hf it (by simp)
    have W:=Walks.range (prog:=X.prog) (w:=X.w) (I.ok.hd hc) it lo 1 n
    refine W.item i s _ _ hg st fun v h' tk hv st' kk=>?_
    obtain ⟨t,rfl⟩:=hv
    have I1:Inv X pins σ H { s with heap:=h',toks:=tk }:=I.turned (fun b o hb e=>kk b o (by simpa using hb) e) f0 f1 f3 f4 f5
    refine ⟨_,rfl,go_of (s:={ s with heap:=h',toks:=tk }) (n := "range_iterator") st' rfl rfl (by decide) ⟨.int (lo+i),H,I1,⟨t,?_⟩,⟨rfl,rfl⟩,st',fun b hb=>(hf b hb).1⟩⟩
    rw [Int.mul_one]
  done:=by
    intro X hP hw hK hc i pins s σ H E I hf st hg
    subst hP hw hK
    obtain ⟨f0,f1,f2,f3,f4,f5⟩:=hf it (by simp)
    exact wpAny_pyNext_range_end (I.ok.hd hc) st (by have : n≤i:=hg; omega) fun h' eb=>⟨rfl,I.turned (t':=s.toks) (fun b o hb e=>eb b o hb e) f0 f1 f3 f4 f5⟩
  self:=fun _ _ _ _ _ st h=>wpAny_pyIter_rangeiter st h
end L2
namespace L2
open PySem PySem.Spec PyProof.Rows
section
variable {X:Cx} {tg:Expr}
def iList (K:PySem.W.Frag) (tl:TE):TI:=fun σ H R=>tl σ H fun x H1=>∃ a,x=.ref a∧(∃ xs,SqL K H1 a xs)∧R (Itl K a) H1
def iTup (K:PySem.W.Frag) (tl:TE):TI:=fun σ H R=>tl σ H fun x H1=>∃ a,x=.ref a∧(∃ xs,SqT K H1 a xs)∧R (Itt K a) H1
theorem pi_list {l:Expr} {tl:TE} (hl:PE X l tl):PI X tg l (iList X.K tl):=by
  intro pins s σ H R I h
  refine thn (hl pins s σ H _ I h) fun v s1 ⟨x,H1,I1,r1,q1⟩=>?_
  obtain ⟨a,e,⟨xs,hq⟩,q⟩:=q1
  subst e
  cases r1
  obtain ⟨its,rv,p,hz⟩:=I1.list hq
  refine wpAny_pyIter_list p.isList ?_
  refine ⟨s1.heap.objs.size,[s1.heap.objs.size],_,_,H1,rfl,I1.kept (t':=s1.toks) fun b o e=>Heap.get?_push_of_some _ e,turn_list a _,⟨_,Heap.get?_push_size _ rfl,rfl,rfl⟩,fun b hb=>?_,q⟩
  have e:b=s1.heap.objs.size:=by simpa using hb
  subst e
  exact I1.fpOk (Nat.le_refl _) (I1.hok.fresh (Nat.le_refl _))
theorem pi_tup {l:Expr} {tl:TE} (hl:PE X l tl):PI X tg l (iTup X.K tl):=by
  intro pins s σ H R I h
  refine thn (hl pins s σ H _ I h) fun v s1 ⟨x,H1,I1,r1,q1⟩=>?_
  obtain ⟨a,e,⟨xs,hq⟩,q⟩:=q1
  subst e
  cases r1
  obtain ⟨its,rv,p,hz⟩:=I1.tuple hq
  refine wpAny_pyIter_tuple (show s1.heap.IsTuple a its.toArray from p) ?_
  refine ⟨s1.heap.objs.size,[s1.heap.objs.size],_,_,H1,rfl,I1.kept (t':=s1.toks) fun b o e=>Heap.get?_push_of_some _ e,turn_tuple a _,⟨_,Heap.get?_push_size _ rfl,rfl,rfl⟩,fun b hb=>?_,q⟩
  have e:b=s1.heap.objs.size:=by simpa using hb
  subst e
  exact I1.fpOk (Nat.le_refl _) (I1.hok.fresh (Nat.le_refl _))
theorem range_it {pins:List (Addr×Obj)} {σ:St} {H:Hp} {s:Shared} {R:It→Hp→Prop} {E:Value→Shared→Prop} {lo hi:Int} {t u v:Tok} {tk:Nat} (I:Inv X pins σ H s) (h1:-(2 ^ 62)≤lo) (h2:lo<2 ^ 62) (h3:-(2 ^ 62)≤hi) (h4:hi<2 ^ 62) (q:R (Itr lo (hi - lo).toNat) H):wpAny (model X.prog X.w) X.A (pyIter (.ref s.heap.objs.size)) (PIE X pins σ tg R) E { s with heap:=s.heap.push { cls:=.type "range",data:=.fields #[.int lo t,.int hi u,.int 1 v] },toks:=tk }:=by
  refine wpAny_pyIter_range (IsRange.new ..) (small_one h1 h2 h3 h4) ?_
  have I1:Inv X pins σ H { s with heap:=s.heap.push { cls:=.type "range",data:=.fields #[.int lo t,.int hi u,.int 1 v] },toks:=tk }:=I.kept fun b o e=>Heap.get?_push_of_some _ e
  refine ⟨(s.heap.push { cls:=.type "range",data:=.fields #[.int lo t,.int hi u,.int 1 v] }).objs.size,[(s.heap.push { cls:=.type "range",data:=.fields #[.int lo t,.int hi u,.int 1 v] }).objs.size],_,_,H,rfl,
    I1.kept (t':=tk) fun b o e=>Heap.get?_push_of_some _ e,turn_range _ lo (hi - lo).toNat,?_,fun b hb=>?_,q⟩
  · have e1:lo+((0:Nat):Int) * 1=lo:=by simp
    have e2:(((hi - lo).toNat:Nat):Int) - ((0:Nat):Int)=Builtin.Range.rangeSize lo hi 1:=by rw [rangeSize_one]; split <;> omega
    show IsRangeIter _ _ (lo+((0:Nat):Int) * 1) ((((hi - lo).toNat:Nat):Int) - ((0:Nat):Int)) 1
    rw [e1,e2]
    exact Heap.get?_push_size _ rfl
  · have e:b=(s.heap.push { cls:=.type "range",data:=.fields #[.int lo t,.int hi u,.int 1 v] }).objs.size:=by simpa using hb
    subst e
    exact I1.fpOk (Nat.le_refl _) (I1.hok.fresh (Nat.le_refl _))
def iRng1 (ta:TA):TI:=fun σ H R=>ta σ H fun vs H1=>∃ j:Int,vs=[.int j] ∧ -(2 ^ 62)≤j∧j<2 ^ 62∧R (Itr 0 j.toNat) H1
theorem pi_range1 {a:Expr} {ta:TA} {p pos:Pos} (hg:Gl X "range") (hm:X.mg "range" = none) (ha:PA X [a] ta) (hs:starEach [a] X.env=[(false,eval a X.env)]:=by rfl):PI X tg (.Call (.Name "range" p) [a] [] pos) (iRng1 ta):=by
  intro pins s σ H R I h
  refine Call_ (ld_blt I hg hm boot_range (PyProof.Rows.callWith_type1 (thn (ha pos pins s σ H _ I h) fun us s1 ⟨vs,H1,I1,r1,q1⟩=>?_) hs rfl))
  obtain ⟨j,e,q1,q2,q⟩:=q1
  subst e
  cases r1 with
  | cons r rr =>
    cases rr
    obtain ⟨t,rfl⟩:=r
    exact call_range_1 (range_it I1 (by omega) (by omega) q1 q2 (by simpa using q))
def tFor (wi:TI) (g:TG) (tb:TS):TS:=fun D σ H=>wi σ H fun J H1=>∃ W:Nat→Nat→St→Hp→Prop,(∃ m,W 0 m σ H1)∧∀ i m σ H,W i m σ H →
  (J.stop i H∧D.nx σ H)∨(J.go i H∧∃ N:St→Hp→Prop,(∀ σ' H',N σ' H'→∃ m',m'<m∧W (i+1) m' σ' H')∧∀ x H',J.yld i H x H'→g x σ H' fun σ2 H2=>tb { D with nx:=N,ct:=N,bk:=D.nx } σ2 H2)
def pinsAt (fp:List Addr) (h:Heap):List (Addr×Obj):=fp.filterMap fun b=>(h.get? b).map fun o=>(b,o)
theorem mem_pinsAt {fp:List Addr} {h:Heap} {b:Addr} {o:Obj} (hb:b∈fp) (e:h.get? b=some o):(b,o)∈pinsAt fp h:=List.mem_filterMap.mpr ⟨b,hb,by rw [e]; rfl⟩
theorem of_pinsAt {fp:List Addr} {h:Heap} {p:Addr×Obj} (hp:p∈pinsAt fp h):p.1∈fp∧h.get? p.1=some p.2:=by
  obtain ⟨b,hb,e⟩:=List.mem_filterMap.mp hp
  cases q:h.get? b with
  | none=>rw [q] at e; cases e
  | some o =>
    rw [q] at e
    have e':(b,o)=p:=Option.some.inj e
    subst e'
    exact ⟨hb,q⟩
theorem Inv.pinned {pins:List (Addr×Obj)} {σ:St} {H:Hp} {s:Shared} {fp:List Addr} (I:Inv X pins σ H s) (hf:∀ b∈fp,FpOk X pins H b) (ho:∀ b∈fp,∃ o,s.heap.get? b=some o∧∀ v,o.data≠.cell v):Inv X (pins++pinsAt fp s.heap) σ H s :=
  I.pins_of fun p hp=>(List.mem_append.mp hp).elim (fun z=>I.pin p (List.mem_append_right _ z)) fun z=>by
    obtain ⟨hb,e⟩:=of_pinsAt z
    obtain ⟨f0,f1,f2,_⟩:=hf p.1 hb
    obtain ⟨o,e',d⟩:=ho p.1 hb
    rw [e] at e'; cases e'
    exact ⟨e,f0,f1,f2,d⟩
theorem Inv.unpinned {pins pl:List (Addr×Obj)} {σ:St} {H:Hp} {s:Shared} (I:Inv X (pins++pl) σ H s):Inv X pins σ H s:=I.pins_of fun p hp=>I.pin p (List.mem_append_right _ (List.mem_append_left _ hp))
theorem ps_for {iter:Expr} {body:List Stmt} {wi:TI} {g:TG} {tb:TS} {pos:Pos} (hp:PassesOwn (model X.prog X.w) X.A X.env X.xe) (hc:X.calm=true) (hi:PI X tg iter wi) (hg:PG X tg g) (hb:PSs X body tb) (hs:∀ x,foldedSetIterable iter X.env x=pure x:=by intro _; rfl):PS X (.For tg iter body [] pos) (tFor wi g tb):=by
  intro pins s σ H D I h
  refine wpAny_For (thn (hi pins s σ H _ I h) fun v s1 h1=>thn h1 fun itv s2 h2=>?_) hs
  obtain ⟨it,fp,tn,J,H2,e,I2,T,st2,f2,W,⟨m0,w0⟩,turn⟩:=h2
  subst e
  -- what stays true of the iterator's objects through the loop
  have stat:∀ {H':Hp},(∀ b∈fp,H' b=none)→∀ b∈fp,FpOk X pins H' b:=fun hn b hb=>⟨hn b hb,(f2 b hb).2⟩
  refine codeAny_forLoop_any (fun n s'=>∃ i σ' H',Inv X pins σ' H' s'∧tn i s'.heap∧(∀ b∈fp,H' b=none)∧W i n σ' H') ?_ m0 ⟨0,σ,H2,I2,st2,fun b hb=>(f2 b hb).1,w0⟩
  rintro n s3 ⟨i,σ3,H3,I3,st3,fr3,w3⟩
  rcases turn i n σ3 H3 w3 with ⟨stop,qn⟩ | ⟨go,N,hN,step⟩
  · refine wpAny_passesOwn hp (thn (T.done X rfl rfl rfl hc i pins s3 σ3 H3 X.xe I3 (stat fr3) st3 stop) fun r s4 ⟨hr,I4⟩=>?_)
    subst hr
    exact wpAny_execs_nil ⟨σ3,H3,I4,qn⟩
  · refine wpAny_passesOwn hp (thn (T.item X rfl rfl rfl hc i pins s3 σ3 H3 X.xe I3 (stat fr3) st3 go) fun r s4 ⟨u,hr,h4⟩=>?_)
    subst hr
    refine wpAny_passesOwn hp (thn h4 fun _ s5 ⟨x,H5,I5,r5,y5,st5,fr5⟩=>?_)
    have I5':=I5.pinned (stat fr5) (T.obj _ _ st5)
    refine wpAny_passesOwn hp (thn (hg _ s5 σ3 H5 x u _ I5' r5 (step x H5 y5)) fun _ s6 ⟨σ6,H6,I6,q6⟩=>?_)
    refine wpAny_passesOwn hp (thn (hb _ s6 σ6 H6 _ I6 q6) fun f s7 q7=>?_)
    have again:∀ {σ7:St} {H7:Hp},Inv X (pins++pinsAt fp s5.heap) σ7 H7 s7→N σ7 H7→∃ m,m<n∧∃ i σ' H',Inv X pins σ' H' s7∧tn i s7.heap∧(∀ b∈fp,H' b=none)∧W i m σ' H':=fun {σ7 H7} I7 n7=>by
      obtain ⟨m',hm,w7⟩:=hN σ7 H7 n7
      refine ⟨m',hm,i+1,σ7,H7,I7.unpinned,T.keep _ _ _ st5 fun b hb o e=>(I7.pin (b,o) (List.mem_append_right _ (List.mem_append_right _ (mem_pinsAt hb e)))).1,fun b hb=>?_,w7⟩
      obtain ⟨o,e,d⟩:=T.obj _ _ st5 b hb
      exact (I7.pin (b,o) (List.mem_append_right _ (List.mem_append_right _ (mem_pinsAt hb e)))).2.1
    cases f with
    | next=>obtain ⟨σ7,H7,I7,n7⟩:=q7; exact again I7 n7
    | cont=>obtain ⟨σ7,H7,I7,n7⟩:=q7; exact again I7 n7
    | brk=>obtain ⟨σ7,H7,I7,q7⟩:=q7; exact ⟨σ7,H7,I7.unpinned,q7⟩
    | ret v=>obtain ⟨x7,σ7,H7,I7,r7,q7⟩:=q7; exact ⟨x7,σ7,H7,I7.unpinned,r7,q7⟩
end
end L2
namespace L2
open PySem PySem.Spec PyProof.Rows
abbrev R2:=V→V→Hp→VK→Prop
def OpR (X:Cx) (f:Value→Value→Sem Value) (r:R2):Prop :=
  ∀ (pins:List (Addr×Obj)) (s:Shared) (σ:St) (H:Hp) (x y:V) (v u:Value) (Q:VK),Inv X pins σ H s→RelV x v→RelV y u→r x y H Q →
    wpAny (model X.prog X.w) X.A (f v u) (EP X pins σ Q) X.xe s
def UnR (X:Cx) (f:Value→Sem Value) (r:V→Hp→VK→Prop):Prop :=
  ∀ (pins:List (Addr×Obj)) (s:Shared) (σ:St) (H:Hp) (x:V) (v:Value) (Q:VK),Inv X pins σ H s→RelV x v→r x H Q →
    wpAny (model X.prog X.w) X.A (f v) (EP X pins σ Q) X.xe s
def CallR (X:Cx) (f:Value) (r:List V→Hp→VK→Prop):Prop :=
  ∀ (pins:List (Addr×Obj)) (s:Shared) (σ:St) (H:Hp) (xs:List V) (us:List Value) (Q:VK),Inv X pins σ H s→Vals xs us→r xs H Q →
    wpAny (model X.prog X.w) X.A (call f us) (EP X pins σ Q) X.xe s
def TruR (X:Cx) (r:V→Hp→(Bool→Hp→Prop)→Prop):Prop :=
  ∀ (pins:List (Addr×Obj)) (s:Shared) (σ:St) (H:Hp) (x:V) (v:Value) (Q:Bool→Hp→Prop),Inv X pins σ H s→RelV x v→r x H Q →
    wpAny (model X.prog X.w) X.A (truthy v) (TP X pins σ Q) X.xe s
def tOp (r:R2) (ta tb:TE):TE:=fun σ H Q=>ta σ H fun x H1=>tb σ H1 fun y H2=>r x y H2 Q
def tUn (r:V→Hp→VK→Prop) (ta:TE):TE:=fun σ H Q=>ta σ H fun x H1=>r x H1 Q
def rI (C:Int→Int→Prop) (g:Int→Int→V):R2:=fun x y H Q=>∃ i j,x=.int i∧y=.int j∧C i j∧Q (g i j) H
def rI0 (g:Int→Int→V):R2:=fun x y H Q=>∃ i j,x=.int i∧y=.int j∧Q (g i j) H
def rU (g:Int→V):V→Hp→VK→Prop:=fun x H Q=>∃ i,x=.int i∧Q (g i) H
section
variable {X:Cx} {a b c:Expr} {ta tb tc:TE} {pos:Pos}
theorem binT (ha:PE X a ta) (hb:PE X b tb) {pins:List (Addr×Obj)} {s:Shared} {σ:St} {H:Hp} {R:V→V→Hp→Prop} (I:Inv X pins σ H s) (h:ta σ H fun x H1=>tb σ H1 fun y H2=>R x y H2) {Q:Value→Shared→Prop} {f:Value→Value→Sem Value} (hf:∀ v u s2 x y H2,Inv X pins σ H2 s2→RelV x v→RelV y u→R x y H2→wpAny (model X.prog X.w) X.A (f v u) Q X.xe s2):wpAny (model X.prog X.w) X.A (eval a X.env) (fun v s₁=>wpAny (model X.prog X.w) X.A (eval b X.env) (fun u s₂=>wpAny (model X.prog X.w) X.A (f v u) Q X.xe s₂) X.xe s₁) X.xe s:=by
  refine thn (ha pins s σ H _ I h) fun v s1 ⟨x,H1,I1,r1,q1⟩=>?_
  refine thn (hb pins s1 σ H1 _ I1 q1) fun u s2 ⟨y,H2,I2,r2,q2⟩=>?_
  exact hf v u s2 x y H2 I2 r1 r2 q2
theorem pe_op {op:Operator} {r:R2} (ho:OpR X (binaryOp op) r) (ha:PE X a ta) (hb:PE X b tb):PE X (.BinOp a op b pos) (tOp r ta tb):=by
  intro pins s σ H Q I h
  exact wpAny_BinOp (binT ha hb I h fun v u s2 x y H2 I2 rx ry q=>ho pins s2 σ H2 x y v u Q I2 rx ry q)
theorem pe_un {op:UnaryOp} {r:V→Hp→VK→Prop} (ho:UnR X (unaryOp op) r) (ha:PE X a ta):PE X (.UnaryOp op a pos) (tUn r ta):=by
  intro pins s σ H Q I h
  exact UnaryOp_ (thn (ha pins s σ H _ I h) fun v s1 ⟨x,H1,I1,r1,q1⟩=>ho pins s1 σ H1 x v Q I1 r1 q1)
theorem opI {f:Value→Value→Sem Value} {C:Int→Int→Prop} {g:Int→Int→Int} (rule:∀ (i j:Int) (t u:Tok) (s:Shared) (Q:Value→Shared→Prop) (E:Value→Shared→Prop),C i j→Q (.int (g i j) s.toks) { s with toks:=s.toks+1 }→wpAny (model X.prog X.w) X.A (f (.int i t) (.int j u)) Q E s):OpR X f (rI C fun i j=>.int (g i j)):=by
  intro pins s σ H x y v u Q I rx ry h
  obtain ⟨i,j,rfl,rfl,hc,q⟩:=h
  obtain ⟨t,rfl⟩:=rx
  obtain ⟨t',rfl⟩:=ry
  exact rule i j t t' s _ _ hc ⟨.int (g i j),H,I.tok _,⟨_,rfl⟩,q⟩
theorem opI0 {f:Value→Value→Sem Value} {g:Int→Int→Int} (rule:∀ (i j:Int) (t u:Tok) (s:Shared) (Q:Value→Shared→Prop) (E:Value→Shared→Prop),Q (.int (g i j) s.toks) { s with toks:=s.toks+1 }→wpAny (model X.prog X.w) X.A (f (.int i t) (.int j u)) Q E s):OpR X f (rI0 fun i j=>.int (g i j)):=by
  intro pins s σ H x y v u Q I rx ry h
  obtain ⟨i,j,rfl,rfl,q⟩:=h
  obtain ⟨t,rfl⟩:=rx
  obtain ⟨t',rfl⟩:=ry
  exact rule i j t t' s _ _ ⟨.int (g i j),H,I.tok _,⟨_,rfl⟩,q⟩
theorem opB0 {f:Value→Value→Sem Value} {g:Int→Int→Bool} (rule:∀ (i j:Int) (t u:Tok) (s:Shared) (Q:Value→Shared→Prop) (E:Value→Shared→Prop),Q (.bool (g i j)) s→wpAny (model X.prog X.w) X.A (f (.int i t) (.int j u)) Q E s):OpR X f (rI0 fun i j=>.bl (g i j)):=by
  intro pins s σ H x y v u Q I rx ry h
  obtain ⟨i,j,rfl,rfl,q⟩:=h
  obtain ⟨t,rfl⟩:=rx
  obtain ⟨t',rfl⟩:=ry
  exact rule i j t t' s _ _ ⟨.bl (g i j),H,I,rfl,q⟩
def CDiv (i j:Int):Prop:=0<j∧j<1073741824
def CPow (i j:Int):Prop:=0≤j∧j≤1000000∧i.natAbs<2 ^ 64
def CMul (i j:Int):Prop:=(-(2 ^ 64)<i∧i<2 ^ 64)∨(-(2 ^ 64)<j∧j<2 ^ 64)
theorem CMul.ok {i j:Int} (h:CMul i j):IntMulOk i j:=by
  rcases h with ⟨h1,h2⟩ | ⟨h1,h2⟩
  · exact .of_left (intBits_le_64 h1 h2)
  · exact .of_right (intBits_le_64 h1 h2)
theorem op_add:OpR X (binaryOp .Add) (rI0 fun i j=>.int (i+j)):=opI0 fun _ _ _ _ _ _ _ q=>add_int q
theorem op_sub:OpR X (binaryOp .Sub) (rI0 fun i j=>.int (i - j)):=opI0 fun _ _ _ _ _ _ _ q=>sub_int q
theorem op_mul:OpR X (binaryOp .Mult) (rI CMul fun i j=>.int (i * j)):=opI fun _ _ _ _ _ _ _ hc q=>mul_int q hc.ok
theorem op_fdiv:OpR X (binaryOp .FloorDiv) (rI CDiv fun i j=>.int (i / j)):=opI fun i j _ _ _ _ _ hc q=>by
  have h1:(0:Int)<j:=hc.1
  have h2:j<1073741824:=hc.2
  exact floordiv_int (by omega) (by rw [Int.fdiv_eq_ediv_of_nonneg i (by omega)]; exact q) (.inl (PyProof.noPylong_small (by omega)))
theorem op_mod:OpR X (binaryOp .Mod) (rI (fun _ j=>0<j) fun i j=>.int (i % j)):=opI fun i j _ _ _ _ _ hc q=>by
  have h1:(0:Int)<j:=hc
  exact mod_int' (by omega) (by rw [Int.fmod_eq_emod_of_nonneg i (by omega)]; exact q)
theorem op_pow:OpR X (binaryOp .Pow) (rI CPow fun i j=>.int (i ^ j.toNat)):=opI fun _ _ _ _ _ _ _ hc q=>pow_int_small hc.1 hc.2.1 hc.2.2 q
theorem unI {f:Value→Sem Value} {g:Int→Int} (rule:∀ (i:Int) (t:Tok) (s:Shared) (Q:Value→Shared→Prop) (E:Value→Shared→Prop),Q (.int (g i) s.toks) { s with toks:=s.toks+1 }→wpAny (model X.prog X.w) X.A (f (.int i t)) Q E s):UnR X f (rU fun i=>.int (g i)):=by
  intro pins s σ H x v Q I rx h
  obtain ⟨i,rfl,q⟩:=h
  obtain ⟨t,rfl⟩:=rx
  exact rule i t s _ _ ⟨.int (g i),H,I.tok _,⟨_,rfl⟩,q⟩
theorem un_neg:UnR X (unaryOp .USub) (rU fun i=>.int (-i)):=unI fun _ _ _ _ _ q=>neg_int q
end
section
variable {X:Cx} {a b c:Expr} {ta tb tc:TE} {pos:Pos}
theorem op_lt:OpR X (compareOp .Lt) (rI0 fun i j=>.bl (decide (i<j))):=opB0 fun _ _ _ _ _ _ _ q=>lt_int q
theorem op_ge:OpR X (compareOp .GtE) (rI0 fun i j=>.bl (decide (j≤i))):=opB0 fun _ _ _ _ _ _ _ q=>ge_int q
theorem nomark (b:Expr) {op:CmpOp} (h:op≠.In:=by decide) (h2:op≠.NotIn:=by decide):behindInMarks op b=false:=by
  have e1:(op == CmpOp.In)=false:=by cases op <;> first | rfl | exact absurd rfl h
  have e2:(op == CmpOp.NotIn)=false:=by cases op <;> first | rfl | exact absurd rfl h2
  cases b <;> simp [behindInMarks,e1,e2]
theorem pe_cmpR {op:CmpOp} {r:R2} (ho:OpR X (compareOp op) r) (ha:PE X a ta) (hb:PE X b tb) (hm:behindInMarks op b=false):PE X (.Compare a [op] [b] pos) (tOp r ta tb):=by
  intro pins s σ H Q I h
  exact wpAny_Compare1 (binT ha hb I h fun v u s2 x y H2 I2 rx ry q=>ho pins s2 σ H2 x y v u Q I2 rx ry q) hm
def tTest (t:TE):TT:=fun σ H Q=>t σ H fun x H'=>∃ k,x=.bl k∧Q k H'
theorem pt_cmpR {op:CmpOp} {r:R2} (ho:OpR X (compareOp op) r) (ha:PE X a ta) (hb:PE X b tb) (hm:behindInMarks op b=false):PT X (.Compare a [op] [b] pos) (tTest (tOp r ta tb)):=by
  intro pins s σ H Q I h
  refine wpAny_isTrue_Compare1 (thn (ha pins s σ H _ I h) fun v s1 ⟨x,H1,I1,r1,q1⟩=>thn (hb pins s1 σ H1 _ I1 q1) fun u s2 ⟨y,H2,I2,r2,q2⟩ =>
    thn (ho pins s2 σ H2 x y v u _ I2 r1 r2 q2) fun c s3 ⟨z,H3,I3,r3,k,e,q3⟩=>?_) hm
  subst e
  cases r3
  exact wpAny_truthy_bool ⟨H3,I3,q3⟩
def TruV (K:PySem.W.Frag) (x:V) (H:Hp) (k:Bool):Prop :=
  match x with
  | .non=>k=false
  | .bl b=>k=b
  | .int i=>k=(i != 0)
  | .str y=>y.length≤sizeLine∧k=((y.length:Int) != 0)
  | .byt y=>y.size≤sizeLine∧k=((y.size:Int) != 0)
  | .ref p=>(∃ xs,SqL K H p xs∧k = !xs.isEmpty)∨(∃ xs,SqT K H p xs∧k = !xs.isEmpty)∨∃ kvs,H p=some (.dK kvs)∧k = !kvs.isEmpty
  | _=>False
theorem isEmpty_kv {κ:Type} {kvs:List (κ×V)} {vs:List (κ×Value)} (r:KV kvs vs):(!vs.isEmpty) = !kvs.isEmpty:=by
  cases r <;> rfl
theorem isEmpty_of {xs:List V} {its:List Value} (r:Vals xs its):(!its.toArray.isEmpty) = !xs.isEmpty:=by
  cases r <;> simp
theorem line63:(sizeLine:Nat)<2 ^ 63:=by rw [sizeLine_eq]; decide
theorem tru_ok:TruR X (fun x H Q=>∃ k,TruV X.K x H k∧Q k H):=by
  intro pins s σ H x v Q I rx h
  obtain ⟨k,e,q⟩:=h
  have hl:=line63
  have hs:sizeLine=16777216:=sizeLine_eq
  cases x with
  | non =>
    cases rx
    have e':k=false:=e
    subst e'
    exact truthy_none ⟨H,I,q⟩
  | bl b =>
    cases rx
    have e':k=b:=e
    subst e'
    exact wpAny_truthy_bool ⟨H,I,q⟩
  | int i =>
    obtain ⟨t,rfl⟩:=rx
    have e':k=(i != 0):=e
    subst e'
    exact PySem.P.truthy_int ⟨H,I,q⟩
  | str y =>
    obtain ⟨t,rfl⟩:=rx
    obtain ⟨hy,e'⟩ : y.length≤sizeLine∧k=((y.length:Int) != 0):=e
    subst e'
    exact PySem.P.truthy_str (by omega) ⟨H,I.tok _,q⟩
  | byt y =>
    obtain ⟨t,rfl⟩:=rx
    obtain ⟨hy,e'⟩ : y.size≤sizeLine∧k=((y.size:Int) != 0):=e
    subst e'
    exact PySem.W.truthy_bytes (by omega) ⟨H,I.tok _,q⟩
  | ref p =>
    cases rx
    have e':(∃ xs,SqL X.K H p xs∧k = !xs.isEmpty)∨(∃ xs,SqT X.K H p xs∧k = !xs.isEmpty)∨∃ kvs,H p=some (.dK kvs)∧k = !kvs.isEmpty:=e
    rcases e' with ⟨xs,hx,e'⟩ | ⟨xs,hx,e'⟩ | ⟨kvs,hx,e'⟩
    · subst e'
      obtain ⟨its,r,pl,hz⟩:=I.list hx
      have hlen:=r.length
      exact wpAny_truthy_list pl.isList (by simp only [List.size_toArray]; omega) ⟨H,I.tok _,by rw [isEmpty_of r]; exact q⟩
    · subst e'
      obtain ⟨its,r,pl,hz⟩:=I.tuple hx
      have hlen:=r.length
      exact truthy_tuple pl (by simp only [List.size_toArray]; omega) ⟨H,I.tok _,by rw [isEmpty_of r]; exact q⟩
    · subst e'
      obtain ⟨hz,hS,vs,r,m⟩ : kvs.length≤sizeLine∧(p == sysModules)=false∧∃ vs,KV kvs vs∧s.heap.DictOf (mixKind X.prog X.w) p vs:=I.hok p _ hx
      have hlen:kvs.length=vs.length:=Paired.length r
      exact wpAny_truthy_dict hS m (by omega) ⟨H,I.tok _,by rw [isEmpty_kv r]; exact q⟩
  | _=>exact (show False from e).elim
theorem vals1 {x:V} {us:List Value} (r:Vals [x] us):∃ u,us=[u]∧RelV x u:=by
  cases r with
  | cons r1 r2=>cases r2; exact ⟨_,rfl,r1⟩
theorem vals2 {x y:V} {us:List Value} (r:Vals [x,y] us):∃ u w',us=[u,w']∧RelV x u∧RelV y w':=by
  cases r with
  | cons r1 r2 =>
    cases r2 with
    | cons r3 r4=>cases r4; exact ⟨_,_,rfl,r1,r3⟩
theorem call_min2 (hc:X.calm=true):CallR X (.builtin "min") (fun xs H Q=>∃ i j,xs=[.int i,.int j]∧Q (.int (if j<i then j else i)) H):=by
  intro pins s σ H xs us Q I r h
  obtain ⟨i,j,rfl,q⟩:=h
  obtain ⟨u,w',rfl,⟨t,rfl⟩,⟨t',rfl⟩⟩:=vals2 r
  refine min_two_ints (I.ok.hd hc) fun h' tk k=>⟨_,H,I.kept k,?_,q⟩
  by_cases hj:j<i
  · rw [if_pos hj,if_pos hj]; exact ⟨_,rfl⟩
  · rw [if_neg hj,if_neg hj]; exact ⟨_,rfl⟩
theorem call_int1:CallR X (.type "int") (fun xs H Q=>(∃ i,xs=[.int i]∧Q (.int i) H)∨∃ k,xs=[.bl k]∧Q (.int (if k then 1 else 0)) H):=by
  intro pins s σ H xs us Q I r h
  rcases h with ⟨i,rfl,q⟩ | ⟨k,rfl,q⟩
  · obtain ⟨u,rfl,t,rfl⟩:=vals1 r
    exact call_int_int ⟨.int i,H,I,⟨_,rfl⟩,q⟩
  · obtain ⟨u,rfl,r1⟩:=vals1 r
    cases r1
    exact call_int_bool ⟨.int (if k then 1 else 0),H,I.tok _,⟨_,rfl⟩,q⟩
def LenV (K:PySem.W.Frag) (x:V) (H:Hp) (n:Nat):Prop :=
  match x with
  | .str y=>y.length≤sizeLine∧n=y.length
  | .byt y=>y.size≤sizeLine∧n=y.size
  | .ref p=>(∃ xs,SqL K H p xs∧n=xs.length)∨∃ xs,SqT K H p xs∧n=xs.length
  | _=>False
theorem call_len:CallR X (.builtin "len") (fun xs H Q=>∃ x n,xs=[x]∧LenV X.K x H n∧Q (.int n) H):=by
  intro pins s σ H xs us Q I r h
  obtain ⟨x,n,rfl,e,q⟩:=h
  obtain ⟨u,rfl,rx⟩:=vals1 r
  have hl:=line63
  have hs:sizeLine=16777216:=sizeLine_eq
  cases x with
  | str y =>
    obtain ⟨t,rfl⟩:=rx
    obtain ⟨hy,e'⟩ : y.length≤sizeLine∧n=y.length:=e
    subst e'
    exact len_str (by omega) ⟨.int _,H,I.tok _,⟨_,rfl⟩,q⟩
  | byt y =>
    obtain ⟨t,rfl⟩:=rx
    obtain ⟨hy,e'⟩ : y.size≤sizeLine∧n=y.size:=e
    subst e'
    exact PySem.W.len_bytes (by omega) ⟨.int _,H,I.tok _,⟨_,rfl⟩,q⟩
  | ref p =>
    cases rx
    have e':(∃ xs,SqL X.K H p xs∧n=xs.length)∨∃ xs,SqT X.K H p xs∧n=xs.length:=e
    rcases e' with ⟨xs,hx,e'⟩ | ⟨xs,hx,e'⟩
    · subst e'
      obtain ⟨its,r',pl,hz⟩:=I.list hx
      have hlen:=r'.length
      exact Calls.call_len_list pl.isList (by simp only [List.size_toArray]; omega) ⟨.int xs.length,H,I.tok _,⟨_,by simp only [List.size_toArray]; rw [hlen]⟩,q⟩
    · subst e'
      obtain ⟨its,r',pl,hz⟩:=I.tuple hx
      have hlen:=r'.length
      exact len_tuple pl (by simp only [List.size_toArray]; omega) ⟨.int xs.length,H,I.tok _,⟨_,by simp only [List.size_toArray]; rw [hlen]⟩,q⟩
  | _=>exact (show False from e).elim
end
end L2
namespace L2
open PySem PySem.Spec PyProof.Rows
structure ObjM (h:Heap) (x dx C:Addr) (mA:Str→Option Value):Prop where
  obj:h.get? x=some (PySem.W.instObj C dx)
  ns:h.Ns1 dx mA
  ne:dx≠x
theorem lookIn_ns {h:Heap} {dx:Addr} {mA:Str→Option Value} (n:h.Ns1 dx mA):∃ od,h.get? dx=some od∧∀ name,PySem.W.lookIn name od=some (mA name):=by
  obtain ⟨o,es,ep,ho,hd,hk,_,hm⟩:=n
  refine ⟨o,ho,fun name=>?_⟩
  have e:=hm name
  unfold nsFind findBy at e
  rw [← Array.find?_toList] at e
  unfold PySem.W.lookIn
  rw [hd]
  dsimp only
  split
  · rename_i y q
    rw [q] at e
    exact congrArg some e
  · rename_i q
    rw [q] at e
    have a:es.toList.any (·.refKey)=false:=by
      rw [List.any_eq_false]
      intro y hy
      obtain ⟨z,t,hkey⟩:=hk y (Array.mem_toList_iff.mp hy)
      simp [DictEntry.refKey,hkey]
    have a':¬ es.toList.any (·.refKey)=true:=by rw [a]; exact Bool.false_ne_true
    rw [if_neg a']
    exact congrArg some e
theorem ObjM.look {h:Heap} {x dx C:Addr} {mA:Str→Option Value} (I:ObjM h x dx C mA):∃ od,PySem.W.InstAt h x (PySem.W.instObj C dx) C (some od)∧∀ name,PySem.W.lookIn name od=some (mA name) :=
  let ⟨od,ho,hl⟩:=lookIn_ns I.ns
  ⟨od,⟨I.obj,rfl,rfl,ho⟩,hl⟩
section
variable {P:Program} {w:World} {H H':Hp} {h h':Heap} {a C dx:Addr} {fs fs':List (Str×V)}
theorem ins_get (hok:HOk P w H h) (e:H a=some (.ins C dx fs)):∃ mA,ObjM h a dx C mA∧(∀ f,RelO (fs.lookup f) (mA f))∧PySem.Within mA (fs.map (·.1))∧fs.length≤1000∧H dx=some (.own a):=by
  obtain ⟨d,z,ne,ob,mA,n,r,q⟩:=(show ObjOk P w H h a (.ins C dx fs) from hok a _ e)
  exact ⟨mA,⟨ob,n,ne⟩,r,q,z,d⟩
end
structure Cls (K:PySem.W.Frag) (C:Addr):Prop where
  pg:PySem.W.plainGet K C Str.empty=true
  hd:PySem.W.hasDictIn K C=true
  po:PySem.W.plainOver K C=true
  sa:PySem.W.findIn K (.ref C) "__setattr__" = some (some (.builtin "object.__setattr__"))
theorem Cls.get {K:PySem.W.Frag} {C:Addr} (c:Cls K C) (f:Str):PySem.W.plainGet K C f=true:=c.pg
section
variable {X:Cx} {pins:List (Addr×Obj)} {σ:St} {H:Hp} {s:Shared} {A:Around} {E:Value→Shared→Prop} {Q:Value→Shared→Prop} {c:Value} {b:Bool}
inductive TyOf (K:PySem.W.Frag) (H:Hp):V→Value→Prop where
  | non:TyOf K H .non (.type "NoneType")
  | bl (x:Bool):TyOf K H (.bl x) (.type "bool")
  | int (i:Int):TyOf K H (.int i) (.type "int")
  | str (x:Str):TyOf K H (.str x) (.type "str")
  | flt (x:UInt64):TyOf K H (.flt x) (.type "float")
  | lst {a:Addr} {xs:List V} (e:H a=some (.lst xs)):TyOf K H (.ref a) (.type "list")
  | frz {a:Addr} {o:Obj} {xs:List V} (e:H a=some (.frz o (.lst xs))):TyOf K H (.ref a) (.type "list")
  | tup {a:Addr} {xs:List V} (e:H a=some (.tup xs)):TyOf K H (.ref a) (.type "tuple")
  | dK {a:Addr} {kvs:List (Key×V)} (e:H a=some (.dK kvs)):TyOf K H (.ref a) (.type "dict")
  | dT {a:Addr} {kvs:List (List Key×V)} (e:H a=some (.dT kvs)):TyOf K H (.ref a) (.type "dict")
  | ins {a C dx:Addr} {fs:List (Str×V)} (e:H a=some (.ins C dx fs)) (cl:Cls K C) (ha:PySem.W.findIn K (.ref C) "__class__" = some (some (.builtin "object.__class__")))
      (hn:PySem.W.specialIn K (.builtin "object.__class__") "__get__" = some (some (.builtin "getset_descriptor.__get__"))) (htk:PySem.W.takesIn K (.builtin "object.__class__")=some true)
      (hm:PySem.W.mroIn K C (.type "object")=some true):TyOf K H (.ref a) (.ref C)
theorem isinst_ok {x:V} {u t:Value} (I:Inv X pins σ H s) (rx:RelV x u) (ty:TyOf X.K H x t) (e:PySem.W.kitOne X.K t c=some b) (h:∀ tk,Q (.bool b) { s with toks:=tk }):wpAny (model X.prog X.w) A (call (.builtin "isinstance") [u,c]) Q E s:=by
  cases ty with
  | non=>cases (show u=Value.none from rx); exact PySem.W.kia_one PySem.W.kitx_none I.kIn True.intro e (fun z=>nomatch z) h
  | bl y=>cases (show u=Value.bool y from rx); exact PySem.W.kia_one PySem.W.kitx_bool I.kIn True.intro e (fun z=>nomatch z) h
  | int i=>obtain ⟨t,q⟩:=(show ∃ t,u=Value.int i t from rx); cases q; exact PySem.W.kia_one PySem.W.kitx_int I.kIn True.intro e (fun z=>nomatch z) h
  | str y=>obtain ⟨t,q⟩:=(show ∃ t,u=Value.str y t from rx); cases q; exact PySem.W.kia_one PySem.W.kitx_str I.kIn True.intro e (fun z=>nomatch z) h
  | flt y=>obtain ⟨t,q⟩:=(show ∃ t,u=Value.float y t from rx); cases q; exact PySem.W.kia_one PySem.W.kitx_float I.kIn True.intro e (fun z=>nomatch z) h
  | @lst a xs ea =>
    cases (show u=Value.ref a from rx)
    obtain ⟨_,_,n,_,h1⟩:=(show ObjOk X.prog X.w H s.heap a (.lst xs) from I.hok a _ ea)
    exact PySem.W.kia_one PySem.W.kitx_list I.kIn ⟨_,h1,rfl⟩ e (fun z=>nomatch z) h
  | @frz a ob xs ea =>
    cases (show u=Value.ref a from rx)
    obtain ⟨_,_,_,n,_,h1⟩:=(show ObjOk X.prog X.w H s.heap a (.frz ob (.lst xs)) from I.hok a _ ea)
    exact PySem.W.kia_one PySem.W.kitx_list I.kIn ⟨_,h1,rfl⟩ e (fun z=>nomatch z) h
  | @tup a xs ea =>
    cases (show u=Value.ref a from rx)
    obtain ⟨_,_,_,p⟩:=(show ObjOk X.prog X.w H s.heap a (.tup xs) from I.hok a _ ea)
    obtain ⟨o,h1,h2,_⟩:=p
    exact PySem.W.kia_one PySem.W.kitx_tuple I.kIn ⟨o,h1,h2⟩ e (fun z=>nomatch z) h
  | @dK a kvs ea =>
    cases (show u=Value.ref a from rx)
    obtain ⟨_,_,vs,_,p⟩:=(show ObjOk X.prog X.w H s.heap a (.dK kvs) from I.hok a _ ea)
    obtain ⟨o,es,ep,h1,h2,_⟩:=p
    exact PySem.W.kia_one PySem.W.kitx_dict I.kIn ⟨o,h1,h2.1⟩ e (fun z=>nomatch z) h
  | @dT a kvs ea =>
    cases (show u=Value.ref a from rx)
    obtain ⟨_,_,xs,_,o,es,ep,h1,h2,_⟩:=(show ObjOk X.prog X.w H s.heap a (.dT kvs) from I.hok a _ ea)
    exact PySem.W.kia_one PySem.W.kitx_dict I.kIn ⟨o,h1,h2.1⟩ e (fun z=>nomatch z) h
  | @ins a C dx fs ea cl ha hn htk hm =>
    cases (show u=Value.ref a from rx)
    obtain ⟨mA,O,_⟩:=ins_get I.hok ea
    obtain ⟨od,J,_⟩:=O.look
    exact PySem.W.kia_one (PySem.W.kitx_own (cl.get _) cl.hd ha hn htk hm) I.kIn J e (fun z=>nomatch z) h
end
end L2
namespace L2
open PySem PySem.Spec PyProof.Rows
structure Room (k:Nat) (A:Around):Prop where
  hd:A.handled=none
  dp:A.depth+3 * k+5<recursionLimit
  un:A.units+16 * k+200<cLine
  gd:A.guards=some []
theorem Room.mono {j k:Nat} {A:Around} (r:Room k A) (h:j≤k):Room j A:=⟨r.hd,by have:=r.dp; omega,by have:=r.un; omega,r.gd⟩
theorem Room.deeper {k:Nat} {A:Around} (r:Room (k+1) A) (env:Env):Room k (A.deeper env) :=
  ⟨r.hd,by have:=r.dp; show A.depth+1+3 * k+5<_; omega,by have:=r.un; show A.units+3+16 * k+200<_; omega,r.gd⟩
theorem Room.depth {k:Nat} {A:Around} (r:Room k A):A.depth<recursionLimit:=by have:=r.dp; omega
theorem Room.units {k:Nat} {A:Around} (r:Room k A):A.units+64<cLine:=by have:=r.un; omega
def tNil:TA:=fun _ H Q=>Q [] H
def tCons (ta:TE) (tr:TA):TA:=fun σ H Q=>ta σ H fun x H1=>tr σ H1 fun xs H2=>Q (x::xs) H2
section
variable {X:Cx} {e:Expr} {es:List Expr} {te:TE} {t:TA} {pos:Pos}
theorem pa_nil:PA X [] tNil:=fun _ _ _ _ H Q I h=>Calls.spliced_nil ⟨[],H,I,.nil,h⟩
theorem pa_cons (ha:PE X e te) (hr:PA X es t) (hs:starEach (e::es) X.env=(false,eval e X.env)::starEach es X.env:=by rfl):PA X (e::es) (tCons te t):=by
  intro pos pins s σ H Q I h
  rw [hs]
  show wpAny _ _ (spliced ((false,eval e X.env)::backTo pos (starEach es X.env))) _ _ s
  refine Calls.spliced_cons (thn (ha pins s σ H _ I h) fun u s1 ⟨x,H1,I1,r1,q1⟩=>?_)
  exact thn (hr pos pins s1 σ H1 _ I1 q1) fun us s2 ⟨xs,H2,I2,r2,q2⟩=>⟨x::xs,H2,I2,.cons r1 r2,q2⟩
def tTup (t:TA):TE:=fun σ H Q=>t σ H fun xs H1=>xs.length≤sizeLine∧∀ p,H1 p=none→Q (.ref p) (upd H1 p (.tup xs))
def tLst (t:TA):TE:=fun σ H Q=>t σ H fun xs H1=>xs.length≤sizeLine∧∀ p,H1 p=none→Q (.ref p) (upd H1 p (.lst xs))
theorem pe_tup {x1} (h:PA X es t):PE X (.Tuple es x1 pos) (tTup t):=by
  intro pins s σ H Q I hq
  refine wpAny_Tuple_spliced (thn (h pos pins s σ H _ I hq) fun us s1 ⟨xs,H1,I1,r,z,q⟩=>⟨by rw [← r.length]; exact z,?_⟩)
  have hf:H1 s1.heap.objs.size=none:=I1.hok.fresh (Nat.le_refl _)
  refine ⟨.ref s1.heap.objs.size,upd H1 s1.heap.objs.size (.tup xs),I1.laid (t':=s1.toks) (fun b u e=>Heap.get?_push_of_some _ e) (Nat.le_refl _) ?_,rfl,q _ hf⟩
  exact ⟨z,us,r,⟨_,Heap.get?_push_size _ rfl,rfl,_,rfl⟩⟩
theorem pe_lst (h:PA X es t):PE X (.List es pos) (tLst t):=by
  intro pins s σ H Q I hq
  refine wpAny_List_spliced (thn (h pos pins s σ H _ I hq) fun us s1 ⟨xs,H1,I1,r,z,q⟩=>⟨by rw [← r.length]; exact z,?_⟩)
  have hf:H1 s1.heap.objs.size=none:=I1.hok.fresh (Nat.le_refl _)
  refine ⟨.ref s1.heap.objs.size,upd H1 s1.heap.objs.size (.lst xs),I1.laid (t':=s1.toks) (fun b u e=>Heap.get?_push_of_some _ e) (Nat.le_refl _) ?_,rfl,q _ hf⟩
  exact ⟨z,us,0,r,Heap.get?_push_size _ rfl⟩
end
abbrev Sp:=List V→Hp→VK→XK→Prop
abbrev CXT:=List Env→Hp→Shared→XK→Value→Shared→Prop
structure Env0 (P:Program) (w:World) (K:PySem.W.Frag) (mg:Str→Option Value) (base:Heap) (A:Around) (outer:List Env) (s:Shared) (H:Hp):Prop where
  frames:A.frames=some outer
  mod:Mod K mg base
  bs:∀ b o,base.get? b=some o→s.heap.get? b=some o∧H b=none
  bsz:base.objs.size≤s.heap.objs.size
  funs:s.heap.FunFrames base outer
  frf:∀ b∈frs outer,H b=none
  hok:HOk P w H s.heap
  bare:AllBare s.gens
def CE (outer:List Env) (P:Program) (w:World) (H:Hp) (s:Shared) (Q:VK) (u:Value) (s':Shared):Prop :=
  ∃ v H',s'.os=s.os∧AllBare s'.gens∧Un (frs outer) [] H H' s.heap s'.heap∧HOk P w H' s'.heap∧RelV v u∧Q v H'
def CR (CX:CXT) (outer:List Env) (P:Program) (w:World) (H:Hp) (s:Shared) (Q:VK) (E:XK) (r:Result) (s':Shared):Prop :=
  match r with
  | .ok (.ret u)=>CE outer P w H s Q u s'
  | .ok _=>False
  | .error e=>CX outer H s E e s'
structure FnOk (P:Program) (w:World) (K:PySem.W.Frag) (mg:Str→Option Value) (base:Heap) (CX:CXT) (k:Nat) (f:Addr) (fd:FuncData) (ps:List Str) (sp:Sp):Prop where
  len:∀ vs H Q E,sp vs H Q E→vs.length=ps.length
  run:∀ (A:Around) (outer:List Env) (s:Shared) (H:Hp) (args:Args) (us:List Value) (vs:List V) (Q:VK) (E:XK),Room k A→Env0 P w K mg base A outer s H→BindsTo s fd args (ps.zip us)→Vals vs us→sp vs H Q E →
    codeAny (model P w) A (.call (.ref f) args) (CR CX outer P w H s Q E) s
theorem FnOk.imp {P:Program} {w:World} {K:PySem.W.Frag} {mg:Str→Option Value} {base:Heap} {CX:CXT} {k:Nat} {f:Addr} {fd:FuncData} {ps:List Str} {sp sp':Sp} (F:FnOk P w K mg base CX k f fd ps sp) (h:∀ vs H Q E,sp' vs H Q E→sp vs H Q E):FnOk P w K mg base CX k f fd ps sp' :=
  ⟨fun vs H Q E q=>F.len vs H Q E (h _ _ _ _ q),fun A outer s H args us vs Q E hr he hb hv hs=>F.run A outer s H args us vs Q E hr he hb hv (h _ _ _ _ hs)⟩
section
variable {X:Cx} {pins:List (Addr×Obj)} {σ:St} {H:Hp} {s s':Shared}
theorem Inv.env0 (I:Inv X pins σ H s):Env0 X.prog X.w X.K X.mg X.base X.A X.stack s H :=
  ⟨I.ok.frames,I.ok.mod,I.bs,Nat.le_trans I.ok.bsz I.sz,I.stack,I.stkFree,I.hok,I.bare⟩
theorem Inv.after {Q:VK} {u:Value} (I:Inv X pins σ H s) (h:CE X.stack X.prog X.w H s Q u s'):EP X pins σ Q u s':=by
  obtain ⟨v,H',os,bare,un,hok,r,q⟩:=h
  obtain ⟨hh,g,d,t,os'⟩:=s'
  obtain rfl:os'=s.os:=os
  exact ⟨v,H',I.call (h':=hh) (g':=g) (d':=d) (t':=t) (ch:=[]) un hok bare (fun b z=>absurd z (by simp)),r,q⟩
end
def tCall (sp:Sp) (dvs:List V) (E:XK) (t:TA):TE:=fun σ H Q=>t σ H fun vs H1=>sp (vs++dvs) H1 Q E
def Binds (K:PySem.W.Frag) (fd:FuncData) (ps:List Str) (ds:List Value):Prop :=
  ∀ (s:Shared) (us:List Value),K.In s.heap→(us++ds).length=ps.length→BindsTo s fd ⟨us,[]⟩ (ps.zip (us++ds))
theorem Binds.all {K:PySem.W.Frag} {fd:FuncData} {ps:List Str} (h:∀ us:List Value,us.length=ps.length→bindArgs fd ⟨us,[]⟩=pure (ps.zip us)):Binds K fd ps []:=fun s us _ hl=>by
  rw [List.append_nil] at hl ⊢
  exact .of_eq (h us hl)
def Passes (CX:CXT) (X:Cx) (E:XK):Prop:=∀ (pins:List (Addr×Obj)) (σ:St) (H:Hp) (s:Shared) (e:Value) (s':Shared),Inv X pins σ H s→CX X.stack H s E e s'→X.xe e s'
section
variable {X:Cx} {CX:CXT} {k:Nat} {f C:Addr} {fd:FuncData} {ps:List Str} {sp:Sp} {dvs:List V} {ds:List Value} {E:XK} {x m:Str} {p pos apos:Pos} {e o:Expr} {es:List Expr} {ta:TE} {t:TA}
theorem run_fn {pins:List (Addr×Obj)} {σ:St} {H:Hp} {s:Shared} {Q:VK} {us:List Value} {vs:List V} (F:FnOk X.prog X.w X.K X.mg X.base CX k f fd ps sp) (hr:Room k X.A) (hb:Binds X.K fd ps ds) (hd:Vals dvs ds) (hx:Passes CX X E) (I:Inv X pins σ H s) (r:Vals vs us) (h:sp (vs++dvs) H Q E):wpAny (model X.prog X.w) X.A (call (.ref f) us) (EP X pins σ Q) X.xe s:=by
  have r2:Vals (vs++dvs) (us++ds):=r.append hd
  have hl:(us++ds).length=ps.length:=by rw [← r2.length]; exact F.len _ _ _ _ h
  refine wpAny_call (codeAny_mono (F.run X.A X.stack s H ⟨us,[]⟩ (us++ds) (vs++dvs) Q E hr I.env0 (hb s us I.kIn hl) r2 h) fun r s' hq=>?_)
  cases r with
  | error e=>exact hx pins σ H s e s' I hq
  | ok fl =>
    cases fl with
    | ret u=>exact I.after hq
    | next=>exact False.elim hq
    | brk=>exact False.elim hq
    | cont=>exact False.elim hq
theorem pe_call (F:FnOk X.prog X.w X.K X.mg X.base CX k f fd ps sp) (hr:Room k X.A) (hg:Gl X x) (hm:X.mg x=some (.ref f)) (hk:PySem.W.keepIn X.K (.ref f)=true) (hb:Binds X.K fd ps ds) (hd:Vals dvs ds) (hx:Passes CX X E) (ha:PA X (e::es) t) (hdb:(x == ("__debug__" : Str))=false:=by decide) (he:starEach (e::es) X.env=(false,eval e X.env)::starEach es X.env:=by rfl) (hpl:(backTo pos (starEach es X.env)).any (·.1)=false:=by rfl):PE X (.Call (.Name x p) (e::es) [] pos) (tCall sp dvs E t):=by
  intro pins s σ H Q I h
  refine wpAny_Call_Name_kw (ld_glob I hg hm ?_ hdb)
  refine PySem.W.callWith_K (h₀:=X.base) I.ok.mod.kin hk (thn (ha pos pins s σ H _ I h) fun us s1 ⟨vs,H1,I1,r,q⟩=>⟨I1.kIn,?_⟩) he hpl
  exact run_fn F hr hb hd hx I1 r q
theorem pe_call0 (F:FnOk X.prog X.w X.K X.mg X.base CX k f fd ps sp) (hr:Room k X.A) (hg:Gl X x) (hm:X.mg x=some (.ref f)) (hk:PySem.W.keepIn X.K (.ref f)=true) (hb:Binds X.K fd ps ds) (hd:Vals dvs ds) (hx:Passes CX X E) (hdb:(x == ("__debug__" : Str))=false:=by decide):PE X (.Call (.Name x p) [] [] pos) (tCall sp dvs E tNil):=by
  intro pins s σ H Q I h
  refine wpAny_Call_Name_kw (ld_glob I hg hm ?_ hdb)
  exact PySem.W.callWith_K0 I.kIn hk (run_fn (us:=[]) F hr hb hd hx I .nil h)
end
structure FnScope (N P:List Str) (sc:Scope):Prop where
  kind:sc.kind=.function
  co:sc.isCoroutine=false
  gen:sc.isGenerator=false
  nd:N.Nodup
  pre:N.take P.length=P
  par:∀ x∈P,sc.names.lookup x=some .local∨sc.names.lookup x=some .cell
  nofree:∀ y∈sc.names,y.2≠.free
theorem bindL_out {kindOf:Str→Option NameKind} {x:Str}:∀ {binds:List (Str×Value)} {m:Str→Option Value},(∀ v,(x,v)∉binds)→bindL kindOf binds m x=m x
  | [],_,_=>rfl
  | (n,v)::r,m,h=>by
    unfold bindL
    rw [bindL_out fun w hw=>h w (List.mem_cons_of_mem _ hw)]
    split
    · have : x≠n:=by rintro rfl; exact h v List.mem_cons_self
      simp [this]
    · rfl
theorem bindC_out {kindOf:Str→Option NameKind} {x:Str}:∀ {binds:List (Str×Value)} {m:Str→Option Value},(∀ v,(x,v)∉binds)→bindC kindOf binds m x=m x
  | [],_,_=>rfl
  | (n,v)::r,m,h=>by
    unfold bindC
    rw [bindC_out fun w hw=>h w (List.mem_cons_of_mem _ hw)]
    split
    · rfl
    · have : x≠n:=by rintro rfl; exact h v List.mem_cons_self
      simp [this]
theorem bindL_get {kindOf:Str→Option NameKind} {x:Str} {v:Value}:∀ {P:List Str} {vs:List Value} {i:Nat} {m:Str→Option Value},P.Nodup→P[i]? = some x→vs[i]? = some v→kindOf x=some .local→bindL kindOf (P.zip vs) m x=some v
  | [],_,_,_,_,h,_,_=>by simp at h
  | _::_,[],_,_,_,_,h,_=>by simp at h
  | p::P,w::vs,0,m,nd,h1,h2,hk=>by
    simp at h1 h2; subst h1; subst h2
    show bindL kindOf ((p,w)::P.zip vs) m p=_
    unfold bindL
    rw [bindL_out fun v hv=>(List.nodup_cons.mp nd).1 (List.of_mem_zip hv).1,if_pos hk]
    simp
  | p::P,w::vs,i+1,m,nd,h1,h2,hk=>by
    show bindL kindOf ((p,w)::P.zip vs) m x=_
    unfold bindL
    exact bindL_get (i:=i) (List.nodup_cons.mp nd).2 (by simpa using h1) (by simpa using h2) hk
theorem bindC_get {kindOf:Str→Option NameKind} {x:Str} {v:Value}:∀ {P:List Str} {vs:List Value} {i:Nat} {m:Str→Option Value},P.Nodup→P[i]? = some x→vs[i]? = some v→kindOf x≠some .local→bindC kindOf (P.zip vs) m x=some v
  | [],_,_,_,_,h,_,_=>by simp at h
  | _::_,[],_,_,_,_,h,_=>by simp at h
  | p::P,w::vs,0,m,nd,h1,h2,hk=>by
    simp at h1 h2; subst h1; subst h2
    show bindC kindOf ((p,w)::P.zip vs) m p=_
    unfold bindC
    rw [bindC_out fun v hv=>(List.nodup_cons.mp nd).1 (List.of_mem_zip hv).1,if_neg hk]
    simp
  | p::P,w::vs,i+1,m,nd,h1,h2,hk=>by
    show bindC kindOf ((p,w)::P.zip vs) m x=_
    unfold bindC
    exact bindC_get (i:=i) (List.nodup_cons.mp nd).2 (by simpa using h1) (by simpa using h2) hk
def start (N:List Str) (vs:List V):St:=vs.map some++List.replicate (N.length - vs.length) none
def cxOf (CX:CXT) (P:Program) (w:World) (K:PySem.W.Frag) (mg:Str→Option Value) (base:Heap) (N:List Str) (qual:Str) (scope:Scope) (f:Addr) (cd:Value) (A:Around) (outer:List Env) (s:Shared) (H:Hp) (E:XK):Cx where
  prog:=P
  w:=w
  K:=K
  mg:=mg
  base:=base
  A:=A.deeper (envOfC qual scope s.heap.objs.size f cd)
  N:=N
  s₀:=s
  H₀:=H
  env:=envOfC qual scope s.heap.objs.size f cd
  outer:=outer
  stack:=envOfC qual scope s.heap.objs.size f cd::outer
  ex:=[]
  calm:=true
  fn:=fun _=>true
  pn:=[]
  xe:=fun e s'=>wpAny (model P w) (A.deeper (envOfC qual scope s.heap.objs.size f cd)) (leaving (envOfC qual scope s.heap.objs.size f cd) e) (fun _ s''=>CX outer H s E e s'') (fun e' s''=>CX outer H s E e' s'') s'
theorem cell_has {sc:Scope} {n:Nat} {x:Str} (h:sc.names.lookup x=some .cell):∃ c,(cellsFrom n sc.names []).lookup x=some c:=by
  have q:=PySem.W.cellsFrom_some sc.names n [] (.inl h)
  exact Option.isSome_iff_exists.mp q
theorem inv_start {CX:CXT} {P:Program} {w:World} {K:PySem.W.Frag} {mg:Str→Option Value} {base:Heap} {N ps:List Str} {qual:Str} {scope:Scope} {f:Addr} {cd:Value} {A:Around} {outer:List Env} {s s1:Shared} {H:Hp} {E:XK} {us:List Value} {vs:List V} (S:FnScope N ps scope) (hd:A.handled=none) (e0:Env0 P w K mg base A outer s H) (hl:vs.length=ps.length) (r:Vals vs us) (x:InCallC s s.heap.objs.size (bindL (envOfC qual scope s.heap.objs.size f cd).kindOf (ps.zip us) fun _=>none) (cellsFrom (s.heap.objs.size+1) scope.names []) (bindC (envOfC qual scope s.heap.objs.size f cd).kindOf (ps.zip us) fun _=>none) s1):Inv (cxOf CX P w K mg base N qual scope f cd A outer s H E) [] (start N vs) H s1:=by
  have hpl:ps.length≤N.length:=by have:=congrArg List.length S.pre; rw [List.length_take] at this; omega
  obtain ⟨h1,tk,rfl,hk⟩:=x.done
  have noA:∀ b:Addr,b∉(cxOf CX P w K mg base N qual scope f cd A outer s H E).ex:=fun b z=>absurd (show b∈([]:List Addr) from z) (by simp)
  refine ⟨⟨e0.mod,S.kind,rfl,rfl,Nat.le_refl _,fun y z c h1 h2=>?_,fun y hy=>?_,fun y c _ h=>?_,fun _=>hd,Around.frames_deeper e0.frames,.inr ⟨rfl,rfl⟩,fun b z=>absurd z (noA b),e0.bs,e0.bsz,fun b _ _=>noA b,fun b z=>absurd z (noA b),e0.funs,e0.frf⟩,
    rfl,e0.bare,Un.kept hk,⟨_,x.toInCall.ns,fun i y v h1 h2 h3=>?_⟩,fun y c h=>⟨_,x.cell y c h⟩,e0.hok.fresh (Nat.le_refl _),fun y c h=>?_,fun p hp=>absurd (show p∈([]:List (Addr×Obj)) from hp) (by simp),e0.hok.kept hk,?_⟩
  · exact name_of_addr x.apart (PySem.mem_of_lookup h1) (PySem.mem_of_lookup h2)
  · have hy:scope.names.lookup y=some .cell∨scope.names.lookup y=some .free:=hy
    rcases hy with hy | hy
    · exact cell_has hy
    · exact absurd rfl (S.nofree _ (PySem.mem_of_lookup hy))
  · exact Nat.le_of_lt (x.above y c (PySem.mem_of_lookup h))
  · have hi:i<vs.length:=by
      unfold start at h2
      by_cases hi:i<vs.length
      · exact hi
      · rw [List.getElem?_append_right (by simpa using hi)] at h2
        rw [List.getElem?_replicate] at h2
        split at h2 <;> cases h2
    have ha:vs[i]? = some v:=by
      unfold start at h2
      rw [List.getElem?_append_left (by simpa using hi),List.getElem?_map] at h2
      cases e:vs[i]? with
      | none=>rw [e] at h2; cases h2
      | some a=>rw [e] at h2; cases h2; rfl
    obtain ⟨u,hu,rv⟩:=r.get ha
    have hp:ps[i]? = some y:=by
      rw [← S.pre,List.getElem?_take_of_lt (by omega)]; exact h1
    have ndP:ps.Nodup:=by rw [← S.pre]; exact S.nd.sublist (List.take_sublist _ _)
    refine ⟨u,rv,?_⟩
    rcases S.par y (List.mem_of_getElem? hp) with k | k
    · exact .inl ⟨k,bindL_get ndP hp hu k⟩
    · obtain ⟨c,e⟩:=cell_has (n:=s.heap.objs.size+1) k
      refine .inr ⟨.inl k,c,e,?_⟩
      have q:=x.cell y c e
      rw [bindC_get ndP hp hu (by show scope.names.lookup y≠_; rw [k]; decide)] at q
      exact q
  · exact e0.hok.fresh (Nat.le_of_lt (x.above y c (PySem.mem_of_lookup h)))
  · unfold start
    show _=N.length
    rw [List.length_append,List.length_map,List.length_replicate]
    omega
theorem fn_of {CX:CXT} {P:Program} {w:World} {K:PySem.W.Frag} {mg:Str→Option Value} {base:Heap} {k:Nat} {f:Addr} {name qual:Str} {params:Arguments} {body:List Stmt} {scope:Scope} {dV kV doc pm cdv ct oc:Value} {an od:Option Addr} {osl:Array (Option Value)} {N ps:List Str} {sp:Sp} (lk:K.lookup f=some ⟨oc,od,.func (PySem.W.fnOf name qual params body scope dV kV doc pm an cdv ct),osl⟩) (hcd:PySem.W.codeIn K cdv qual=true) (S:FnScope N ps scope) (len:∀ vs H Q E,sp vs H Q E→vs.length=ps.length) (hbody:∀ (A:Around) (outer:List Env) (s:Shared) (H:Hp) (vs:List V) (Q:VK) (E:XK),Room k (A.deeper (envOfC qual scope s.heap.objs.size f cdv))→sp vs H Q E→∃ t,PSs (cxOf CX P w K mg base N qual scope f cdv A outer s H E) body t∧t { nx:=fun _ H'=>Q .non H',rt:=Q } (start N vs) H):FnOk P w K mg base CX (k+1) f (PySem.W.fnOf name qual params body scope dV kV doc pm an cdv ct) ps sp:=by
  refine ⟨len,fun A outer s H args us vs Q E hr e0 hb r hsp=>?_⟩
  have hl:=len _ _ _ _ hsp
  have KX:K.In s.heap:=e0.mod.kin.keeps fun b o e=>(e0.bs b o e).1
  have lim:s.heap.NoLimit:=e0.mod.nolimit.keeps fun b o e=>(e0.bs b o e).1
  have hkind:∀ y∈ps.zip us,scope.names.lookup y.1=some .local∨(scope.names.lookup y.1=some .cell∧((cellsFrom (s.heap.objs.size+1) scope.names []).lookup y.1).isSome=true):=fun ⟨n,v⟩ hy=>by
    rcases S.par n (List.of_mem_zip hy).1 with q | q
    · exact .inl q
    · exact .inr ⟨q,PySem.W.cellsFrom_some _ _ _ (.inl q)⟩
  refine codeAny_call_function hr.depth (KX _ _ lk) rfl S.co S.gen rfl (PySem.W.codeRec_of KX hcd) (hb _ _ _ _ ?_)
  refine wpAny_newFunctionEnv_cells S.kind hkind fun env he s1 x=>?_
  subst he
  refine ⟨lim.keeps x.toInCall.keep,codeAny_func ?_⟩
  obtain ⟨t,ht,hq⟩:=hbody A outer s H vs Q E (hr.deeper _) hsp
  have I:Inv (cxOf CX P w K mg base N qual scope f cdv A outer s H E) [] (start N vs) H s1:=inv_start S hr.hd e0 hl r x
  refine wpAny_mono (ht [] s1 (start N vs) H _ I hq) (fun fl s' hs=>?_) fun e s' hs=>hs
  have fin:∀ {σ':St} {H':Hp} {v:V} {u:Value},Inv (cxOf CX P w K mg base N qual scope f cdv A outer s H E) [] σ' H' s'→RelV v u→Q v H'→CE outer P w H s Q u s' :=
    fun {σ' H' v u} J rv q=>⟨v,H',J.os,J.bare,J.base,J.hok,rv,q⟩
  cases fl with
  | ret u =>
    obtain ⟨v,σ',H',J,rv,q⟩:=hs
    exact fin J rv q
  | next =>
    obtain ⟨σ',H',J,q⟩:=hs
    exact fin (v:=V.non) (u:=Value.none) J rfl q
  | brk =>
    obtain ⟨_,_,_,q⟩:=hs
    exact False.elim q
  | cont =>
    obtain ⟨_,_,_,q⟩:=hs
    exact False.elim q
end L2
namespace L2
open PySem PySem.Spec PyProof.Rows
section
variable {X:Cx} {x:Str} {p pos:Pos} {e:Expr} {es:List Expr} {t:TA} {id T:String} {r:List V→Hp→VK→Prop}
def tCB (r:List V→Hp→VK→Prop) (t:TA):TE:=fun σ H Q=>t σ H fun vs H1=>r vs H1 Q
theorem pe_callB (hc:CallR X (.builtin id) r) (hg:Gl X x) (hm:X.mg x=none) (hv:bootBuiltins x=some (.builtin id)) (ha:PA X (e::es) t) (hn:x ≠ "__name__" := by decide) (hdb:(x == ("__debug__" : Str))=false:=by decide) (he:starEach (e::es) X.env=(false,eval e X.env)::starEach es X.env:=by rfl) (hpl:(backTo pos (starEach es X.env)).any (·.1)=false:=by rfl):PE X (.Call (.Name x p) (e::es) [] pos) (tCB r t):=by
  intro pins s σ H Q I h
  refine wpAny_Call_Name_kw (ld_blt I hg hm hv ?_ hn hdb)
  exact PyProof.Rows.callWith_builtin1 (thn (ha pos pins s σ H _ I h) fun us s1 ⟨vs,H1,I1,r1,q1⟩=>hc pins s1 σ H1 vs us Q I1 r1 q1) he hpl
theorem pe_callTy (hc:CallR X (.type T) r) (hg:Gl X x) (hm:X.mg x=none) (hv:bootBuiltins x=some (.type T)) (ha:PA X (e::es) t) (hn:x ≠ "__name__" := by decide) (hdb:(x == ("__debug__" : Str))=false:=by decide) (he:starEach (e::es) X.env=(false,eval e X.env)::starEach es X.env:=by rfl) (hpl:(backTo pos (starEach es X.env)).any (·.1)=false:=by rfl):PE X (.Call (.Name x p) (e::es) [] pos) (tCB r t):=by
  intro pins s σ H Q I h
  refine wpAny_Call_Name_kw (ld_blt I hg hm hv ?_ hn hdb)
  exact PyProof.Rows.callWith_type1 (thn (ha pos pins s σ H _ I h) fun us s1 ⟨vs,H1,I1,r1,q1⟩=>hc pins s1 σ H1 vs us Q I1 r1 q1) he hpl
end
end L2
namespace HT
open PySem PyProof.Rows
section
variable {prog:Program} {w:World} {A:Around} {E:Value→Shared→Prop} {s:Shared}
def sIx (n d:Nat):Option Int→Nat
  | none=>d
  | some v=>if v<0 then (v+(n:Int)).toNat else min v.toNat n
theorem sIx_none (n d:Nat):sIx n d none=d:=rfl
theorem sIx_nat (n d k:Nat):sIx n d (some (k:Int))=min k n:=by
  show (if (k:Int)<0 then ((k:Int)+(n:Int)).toNat else min (k:Int).toNat n)=min k n
  rw [if_neg (by omega),Int.toNat_natCast]
theorem sIx_le (n d:Nat) (hd:d≤n) (o:Option Int):sIx n d o≤n:=by
  cases o with
  | none=>exact hd
  | some v =>
    show (if v<0 then (v+(n:Int)).toNat else min v.toNat n)≤n
    by_cases hv:v<0
    · rw [if_pos hv]; omega
    · rw [if_neg hv]; exact Nat.min_le_right _ _
theorem clip_eq (v:Int) (n d:Nat):(if v<0 then max (v+(n:Int)) 0 else min v (n:Int))=((sIx n d (some v):Nat):Int):=by
  show (if v<0 then max (v+(n:Int)) 0 else min v (n:Int))=(((if v<0 then (v+(n:Int)).toNat else min v.toNat n):Nat):Int)
  by_cases hv:v<0
  · simp only [if_pos hv]; omega
  · simp only [if_neg hv]; omega
theorem adjust_gen (lo hi:Option Int) (n:Nat):Builtin.Slice.sliceAdjust lo hi 1 (n:Int)=(((sIx n 0 lo:Nat):Int),((sIx n n hi:Nat):Int)):=by
  have h1:¬ ((1:Int)<0):=by omega
  unfold Builtin.Slice.sliceAdjust
  simp only [h1,if_false]
  refine Prod.ext ?_ ?_
  · cases lo with
    | none=>rfl
    | some v=>exact clip_eq v n 0
  · cases hi with
    | none=>rfl
    | some v=>exact clip_eq v n n
theorem places_gen (i j:Nat):Builtin.Slice.slicePlaces (i:Int) (j:Int) 1=j - i:=by
  unfold Builtin.Slice.slicePlaces
  have h1:(1:Int) > 0:=by omega
  simp only [h1,if_true,Int.ediv_one]
  split <;> omega
theorem slicePart_ {v:Value} {o:Option Int} {Q:Option Int→Shared→Prop} (p:IsPart v o) (h:Q o s):wpAny (model prog w) A (Builtin.Slice.slicePartIndex v) Q E s:=by
  cases p with
  | none=>exact slicePart_none h
  | int i t=>exact slicePart_int h
theorem sliceApplied_gen {sl:Addr} {vl vu:Value} {lo hi:Option Int} {n:Nat} {Q:Int×Int×Nat→Shared→Prop} (hs:s.heap.IsSliceOf sl vl vu .none) (pl:IsPart vl lo) (pu:IsPart vu hi) (h:Q (((sIx n 0 lo:Nat):Int),1,sIx n n hi - sIx n 0 lo) s):wpAny (model prog w) A (Builtin.Slice.sliceApplied (.ref sl) (pure (n:Int))) Q E s:=by
  obtain ⟨os,hos,hcs,hds⟩:=id hs
  unfold Builtin.Slice.sliceApplied Builtin.Slice.sliceFields
  refine wpAny_bind (wpAny_bind (wpAny_field hos hds (x:=vl) rfl (wpAny_bind (wpAny_field hos hds (x:=vu) rfl (wpAny_bind (wpAny_field hos hds (x:=.none) rfl (wpAny_pure ?_)))))))
  refine wpAny_bind (slicePart_none ?_)
  show wpAny _ _ (if ((1:Int) == 0)=true then _ else _) _ _ s
  rw [if_neg (by decide)]
  refine wpAny_bind (slicePart_ pl (wpAny_bind (slicePart_ pu (wpAny_bind (wpAny_pure ?_)))))
  show wpAny _ _ (match Builtin.Slice.sliceAdjust lo hi 1 (n:Int) with | (lo,hi)=>pure (lo,(1:Int),Builtin.Slice.slicePlaces lo hi 1)) _ _ s
  rw [adjust_gen lo hi n]
  show wpAny _ _ (pure (((sIx n 0 lo:Nat):Int),(1:Int),Builtin.Slice.slicePlaces ((sIx n 0 lo:Nat):Int) ((sIx n n hi:Nat):Int) 1)) _ _ s
  rw [places_gen]
  exact wpAny_pure h
theorem pick_gen (xs:Array Value) (i k:Nat):((List.range k).filterMap fun (m:Nat)=>xs[((i:Int)+(m:Int) * 1).toNat]?).toArray=((xs.toList.drop i).take k).toArray:=by
  have e:(fun (m:Nat)=>xs[((i:Int)+(m:Int) * 1).toNat]?)=fun m=>xs[i+m]?:=by
    funext m
    have : ((i:Int)+(m:Int) * 1).toNat=i+m:=by omega
    rw [this]
  rw [e]
  have:=pick_run xs i k
  rw [List.filterMap_map] at this
  have e2:((fun x=>xs[x]?) ∘ fun x=>i+x)=fun m=>xs[i+m]?:=rfl
  rw [e2] at this
  rw [this]
theorem getItem_tuple_cut {t sl:Addr} {items:Array Value} {vl vu:Value} {lo hi:Option Int} {Q:Value→Shared→Prop} (ht:IsTup s.heap t items) (hs:s.heap.IsSliceOf sl vl vu .none) (pl:IsPart vl lo) (pu:IsPart vu hi) (hw:¬ (sIx items.size 0 lo=0∧sIx items.size items.size hi=items.size)) (h:Q (.ref s.heap.objs.size) { s with heap:=s.heap.push { cls:=.type "tuple",data:=.seq ((items.toList.drop (sIx items.size 0 lo)).take (sIx items.size items.size hi - sIx items.size 0 lo)).toArray } }) (hsz:items.size≤sizeLine):wpAny (model prog w) A (getItem (.ref t) (.ref sl)) Q E s:=by
  have htake:sizeOk (.seq ((items.toList.drop (sIx items.size 0 lo)).take (sIx items.size items.size hi - sIx items.size 0 lo)).toArray):=by
    show ((items.toList.drop (sIx items.size 0 lo)).take (sIx items.size items.size hi - sIx items.size 0 lo)).toArray.size≤sizeLine
    rw [List.size_toArray,List.length_take,List.length_drop,Array.length_toList]
    omega
  have hj:sIx items.size items.size hi≤items.size:=sIx_le _ _ (Nat.le_refl _) hi
  obtain ⟨os,hos,hcs,hds⟩:=id hs
  have hTs:s.TypeIs (.ref sl) "slice" := ⟨os,hos,hcs⟩
  unfold getItem
  try with_reducible refine wpAny_holding ?_
  first | refine wpAny_bind (wpAny_pure ?_) | skip
  refine wpAny_bind (wpAny_sequenceKey ht.typeIs (by decide) ?_)
  refine wpAny_bind (wpAny_callSpecial?_slot (name:=Str.ofString "__getitem__") ht.typeIs PyProof.Rows.slot_tuple_getitem
    (wpAny_call_entry PyProof.Rows.slot_tuple_getitem ht.typeIs entry_tuple_getitem ?_ (args_tuple_getitem _ _)))
  show wpAny _ _ (Builtin.Tuple.tupleItemsOf (.ref t) >>= _) _ _ s
  refine wpAny_bind (tupleItemsOf_ ht ?_)
  refine wpAny_bind (wpAny_typeOf hTs ?_)
  rw [if_pos (by decide)]
  refine wpAny_bind (sliceApplied_gen hs pl pu ?_)
  have hno:¬ ((((sIx items.size 0 lo:Nat):Int) == 0 && (1:Int) == 1 && (sIx items.size items.size hi - sIx items.size 0 lo) == items.size)=true):=by
    intro q
    rw [Bool.and_eq_true,Bool.and_eq_true] at q
    have q1:((sIx items.size 0 lo:Nat):Int)=0:=eq_of_beq q.1.1
    have q2:sIx items.size items.size hi - sIx items.size 0 lo=items.size:=eq_of_beq q.2
    exact hw ⟨by omega,by omega⟩
  show wpAny _ _ (if (((sIx items.size 0 lo:Nat):Int) == 0 && (1:Int) == 1 && (sIx items.size items.size hi - sIx items.size 0 lo) == items.size)=true then _ else _) _ _ s
  rw [if_neg hno,pick_gen]
  first
    | exact wpAny_bind (m:=Builtin.Tuple.tupleExact _) (wpAny_newObj_type (wpAny_pure ⟨_,rfl,wpAny_pure h⟩) htake)
    | exact wpAny_bind (m:=Builtin.Tuple.tupleExact _) (wpAny_newObj_type (wpAny_bind (wpAny_pure (wpAny_pure ⟨_,rfl,wpAny_pure h⟩))) htake)
    | exact wpAny_bind (wpAny_bind (m:=Builtin.Tuple.tupleExact _) (wpAny_newObj_type (wpAny_pure (wpAny_pure ⟨_,rfl,wpAny_pure h⟩)) htake))
    | exact wpAny_bind (wpAny_bind (m:=Builtin.Tuple.tupleExact _) (wpAny_newObj_type (wpAny_pure ⟨_,rfl,wpAny_pure h⟩) htake))
end
end HT
namespace L2
open PySem PySem.Spec PyProof.Rows
abbrev TO:=St→Hp→(Option Int→Hp→Prop)→Prop
def PO (X:Cx) (e:Option Expr) (t:TO):Prop :=
  ∀ (pins:List (Addr×Obj)) (s:Shared) (σ:St) (H:Hp) (Q:Option Int→Hp→Prop),Inv X pins σ H s→t σ H Q →
    wpAny (model X.prog X.w) X.A (evalPart e X.env) (fun u s'=>∃ o H',Inv X pins σ H' s'∧IsPart u o∧Q o H') X.xe s
def tNoPart:TO:=fun _ H Q=>Q none H
def tPart (t:TE):TO:=fun σ H Q=>t σ H fun x H1=>∃ i,x=.int i∧Q (some i) H1
theorem intsAre_of {ns:List Int}:∀ {us:List Value},Vals (ns.map V.int) us→IntsAre us ns:=by
  induction ns with
  | nil=>intro us r; rw [List.map_nil] at r; cases r; exact .nil
  | cons n ns ih =>
    intro us r
    rw [List.map_cons] at r
    cases r with
    | cons r1 r2 =>
      obtain ⟨t,e⟩:=r1
      subst e
      exact .cons n t (ih r2)
section
variable {X:Cx} {e:Expr} {te:TE} {lo hi:Option Expr} {tl th:TO} {pos p2:Pos}
theorem po_none:PO X none tNoPart:=by
  intro pins s σ H Q I h
  rw [evalPart_none]
  exact wpAny_pure ⟨none,H,I,.none,h⟩
theorem po_some (h:PE X e te):PO X (some e) (tPart te):=by
  intro pins s σ H Q I hw
  rw [evalPart_some]
  refine thn (h pins s σ H _ I hw) fun u s1 ⟨x,H1,I1,r1,q1⟩=>?_
  obtain ⟨i,rfl,q⟩:=q1
  obtain ⟨t,rfl⟩:=r1
  exact ⟨some i,H1,I1,.int i t,q⟩
def SlR (X:Cx) (r:V→Option Int→Option Int→Hp→VK→Prop):Prop :=
  ∀ (pins:List (Addr×Obj)) (s:Shared) (σ:St) (H:Hp) (x:V) (v vl vu:Value) (lo hi:Option Int) (sl:Addr) (Q:VK),Inv X pins σ H s→RelV x v→s.heap.IsSliceOf sl vl vu .none→IsPart vl lo→IsPart vu hi→r x lo hi H Q →
    ∃ T id,typeLookup (.type T) "__getitem__" = pure (some (.builtin id))∧s.TypeIs v T∧wpAny (model X.prog X.w) X.A (getItem v (.ref sl)) (EP X pins σ Q) X.xe s
theorem SlR.or {r r':V→Option Int→Option Int→Hp→VK→Prop} (h:SlR X r) (h':SlR X r'):SlR X (fun x lo hi H Q=>r x lo hi H Q∨r' x lo hi H Q):=by
  intro pins s σ H x v vl vu lo hi sl Q I rx hs pl pu q
  rcases q with q | q
  · exact h pins s σ H x v vl vu lo hi sl Q I rx hs pl pu q
  · exact h' pins s σ H x v vl vu lo hi sl Q I rx hs pl pu q
def tSl (r:V→Option Int→Option Int→Hp→VK→Prop) (te:TE) (tl th:TO):TE:=fun σ H Q=>te σ H fun x H1=>tl σ H1 fun l H2=>th σ H2 fun u H3=>r x l u H3 Q
theorem pe_slice {r:V→Option Int→Option Int→Hp→VK→Prop} (hr:SlR X r) (he:PE X e te) (hl:PO X lo tl) (hu:PO X hi th):PE X (.Subscript e (.Slice lo hi none p2) pos) (tSl r te tl th):=by
  intro pins s σ H Q I h
  refine Subscript_ (thn (he pins s σ H _ I h) fun v s1 ⟨x,H1,I1,r1,q1⟩=>?_)
  refine wpAny_Slice (thn (hl pins s1 σ H1 _ I1 q1) fun vl s2 ⟨l,H2,I2,pl,q2⟩=>thn (hu pins s2 σ H2 _ I2 q2) fun vu s3 ⟨u,H3,I3,pu,q3⟩=>?_)
  rw [evalPart_none]
  refine wpAny_pure ?_
  have I4:Inv X pins σ H3 { s3 with heap:=s3.heap.push { cls:=.type "slice",data:=.fields #[vl,vu,.none] } }:=I3.kept (t':=s3.toks) fun b ob q=>Heap.get?_push_of_some _ q
  obtain ⟨T,id,hT,ht,hg⟩:=hr pins { s3 with heap:=s3.heap.push { cls:=.type "slice",data:=.fields #[vl,vu,.none] } } σ H3 x v vl vu l u s3.heap.objs.size Q I4 r1 (Heap.IsSliceOf.new ..) pl pu q3
  show wpAny (model X.prog X.w) X.A (subscriptTail e (.Slice lo hi none p2) v (.ref s3.heap.objs.size)) (EP X pins σ Q) X.xe { s3 with heap:=s3.heap.push { cls:=.type "slice",data:=.fields #[vl,vu,.none] } }
  exact tail_any (ops:=[.ref s3.heap.objs.size,v]) ht hT hg (by with_unfolding_all rfl)
def cutV (xs:List V) (lo hi:Option Int):List V:=(xs.drop (HT.sIx xs.length 0 lo)).take (HT.sIx xs.length xs.length hi - HT.sIx xs.length 0 lo)
theorem cutV_length (xs:List V) (lo hi:Option Int):(cutV xs lo hi).length≤xs.length:=by
  unfold cutV
  rw [List.length_take,List.length_drop]
  omega
def rSlT (K:PySem.W.Frag):V→Option Int→Option Int→Hp→VK→Prop:=fun x lo hi H Q=>∃ a xs,x=.ref a∧SqT K H a xs ∧
  ¬ (HT.sIx xs.length 0 lo=0∧HT.sIx xs.length xs.length hi=xs.length)∧∀ p,H p=none→Q (.ref p) (upd H p (.tup (cutV xs lo hi)))
theorem sl_tup:SlR X (rSlT X.K):=by
  intro pins s σ H x v vl vu lo hi sl Q I rx hs pl pu h
  obtain ⟨a,xs,rfl,hx,hw,q⟩:=h
  cases rx
  obtain ⟨its,r,ht,hz⟩:=I.tuple hx
  have hlen:its.toArray.size=xs.length:=by rw [List.size_toArray]; exact r.length.symm
  refine ⟨"tuple",_,PyProof.Rows.slot_tuple_getitem.lookup,ht.typeIs,?_⟩
  refine HT.getItem_tuple_cut ht hs pl pu (by rw [hlen]; exact hw) ?_ (by rw [hlen]; exact hz)
  rw [hlen]
  refine ⟨.ref s.heap.objs.size,_,I.laid (t':=s.toks) (o:=.tup (cutV xs lo hi)) (fun b ob q=>Heap.get?_push_of_some _ q) (Nat.le_refl _) ?_,rfl,q _ (I.hok.fresh (Nat.le_refl _))⟩
  exact ⟨Nat.le_trans (cutV_length xs lo hi) hz,_,(r.drop (HT.sIx xs.length 0 lo)).take (HT.sIx xs.length xs.length hi - HT.sIx xs.length 0 lo),IsTup.new _ _⟩
end
end L2
namespace L2
open PySem PySem.Spec PyProof.Rows
def ixN (n:Nat) (i:Int):Option Nat:=if 0≤i then (if i<n then some i.toNat else none) else if -(n:Int)≤i then some (i+n).toNat else none
def atI {α:Type} (xs:List α) (i:Int):Option α:=(ixN xs.length i).bind fun j=>xs[j]?
theorem ixN_seq {n:Nat} {i:Int} {j:Nat} (h:ixN n i=some j):seqIndex? i n=some j∧j<n ∧ -(n:Int)≤i∧i<n:=by
  unfold ixN at h
  by_cases h0:0≤i
  · rw [if_pos h0] at h
    by_cases h1:i<n
    · rw [if_pos h1] at h
      have e:i.toNat=j:=Option.some.inj h
      exact ⟨by rw [seqIndex_of h0 h1,e],by omega,by omega,h1⟩
    · rw [if_neg h1] at h; cases h
  · rw [if_neg h0] at h
    by_cases h1:-(n:Int)≤i
    · rw [if_pos h1] at h
      have e:(i+n).toNat=j:=Option.some.inj h
      exact ⟨by rw [seqIndex_neg (by omega) h1,e],by omega,h1,by omega⟩
    · rw [if_neg h1] at h; cases h
theorem atI_get {α:Type} {xs:List α} {i:Int} {v:α} (h:atI xs i=some v):∃ j,seqIndex? i xs.length=some j∧xs[j]? = some v∧j<xs.length ∧ -(xs.length:Int)≤i∧i<xs.length:=by
  unfold atI at h
  cases e:ixN xs.length i with
  | none=>rw [e] at h; cases h
  | some j =>
    rw [e] at h
    obtain ⟨h1,h2,h3,h4⟩:=ixN_seq e
    exact ⟨j,h1,h,h2,h3,h4⟩
theorem atI_nat {α:Type} {xs:List α} {j:Nat} {v:α} (h:xs[j]? = some v):atI xs (j:Int)=some v:=by
  have hj:j<xs.length:=(List.getElem?_eq_some_iff.mp h).1
  have e:ixN xs.length (j:Int)=some j:=by
    unfold ixN
    rw [if_pos (by omega),if_pos (by omega)]; simp
  unfold atI; rw [e]; exact h
def PlainIx (b:Expr):Prop:=∀ o i,subscripted b false o i=operate [o,i] (getItem o i)
def IxR (X:Cx) (r:R2):Prop :=
  ∀ (value slice:Expr) (pins:List (Addr×Obj)) (s:Shared) (σ:St) (H:Hp) (x y:V) (v u:Value) (Q:VK),Inv X pins σ H s→RelV x v→RelV y u→r x y H Q →
    subscripted slice false v u=operate [v,u] (getItem v u)→wpAny (model X.prog X.w) X.A (subscriptTail value slice v u) (EP X pins σ Q) X.xe s
def MtR (X:Cx) (id:String) (r:V→List V→Hp→VK→Prop):Prop :=
  ∀ (pins:List (Addr×Obj)) (s:Shared) (σ:St) (H:Hp) (x:V) (xs:List V) (v:Value) (us:List Value) (Q:VK),Inv X pins σ H s→RelV x v→Vals xs us→r x xs H Q →
    wpAny (model X.prog X.w) X.A (call (.builtin id) (v::us)) (EP X pins σ Q) X.xe s
section
variable {X:Cx} {a b:Expr} {ta tb:TE} {pos:Pos}
theorem IxR.or {r r':R2} (h:IxR X r) (h':IxR X r'):IxR X (fun x y H Q=>r x y H Q∨r' x y H Q):=by
  intro value slice pins s σ H x y v u Q I rx ry q hs
  rcases q with q | q
  · exact h value slice pins s σ H x y v u Q I rx ry q hs
  · exact h' value slice pins s σ H x y v u Q I rx ry q hs
theorem pe_ix {r:R2} (hr:IxR X r) (ha:PE X a ta) (hb:PE X b tb) (hs:PlainIx b):PE X (.Subscript a b pos) (tOp r ta tb):=by
  intro pins s σ H Q I h
  exact Subscript_ (binT ha hb I h fun v u s2 x y H2 I2 rx ry q=>hr a b pins s2 σ H2 x y v u Q I2 rx ry q (hs _ _))
def rIxL (K:PySem.W.Frag):R2:=fun x y H Q=>∃ p xs i v,x=.ref p∧y=.int i∧SqL K H p xs∧atI xs i=some v∧Q v H
def rIxT (K:PySem.W.Frag):R2:=fun x y H Q=>∃ p xs i v,x=.ref p∧y=.int i∧SqT K H p xs∧atI xs i=some v∧Q v H
def rIxS:R2:=fun x y H Q=>∃ z i c,x=.str z∧y=.int i∧z.length≤sizeLine∧atI z.cps.toList i=some c∧Q (.str ⟨#[c]⟩) H
theorem ix_list:IxR X (rIxL X.K):=by
  intro value slice pins s σ H x y v u Q I rx ry h hs
  obtain ⟨p,xs,i,z,rfl,rfl,hq,he,q⟩:=h
  cases rx
  obtain ⟨t,rfl⟩:=ry
  obtain ⟨its,r,pl,hz⟩:=I.list hq
  obtain ⟨j,h1,h2,h3,h4,h5⟩:=atI_get he
  obtain ⟨w,ew,rw'⟩:=r.get h2
  have hl:=r.length
  have hn:=line63
  have fin:EP X pins σ Q w s:=⟨z,H,I,rw',q⟩
  by_cases h0:0≤i
  · have hj:i.toNat=j:=by
      rw [seqIndex_of h0 h5] at h1
      exact Option.some.inj h1
    exact item_listR pl.isList h0 (by omega) (by rw [hj]; simpa using ew) fin hs
  · have hj:(i+(its.toArray.size:Int)).toNat=j:=by
      rw [seqIndex_neg (by omega) h4] at h1
      rw [List.size_toArray,← hl]
      exact Option.some.inj h1
    exact subscriptTail_builtinR (x:=w) pl.isList.typeIs slot_list_getitem.lookup
      (wpAny_getItem_list_neg (Q:=fun r s'=>r=w∧EP X pins σ Q r s') pl.isList (by omega) (by rw [List.size_toArray] <;> omega) (by omega) (by rw [hj]; simpa using ew) ⟨rfl,fin⟩) hs
theorem ix_tup:IxR X (rIxT X.K):=by
  intro value slice pins s σ H x y v u Q I rx ry h hs
  obtain ⟨p,xs,i,z,rfl,rfl,hq,he,q⟩:=h
  cases rx
  obtain ⟨t,rfl⟩:=ry
  obtain ⟨its,r,pl,hz⟩:=I.tuple hq
  obtain ⟨j,h1,h2,h3,h4,h5⟩:=atI_get he
  obtain ⟨w,ew,rw'⟩:=r.get h2
  have hl:=r.length
  have hn:=line63
  have fin:EP X pins σ Q w s:=⟨z,H,I,rw',q⟩
  exact subscriptTail_builtinR (x:=w) pl.typeIs slot_tuple_getitem.lookup
    (getItem_tuple (j:=j) (Q:=fun r s'=>r=w∧EP X pins σ Q r s') pl (by omega) (by omega) (by rw [List.size_toArray,← hl]; exact h1) (by simpa using ew) ⟨rfl,fin⟩) hs
theorem ix_str:IxR X rIxS:=by
  intro value slice pins s σ H x y v u Q I rx ry h hs
  obtain ⟨z,i,c,rfl,rfl,hz,he,q⟩:=h
  obtain ⟨t,rfl⟩:=rx
  obtain ⟨t',rfl⟩:=ry
  obtain ⟨j,h1,h2,h3,h4,h5⟩:=atI_get he
  have hl:z.cps.toList.length=z.length:=by simp [Str.length]
  rw [hl] at h1 h4 h5
  have hn:=line63
  exact tail_any (typeIs_str s z t) slot_str_getitem.lookup (getItem_str (c:=c) (by
    have e1:decide (i < -(2 ^ 63:Int))=false:=decide_eq_false (by omega)
    have e2:decide (i ≥ 2 ^ 63)=false:=decide_eq_false (by omega)
    rw [e1,e2,Bool.or_false]) (by rw [h1]; simpa using h2) ⟨.str ⟨#[c]⟩,H,I.tok _,⟨_,rfl⟩,q⟩) hs
def rIx (K:PySem.W.Frag):R2:=fun x y H Q=>rIxL K x y H Q∨rIxT K x y H Q∨rIxS x y H Q
theorem ix_seq:IxR X (rIx X.K):=ix_list.or (ix_tup.or ix_str)
theorem mapSeq_set (its:List Value) (n j:Nat) (u:Value):Obj.mapSeq (·.setIfInBounds j u) { cls:=.type "list",data:=.seq its.toArray n }={ cls:=.type "list",data:=.seq (its.set j u).toArray n }:=by
  simp [Obj.mapSeq]
theorem Inv.lst {pins:List (Addr×Obj)} {σ:St} {H:Hp} {s:Shared} {p:Addr} {xs:List V} (I:Inv X pins σ H s) (h:H p=some (.lst xs)):∃ (its:List Value) (n:Nat),Vals xs its∧s.heap.get? p=some { cls:=.type "list",data:=.seq its.toArray n }∧xs.length≤sizeLine:=by
  obtain ⟨z,its,n,r,e⟩:=I.hok p _ h
  exact ⟨its,n,r,e,z⟩
theorem Inv.lstUpd {pins:List (Addr×Obj)} {σ:St} {H:Hp} {s:Shared} {p:Addr} {xs ys:List V} {its its':List Value} {n n':Nat} {f:Obj→Obj} (I:Inv X pins σ H s) (h:H p=some (.lst xs)) (ho:s.heap.get? p=some { cls:=.type "list",data:=.seq its.toArray n }) (hf:f { cls:=.type "list",data:=.seq its.toArray n }={ cls:=.type "list",data:=.seq its'.toArray n' }) (r:Vals ys its') (hz:ys.length≤sizeLine) (t:Nat):Inv X pins σ (upd H p (.lst ys)) { s with heap:=s.heap.update p f,toks:=t }:=by
  have e:(s.heap.update p f).get? p=some { cls:=.type "list",data:=.seq its'.toArray n' }:=by
    rw [Heap.get?_update_self f ho (by rw [hf] <;> rfl),hf]
  refine I.write (x:=p) (e:=p) (by rw [h]; trivial) (.inl rfl) (fun b u hb q=>(Heap.get?_update_other _ _ (Ne.symm hb)).trans q) ⟨_,e⟩ ?_
  exact ⟨hz,its',n',r,e⟩
def rSetL:V→V→V→Hp→(Hp→Prop)→Prop:=fun o i v H Q=>∃ p xs k j,o=.ref p∧i=.int k∧H p=some (.lst xs)∧ixN xs.length k=some j∧Q (upd H p (.lst (xs.set j v)))
theorem set_list:PSet X rSetL:=by
  intro pins s σ H o i v ov iv u Q I ro ri rv h
  obtain ⟨p,xs,k,j,rfl,rfl,hp,hj,q⟩:=h
  cases ro
  obtain ⟨t,rfl⟩:=ri
  obtain ⟨its,n,r,ho,hz⟩:=I.lst hp
  obtain ⟨h1,h2,h3,h4⟩:=ixN_seq hj
  have hl:=r.length
  have hn:=line63
  have I':Inv X pins σ (upd H p (.lst (xs.set j v))) { s with heap:=s.heap.update p (Obj.mapSeq (·.setIfInBounds j u)) } :=
    I.lstUpd hp ho (mapSeq_set its n j u) (r.set rv j) (by rw [List.length_set]; exact hz) s.toks
  by_cases h0:0≤k
  · have hk:k.toNat=j:=by
      rw [seqIndex_of h0 h4] at h1
      exact Option.some.inj h1
    exact PySem.W.ki_setAt ho h0 (by omega) (by rw [List.size_toArray,← hl]; exact h4) (by rw [hk]; exact ⟨_,I',q⟩)
  · have hk:(k+(its.toArray.size:Int)).toNat=j:=by
      rw [seqIndex_neg (by omega) h3] at h1
      rw [List.size_toArray,← hl]
      exact Option.some.inj h1
    exact PySem.W.ki_setBack ho (by omega) (by rw [List.size_toArray,← hl]; exact h3) (by omega) (by rw [hk]; exact ⟨_,I',q⟩)
theorem slice_bounds (lo hi:Option Int) (n:Nat):(sliceBounds lo hi none n).1=((HT.sIx n 0 lo:Nat):Int)∧(sliceBounds lo hi none n).2.1=((HT.sIx n n hi:Nat):Int)∧(sliceBounds lo hi none n).2.2=1:=by
  refine ⟨?_,?_,rfl⟩
  · cases lo with
    | none=>simp [sliceBounds,HT.sIx]
    | some i =>
      simp only [sliceBounds,HT.sIx,Option.getD_none,show (1:Int) > 0 by decide,if_true]
      by_cases h:i<0
      · simp only [h,if_true] <;> omega
      · simp only [h,if_false] <;> omega
  · cases hi with
    | none=>simp [sliceBounds,HT.sIx]
    | some i =>
      simp only [sliceBounds,HT.sIx,Option.getD_none,show (1:Int) > 0 by decide,if_true]
      by_cases h:i<0
      · simp only [h,if_true] <;> omega
      · simp only [h,if_false] <;> omega
theorem slicePick_cut (its:List Value) (lo hi:Option Int):slicePick its.toArray lo hi none=((its.drop (HT.sIx its.length 0 lo)).take (HT.sIx its.length its.length hi - HT.sIx its.length 0 lo)).toArray:=by
  obtain ⟨h1,h2,h3⟩:=slice_bounds lo hi its.toArray.size
  unfold slicePick
  rw [h1,h2,h3]
  simp only [sliceRange_one,pick_run,List.size_toArray] <;> rfl
def rSlL (K:PySem.W.Frag):V→Option Int→Option Int→Hp→VK→Prop:=fun x lo hi H Q=>∃ a xs,x=.ref a∧SqL K H a xs∧∀ p,H p=none→Q (.ref p) (upd H p (.lst (cutV xs lo hi)))
theorem sl_list:SlR X (rSlL X.K):=by
  intro pins s σ H x v vl vu lo hi sl Q I rx hs pl pu h
  obtain ⟨a,xs,rfl,hx,q⟩:=h
  cases rx
  obtain ⟨its,r,ht,hz⟩:=I.list hx
  have hlen:=r.length
  refine ⟨"list",_,slot_list_getitem.lookup,ht.isList.typeIs,?_⟩
  refine wpAny_getItem_list_slice ht.isList hs pl pu .none (by simp) ?_ (by rw [List.size_toArray] <;> omega)
  rw [slicePick_cut,← hlen]
  refine ⟨.ref s.heap.objs.size,_,I.laid (t':=s.toks) (o:=.lst (cutV xs lo hi)) (fun b ob q=>Heap.get?_push_of_some _ q) (Nat.le_refl _) ?_,rfl,q _ (I.hok.fresh (Nat.le_refl _))⟩
  exact ⟨Nat.le_trans (cutV_length xs lo hi) hz,_,0,(r.drop (HT.sIx xs.length 0 lo)).take (HT.sIx xs.length xs.length hi - HT.sIx xs.length 0 lo),Heap.get?_push_size _ rfl⟩
theorem CallR.or {f:Value} {r r':List V→Hp→VK→Prop} (h:CallR X f r) (h':CallR X f r'):CallR X f (fun xs H Q=>r xs H Q∨r' xs H Q):=by
  intro pins s σ H xs us Q I rs q
  rcases q with q | q
  · exact h pins s σ H xs us Q I rs q
  · exact h' pins s σ H xs us Q I rs q
theorem call_tuple_of:CallR X (.type "tuple") (fun xs H Q=>∃ p ys,xs=[.ref p]∧((SqL X.K H p ys∧∀ l,H l=none→Q (.ref l) (upd H l (.tup ys)))∨(SqT X.K H p ys∧Q (.ref p) H))):=by
  intro pins s σ H xs us Q I r h
  obtain ⟨p,ys,rfl,h⟩:=h
  obtain ⟨u,rfl,rx⟩:=vals1 r
  cases rx
  rcases h with ⟨hq,q⟩ | ⟨hq,q⟩
  · obtain ⟨its,r',pl,hz⟩:=I.list hq
    have hlen:=r'.length
    refine call_tuple_list pl.isList (fun h' kp=>?_) (by simp only [List.size_toArray] <;> omega)
    have I1:Inv X pins σ H { s with heap:=h' }:=I.kept (t':=s.toks) kp
    have I2:Inv X pins σ (upd H h'.objs.size (.tup ys)) { s with heap:=h'.push { cls:=.type "tuple",data:=.seq its.toArray } } :=
      I1.laid (t':=s.toks) (fun b o e=>Heap.get?_push_of_some _ e) (Nat.le_refl _) (show ObjOk X.prog X.w _ _ _ (.tup ys) from ⟨hz,its,r',IsTup.new _ _⟩)
    exact ⟨.ref h'.objs.size,_,I2,rfl,q _ (I1.hok.fresh (Nat.le_refl _))⟩
  · obtain ⟨its,r',pl,hz⟩:=I.tuple hq
    exact call_tuple_same pl ⟨.ref p,H,I,rfl,q⟩
def tyV (K:PySem.W.Frag) (T:String) (x:V) (H:Hp):Prop:=match x with
  | .str _=>T = "str"
  | .int _=>T = "int"
  | .ref p=>(T = "list" ∧ ∃ xs,SqL K H p xs)∨(T = "tuple" ∧ ∃ o,K.lookup p=some o∧o.cls=.type "tuple" ∧ o.dict=none) ∨
      (T = "dict" ∧ ((∃ kvs,H p=some (.dK kvs))∨∃ kvs,H p=some (.dT kvs)))∨(T = "set" ∧ ∃ S n,H p=some (.set S n))
  | _=>False
theorem tyV_is {pins:List (Addr×Obj)} {σ:St} {H:Hp} {s:Shared} {T:String} {x:V} {v:Value} (I:Inv X pins σ H s) (r:RelV x v) (ty:tyV X.K T x H):s.TypeIs v T∧∀ a,v=.ref a→∃ ob,s.heap.get? a=some ob∧ob.dict=none:=by
  cases x with
  | str z =>
    obtain ⟨t,rfl⟩:=r
    cases (show T = "str" from ty)
    exact ⟨typeIs_str s z t,fun _ e=>nomatch e⟩
  | int i =>
    obtain ⟨t,rfl⟩:=r
    cases (show T = "int" from ty)
    exact ⟨typeIs_int s i t,fun _ e=>nomatch e⟩
  | ref p =>
    cases r
    rcases ty with ⟨rfl,xs,hq⟩ | ⟨rfl,o,hk,hc,hd⟩ | ⟨rfl,hk⟩ | ⟨rfl,S,n,hk⟩
    · obtain ⟨its,_,pl,_⟩:=I.list hq
      refine ⟨pl.isList.typeIs,fun a e=>?_⟩
      cases e
      obtain ⟨o,n,e,c,hd,_⟩:=pl
      exact ⟨o,e,hd⟩
    · refine ⟨⟨o,I.kIn p o hk,hc⟩,fun a e=>?_⟩
      cases e
      exact ⟨o,I.kIn _ o hk,hd⟩
    · have z:∃ o,s.heap.get? p=some o∧o.ExactDict:=by
        rcases hk with ⟨kvs,hk⟩ | ⟨kvs,hk⟩
        · obtain ⟨_,_,_,_,o,_,_,e,ex,_⟩:=I.hok p _ hk
          exact ⟨o,e,ex⟩
        · obtain ⟨_,_,_,_,o,_,_,e,ex,_⟩:=I.hok p _ hk
          exact ⟨o,e,ex⟩
      obtain ⟨o,e,ex⟩:=z
      refine ⟨⟨o,e,ex.1⟩,fun a e2=>?_⟩
      cases e2
      exact ⟨o,e,ex.2.1⟩
    · obtain ⟨o,_,_,_,e,ex,_⟩:=I.hok p _ hk
      refine ⟨⟨o,e,ex.1⟩,fun a e2=>?_⟩
      cases e2
      exact ⟨o,e,ex.2.1⟩
  | _=>exact False.elim ty
def tBM (K:PySem.W.Frag) (T:String) (r:V→List V→Hp→VK→Prop) (to:TE) (t:TA):TE:=fun σ H Q=>to σ H fun x H1=>tyV K T x H1∧t σ H1 fun xs H2=>r x xs H2 Q
variable {o e:Expr} {es:List Expr} {to:TE} {t:TA} {name:Str} {apos cpos:Pos} {T id:String} {r:V→List V→Hp→VK→Prop}
theorem pe_bm (pa:PlainAttrs T) (slot:Slot T name id) (hty:typeOf (.builtin id)=pure (.type "method_descriptor")) (hm:MtR X id r) (ho:PE X o to) (ha:PA X (e::es) t)
    (hbase:attributeBase o name X.env (eval o X.env)=eval o X.env:=by rfl)
    (hfew:((backTo cpos (starEach (e::es) X.env)).all (fun x=>!x.1) && (backToKw cpos (keywordEach [] X.env)).all (fun x=>x.1.isSome)
      && decide ((e::es).length+([]:List Keyword).length+(if ([]:List Keyword).isEmpty then 0 else 1)<30))=true:=by rfl)
    (hline:(apos.endLine == cpos.line)=true:=by rfl) (hs:starEach (e::es) X.env=(false,eval e X.env)::starEach es X.env:=by rfl) (hplain:(backTo cpos (starEach es X.env)).any (·.1)=false:=by rfl) :
    PE X (.Call (.Attribute o name apos) (e::es) [] cpos) (tBM X.K T r to t):=by
  intro pins s σ H Q I h
  refine wpAny_Call_method_late hbase hfew hline rfl (thn (ho pins s σ H _ I h) fun v s1 ⟨x,H1,I1,r1,ty,q1⟩=>?_)
  obtain ⟨h1,h2⟩:=tyV_is I1 r1 ty
  refine ⟨T,id,pa,slot,hty,h1,h2,?_⟩
  have hA:=ha cpos pins s1 σ H1 _ I1 q1
  rw [hs] at hA ⊢
  refine Calls.callWith_builtin (by show (false || (backTo cpos (starEach es X.env)).any (·.1))=false; rw [hplain] <;> rfl) (Calls.evalArgs_plain ?_)
  exact thn hA fun us s2 ⟨vs,H2,I2,r2,q2⟩=>hm pins s2 σ H2 x vs v us Q I2 r1 r2 q2
end
end L2
namespace L2
open PySem PySem.Spec PyProof.Rows
def MtM (X:Cx) (id:String) (r:V→List V→Hp→VK→Prop):Prop :=
  ∀ (pins:List (Addr×Obj)) (s:Shared) (σ:St) (H:Hp) (x:V) (xs:List V) (v:Value) (us:List Value) (Q:VK),Inv X pins σ H s→RelV x v→Vals xs us→r x xs H Q →
    wpAny (model X.prog X.w) X.A (call (.builtin id) (v::us)) (EP X pins σ Q) X.xe s
theorem Vals.one:∀ {x:V} {us:List Value},Vals [x] us→∃ u,us=[u]∧RelV x u
  | _,_,.cons r .nil=>⟨_,rfl,r⟩
theorem Vals.reverse {xs:List V} {us:List Value} (h:Vals xs us):Vals xs.reverse us.reverse:=by
  induction h with
  | nil=>exact .nil
  | cons r t ih=>rw [List.reverse_cons,List.reverse_cons]; exact Vals.append ih (.cons r .nil)
section
variable {X:Cx} {pins:List (Addr×Obj)} {σ:St} {H:Hp} {s:Shared} {l b:Addr} {xs ys zs:List V}
theorem Inv.lset {its its':List Value} {n:Nat} {f:Array Value→Array Value} {t':Nat} (I:Inv X pins σ H s) (hH:H l=some (.lst xs)) (e:s.heap.get? l=some { cls:=.type "list",data:=.seq its.toArray n }) (hf:f its.toArray=its'.toArray) (hv:Vals ys its') (hz:ys.length≤sizeLine):Inv X pins σ (upd H l (.lst ys)) { s with heap:=s.heap.update l (Obj.mapSeq f),toks:=t' }:=by
  have q:=PySem.IsL.update e f
  rw [hf] at q
  refine I.write (x:=l) (e:=l) (by rw [hH]; exact trivial) (.inl rfl) (fun b' u hb hu=>(Heap.get?_update_other s.heap (Obj.mapSeq f) (Ne.symm hb)).trans hu) ⟨_,q⟩ ?_
  exact ⟨hz,its',_,hv,q⟩
theorem Inv.lnew {its:List Value} {t':Nat} (I:Inv X pins σ H s) (hv:Vals ys its) (hz:ys.length≤sizeLine):Inv X pins σ (upd H s.heap.objs.size (.lst ys)) { s with heap:=s.heap.push { cls:=.type "list",data:=.seq its.toArray },toks:=t' } :=
  I.laid (fun _ _ q=>Heap.get?_push_of_some _ q) (Nat.le_refl _) ⟨hz,its,0,hv,Heap.get?_push_size _ rfl⟩
theorem Inv.fresh (I:Inv X pins σ H s):H s.heap.objs.size=none:=I.hok.fresh (Nat.le_refl _)
theorem Inv.lstM (I:Inv X pins σ H s) (hH:H l=some (.lst xs)):xs.length≤sizeLine∧∃ (its:List Value) (n:Nat),Vals xs its∧xs.length=its.length∧s.heap.get? l=some { cls:=.type "list",data:=.seq its.toArray n }:=by
  obtain ⟨z,its,n,r,e⟩:=I.hok l _ hH
  exact ⟨z,its,n,r,r.length,e⟩
theorem notLongL {n:Nat} (h:n≤sizeLine):Builtin.List.listTooLong n=false:=by
  unfold Builtin.List.listTooLong
  exact decide_eq_false (by omega)
end
section
variable {X:Cx}
def rAppend:V→List V→Hp→VK→Prop:=fun x vs H Q=>∃ l xs y,x=.ref l∧vs=[y]∧H l=some (.lst xs)∧xs.length<sizeLine∧Q .non (upd H l (.lst (xs++[y])))
theorem mt_append:MtM X "list.append" rAppend:=by
  intro pins s σ H x vs v us Q I rx rv h
  obtain ⟨l,xs,y,rfl,rfl,hH,hz,q⟩:=h
  cases rx
  obtain ⟨u,rfl,ru⟩:=rv.one
  obtain ⟨z,its,n,r,hl,e⟩:=I.lstM hH
  refine call_meets F.slot_list_append ⟨_,e,rfl⟩ F.entry_list_append (F.args_list_append_2 _ _) (PySem.list_append l its.toArray n u (by rw [List.size_toArray]; omega)) ⟨e,?_⟩
  refine ⟨.non,_,I.lset (its':=its++[u]) hH e (by simp) (r.append (.cons ru .nil)) ?_,rfl,q⟩
  rw [List.length_append,List.length_singleton]
  omega
def rExtend:V→List V→Hp→VK→Prop:=fun x vs H Q=>∃ l b xs zs,x=.ref l∧vs=[.ref b]∧H l=some (.lst xs)∧H b=some (.lst zs)∧xs.length+zs.length≤sizeLine∧Q .non (upd H l (.lst (xs++zs)))
theorem mt_extend:MtM X "list.extend" rExtend:=by
  intro pins s σ H x vs v us Q I rx rv h
  obtain ⟨l,b,xs,zs,rfl,rfl,hH,hB,hz,q⟩:=h
  cases rx
  obtain ⟨u,rfl,ru⟩:=rv.one
  cases ru
  obtain ⟨z,its,n,r,hl,e⟩:=I.lstM hH
  obtain ⟨z2,its2,n2,r2,hl2,e2⟩:=I.lstM hB
  have hsz:its.toArray.size+its2.toArray.size≤sizeLine:=by rw [List.size_toArray,List.size_toArray]; omega
  have hlong:¬ (!its.toArray.isEmpty && Builtin.List.listTooLong (its.toArray.size+its2.toArray.size))=true:=by
    rw [notLongL hsz,Bool.and_false]
    exact Bool.false_ne_true
  refine call_meets F.slot_list_extend ⟨_,e,rfl⟩ F.entry_list_extend (F.args_list_extend_2 _ _)
    (AutoSeq1.list_extend_list_list_0 l its.toArray n b its2.toArray n2 hlong (by rw [List.size_toArray]; omega) (by omega)) ⟨e,e2,?_⟩
  refine ⟨.non,_,I.lset (its':=its++its2) hH e (by simp) (r.append r2) ?_,rfl,q⟩
  rw [List.length_append]
  omega
def rCat:R2:=fun x y H Q=>∃ l b xs zs,x=.ref l∧y=.ref b∧H l=some (.lst xs)∧H b=some (.lst zs)∧xs.length+zs.length≤sizeLine∧∀ p,H p=none→Q (.ref p) (upd H p (.lst (xs++zs)))
theorem op_cat:OpR X (binaryOp .Add) rCat:=by
  intro pins s σ H x y v u Q I rx ry h
  obtain ⟨l,b,xs,zs,rfl,rfl,hH,hB,hz,q⟩:=h
  cases rx
  cases ry
  obtain ⟨z,its,n,r,hl,e⟩:=I.lstM hH
  obtain ⟨z2,its2,n2,r2,hl2,e2⟩:=I.lstM hB
  refine PySem.P.add_list e e2 ?_ (by rw [List.size_toArray,List.size_toArray]; omega)
  have ea:its.toArray++its2.toArray=(its++its2).toArray:=by simp
  rw [ea]
  exact ⟨.ref _,_,I.lnew (t':=s.toks) (r.append r2) (by rw [List.length_append]; omega),rfl,q _ I.fresh⟩
end
end L2
namespace Att
open PySem PySem.W PySem.Calls PyProof.Rows
theorem ints_of_wellAll {P:Params} {h:Heap}:∀ (ns:List Int) (vs:List Value),WellAll P h vs (ns.map WData.int)→IntsAre vs ns:=by
  intro ns
  induction ns with
  | nil =>
    intro vs w
    rw [List.map_nil] at w
    cases w
    exact .nil
  | cons n ns ih =>
    intro vs w
    rw [List.map_cons] at w
    cases w with
    | cons a b =>
      cases a
      exact .cons _ _ (ih _ b)
theorem script_of {l:OpenLaw} {n:Nat} (hn:l.most=some n) {P:Params} {h:Heap} {args:List WData} {vals:List Value} (hpre:l.row.toRowW.claim.pre args=true) (hwl:WellAll P h vals args):∃ a vs ns,vals=[Value.ref a]∧args=[WData.list (ns.map WData.int)]∧h.get? a=some { cls:=.type "list",data:=.seq vs.toArray }∧IntsAre vs ns∧ns.length≤n:=by
  have hsh:WShape.hasAll [] args [.list .int]=true:=(pre_splitW hpre).1
  have hc:l.pre.holds [] { args:=args }=true:=(pre_splitW hpre).2
  obtain ⟨d,r,rfl,h1,h2⟩:=hasAllW_cons hsh
  obtain rfl:=hasAllW_nil h2
  obtain ⟨xs,rfl,h3⟩:=hasW_list h1
  obtain ⟨ns,rfl⟩:=items_int h3
  have hlen:ns.length≤n:=by
    unfold OpenLaw.pre at hc
    have h4:(WTm.not (.lt (.lit (.int (n:Int))) (.len (.arg 0)))).holds [] { args:=[.list (ns.map .int)] }=true:=by
      have h4:=(holds_andW hc).1
      rw [hn] at h4
      exact h4
    have h5:=condW_of h4 (w_not (w_lt w_lit (w_len_list (w_arg rfl))))
    rw [List.length_map] at h5
    refine Nat.le_of_not_lt fun q=>?_
    have q':(n:Int)<((ns.length:Nat):Int):=by omega
    first
      | (rw [decide_eq_true q'] at h5; exact absurd h5 (by decide))
      | (simp at h5; omega)
  cases hwl with
  | cons w1 w2 =>
    cases w2
    cases w1 with
    | list ho hall=>exact ⟨_,_,ns,rfl,rfl,ho,ints_of_wellAll ns _ hall,hlen⟩
theorem post_true (l:OpenLaw) (args:List WData):l.row.toRowW.claim.post args (.bool true) args=true :=
  postW_of (r:=l.row.toRowW) (X:=(true == true))
    (show WShape.has [] (.bool true) .bool=true by first | rfl | decide | simp [WShape.has,WShape.arms,WShape.armsAll])
    (show (WTm.eq .res (.lit (.bool true))).value [] { args:=args,res:=some (.bool true),after:=args }=some (.bool (true == true)) from w_eq_bool (w_res rfl) w_lit) rfl
theorem attach_call {l:OpenLaw} {n:Nat} {q:Program} {loose:List Str} {XP:(Str→Option Value)→Heap→Prop} {YP:World→Heap→Prop} {d:DefRec} (hn:l.most=some n) (hdf:d.params.defaults=[]) (call:∀ (w:World) (s₀ s₁:Shared) (mg mb:Str→Option Value) (fa:Addr) (o:Obj) (pm cd doc:Value) (a:Addr) (vs:List Value) (ns:List Int),Ground q loose [] XP w s₀ mg mb s₁.heap→YP w s₁.heap→s₁.heap.get? fa=some o→o.data=.func (docDef d.name d.params d.body d.scope pm cd doc)→s₁.heap.CodeRec cd d.name→mg d.name=some (.ref fa)→s₁.heap.get? a=some { cls:=.type "list",data:=.seq vs.toArray }→IntsAre vs ns→ns.length≤n→s₁.gens=#[]→codeAny (model l.prog w) callerA (.call (.ref fa) ⟨[.ref a],[]⟩) (fun r s'=>r=.ok (.ret (.bool true))∧OldK s₁.heap s'.heap∧s'.os=s₁.os∧AllBare s'.gens) s₁):WalkO q loose XP YP l.row.toRowW d [] (fun f vs=>PySem.call f vs):=by
  intro w s₀ s₁ mg mb G Y fa o pm cd doc dV kV ho hd hcd hD hmg hg args vals as hpre hlay hrd hwl hlo
  obtain rfl:dV=.none:=Dflts.none hD hdf
  obtain rfl:kV=.none:=Dflts.noKw hD
  obtain ⟨a,vs,ns,rfl,rfl,hobj,hints,hlen⟩:=script_of hn hpre hwl
  refine enter_call (codeAny_mono (call w s₀ s₁ mg mb fa o pm cd doc a vs ns G Y ho (fd_plain hd) hcd hmg hobj hints hlen hg) fun r s' hq=>?_)
  obtain ⟨rfl,h2,h3,h4⟩:=hq
  exact ⟨.inl ⟨.bool true,.bool true,[],rfl,fun _=>rfl,.bool true,post_true l _,fun _=>⟨List.Pairwise.nil,fun _ hm=>(nomatch hm)⟩⟩,h2,h3,h4⟩
end Att
namespace L2
open PySem PySem.Spec PyProof.Rows
theorem vals_ints:∀ {vs:List Value} {ns:List Int},IntsAre vs ns→Vals (ns.map V.int) vs
  | _,_,.nil=>.nil
  | _,_,.cons n t h=>.cons ⟨t,rfl⟩ (vals_ints h)
def Only (H:Hp):Prop:=∀ b,H b=none∨∃ o xs,H b=some (.frz o (.lst xs))
end L2
namespace L2
open PySem PySem.Spec PyProof.Rows
end L2
namespace L2
open PySem PySem.Spec PyProof.Rows
def defArgs (s:Stmt):Arguments:=match s with
  | .FunctionDef _ a _ _ _ _ _ _ _ _=>a
  | _=>{ posonlyargs:=[],args:=[],vararg:=none,kwonlyargs:=[],kw_defaults:=[],kwarg:=none,defaults:=[] }
def defBody (s:Stmt):List Stmt:=match s with
  | .FunctionDef _ _ b _ _ _ _ _ _ _=>b
  | _=>[]
def defScope (s:Stmt):Scope:=match s with
  | .FunctionDef _ _ _ _ _ _ sc _ _ _=>sc
  | _=>{ kind:=.function,names:=[],isGenerator:=false,isCoroutine:=false }
abbrev CX0:CXT:=fun _ _ _ _ _ _=>False
abbrev E0:XK:=fun _ _ _=>False
theorem pass0 {X:Cx}:Passes CX0 X E0:=fun _ _ _ _ _ _ _ h=>h.elim
structure Fun (K:PySem.W.Frag) (x qual:Str) (st:Stmt) (f:Addr) (fd:FuncData):Prop where
  ex:∃ (oc:Value) (od:Option Addr) (kV doc pm:Value) (an:Option Addr) (cdv ct:Value) (osl:Array (Option Value)),
    fd=PySem.W.fnOf x qual (defArgs st) (defBody st) (defScope st) .none kV doc pm an cdv ct∧K.lookup f=some ⟨oc,od,.func fd,osl⟩∧PySem.W.codeIn K cdv qual=true
  kp:PySem.W.keepIn K (.ref f)=true
section
variable {P:Program} {w:World} {K:PySem.W.Frag} {mg:Str→Option Value} {base:Heap}
theorem Fun.ok {x qual:Str} {st:Stmt} {f:Addr} {fd:FuncData} {N ps:List Str} {k:Nat} {sp:Sp} (F:Fun K x qual st f fd) (S:FnScope N ps (defScope st)) (len:∀ vs H Q E,sp vs H Q E→vs.length=ps.length) (hbody:∀ (cdv:Value) (A:Around) (outer:List Env) (s:Shared) (H:Hp) (vs:List V) (Q:VK) (E:XK),Room k (A.deeper (envOfC qual (defScope st) s.heap.objs.size f cdv))→sp vs H Q E→∃ t,PSs (cxOf CX0 P w K mg base N qual (defScope st) f cdv A outer s H E).nox (defBody st) t∧t { nx:=fun _ H'=>Q .non H',rt:=Q } (start N vs) H):FnOk P w K mg base CX0 (k+1) f fd ps sp:=by
  obtain ⟨oc,od,kV,doc,pm,an,cdv,ct,osl,rfl,lk,hcd⟩:=F.ex
  refine fn_of lk hcd S len fun A outer s H vs Q E hr hsp=>?_
  obtain ⟨t,h,q⟩:=hbody cdv A outer s H vs Q E hr hsp
  exact ⟨t,h.nox,q⟩
theorem Fun.binds {x qual:Str} {st:Stmt} {f:Addr} {fd:FuncData} {ps:List Str} (F:Fun K x qual st f fd) (h:∀ (kV doc pm:Value) (an:Option Addr) (cdv ct:Value) (us:List Value),us.length=ps.length→bindArgs (PySem.W.fnOf x qual (defArgs st) (defBody st) (defScope st) .none kV doc pm an cdv ct) ⟨us,[]⟩=pure (ps.zip us)):Binds K fd ps []:=by
  obtain ⟨oc,od,kV,doc,pm,an,cdv,ct,osl,rfl,lk,hcd⟩:=F.ex
  exact .all (h kV doc pm an cdv ct)
theorem fun_mk {x qual:Str} {st:Stmt} {f:Addr} {oc:Value} {od an:Option Addr} {osl:Array (Option Value)} {kV doc pm cdv ct:Value} (l:K.lookup f=some ⟨oc,od,.func (PySem.W.fnOf x qual (defArgs st) (defBody st) (defScope st) .none kV doc pm an cdv ct),osl⟩) (c:PySem.W.codeIn K cdv qual=true) (k:PySem.W.keepIn K (.ref f)=true):Fun K x qual st f (PySem.W.fnOf x qual (defArgs st) (defBody st) (defScope st) .none kV doc pm an cdv ct):=⟨⟨oc,od,kV,doc,pm,an,cdv,ct,osl,rfl,l,c⟩,k⟩
end
theorem small1000 {n:Nat} (h:n≤1000):n<sizeLine:=Nat.lt_of_le_of_lt h (by decide)
section
variable {X:Cx}
theorem pv (i:Nat) {x:Str} {pos:Pos} (hN:X.N[i]? = some x:=by rfl) (hv:Vis X.env.scope x:=by first | exact Or.inl rfl | exact Or.inr (Or.inl rfl) | exact Or.inr (Or.inr rfl)) (hd:(x == ("__debug__" : Str))=false:=by decide) (hcd:(x == ("__classdict__" : Str))=false:=by decide):PE X (.Name x pos) (tVar i):=pe_var hN hv hd hcd
end
theorem iteF {A B:Prop} (h:B):if false=true then A else B:=by
  rw [if_neg Bool.false_ne_true]
  exact h
theorem iteT {A B:Prop} (h:A):if true=true then A else B:=by
  rw [if_pos rfl]
  exact h
theorem ite2 {c A B:Prop} [Decidable c] (h1:c→A) (h2:¬ c→B):if c then A else B:=by
  by_cases h:c
  · rw [if_pos h]
    exact h1 h
  · rw [if_neg h]
    exact h2 h
def Same (H H':Hp):Prop:=∀ b o,H b=some o→H' b=some o
theorem Same.refl (H:Hp):Same H H:=fun _ _ h=>h
theorem Same.trans {H H1 H2:Hp} (a:Same H H1) (b:Same H1 H2):Same H H2:=fun c o h=>b c o (a c o h)
theorem Same.free {H H':Hp} (e:Same H H') {l:Addr} (h:H' l=Option.none):H l=Option.none:=by
  cases q:H l with
  | none=>rfl
  | some o =>
    rw [e l o q] at h
    cases h
end L2
namespace Nd
open PySem PySem.Spec PyProof.Rows L2
def cxComp (X:Cx) (scope:Scope) (cl:List (Str×Addr)) (N:List Str) (fp:List Addr) (s:Shared) (H:Hp):Cx where
  prog:=X.prog
  w:=X.w
  K:=X.K
  mg:=X.mg
  base:=X.base
  A:=X.A
  N:=N
  s₀:=s
  H₀:=H
  env:=compEnvC scope (cellsFrom (s.heap.objs.size+1) scope.names cl) s.heap.objs.size X.env
  outer:=X.stack
  stack:=X.stack
  ex:=fp
  fn:=fun y=>decide (scope.names.lookup y=some NameKind.cell)
  calm:=X.calm
  pn:=[]
  xe:=fun _ _=>False
section
variable {prog:Program} {w:World} {A:Around} {R:Result→Shared→Prop} {s:Shared}
theorem comp_turns {elt tg iter:Expr} {ifs:List Expr} {scope:Scope} {pos:Pos} {it acc:Value} {env:Env} (J:Nat→Shared→Prop) (turn:∀ n s,J n s→wpAny (model prog w) A (pyNext it) (fun r s1=>match r with
        | none=>R (.ok .next) s1
        | some v=>wpAny (model prog w) A (letOwnedTupleGo tg it v) (fun _ s2=>wpAny (model prog w) A (assign tg env v) (fun _ s3 =>
            wpAny (model prog w) A (forIn ifs true fun c r=>if r=true then (do
                let ok ← isTrue c env (eval c env)
                pure (ForInStep.yield ok)) else pure (ForInStep.yield r)) (fun ok s4 =>
              if ok=true then
                wpAny (model prog w) A (eval elt env) (fun x s5=>wpAny (model prog w) A (call (.builtin "list.append") [acc,x]) (fun _ s6=>∃ m,m<n∧J m s6) (fun _ _=>False) s5) (fun _ _=>False) s4
              else ∃ m,m<n∧J m s4) (fun _ _=>False) s3) (fun _ _=>False) s2) (fun _ _=>False) s1) (fun _ _=>False) s)
    (n:Nat) (h:J n s):codeAny (model prog w) A (.compLoop (.ListComp elt [⟨tg,iter,ifs,0⟩] scope pos) 0 it acc env) R s:=by
  refine codeAny_loop rfl J (fun n s hJ=>?_) n h
  show wpAny _ A (Sem.onRaise (compTurn (.ListComp elt [⟨tg,iter,ifs,0⟩] scope pos) 0 it acc env) (fun x=>do noteFrame x env; theTreesLotGoes x)) _ _ s
  refine wpAny_noted ?_
  rw [compTurn_list]
  refine wpAny_bind (wpAny_standAt (wpAny_bind (wpAny_mono (turn n s hJ) (fun r s1 h1=>?_) fun _ _ z=>z.elim)))
  cases r with
  | none=>exact wpAny_pure h1
  | some v =>
    refine wpAny_bind (wpAny_mono h1 (fun _ s2 h2=>?_) fun _ _ z=>z.elim)
    refine wpAny_bind (wpAny_mono h2 (fun _ s3 h3=>?_) fun _ _ z=>z.elim)
    refine wpAny_bind (wpAny_mono h3 (fun ok s4 h4=>?_) fun _ _ z=>z.elim)
    cases ok with
    | false=>exact wpAny_pure ⟨rfl,h4⟩
    | true =>
      refine wpAny_bind (wpAny_bind (wpAny_mono h4 (fun x s5 h5=>?_) fun _ _ z=>z.elim))
      exact wpAny_bind (wpAny_mono h5 (fun _ s6 h6=>wpAny_pure (wpAny_pure ⟨rfl,h6⟩)) fun _ _ z=>z.elim)
end
section
variable {X:Cx} {pins:List (Addr×Obj)} {σ:L2.St} {H:Hp} {s:Shared} {scope:Scope} {cl:List (Str×Addr)} {fp:List Addr} {N:List Str}
def OwnN (scope:Scope) (x:Str):Prop:=scope.names.lookup x=some .local∨scope.names.lookup x=some .cell
structure CompScope (X:Cx) (scope:Scope) (cl:List (Str×Addr)) (x:Str) (ys:List Str) (js:List Nat):Prop where
  clos:closureFor scope X.env=pure cl
  oc:(∀ y∈scope.names,y.2≠.cell)∨∃ z:Str,(∀ n,cellsFrom n scope.names []=[(z,n)])∧scope.names.lookup z=some .cell∧∀ y∈scope.names,y.2=.cell→y.1=z
  kind:scope.kind=.function
  locs:∀ y∈scope.names,y.2=.local→scope.names.lookup y.1=some .local
  own:OwnN scope x
  sub:∀ y c,cl.lookup y=some c→X.env.cells.lookup y=some c
  has_:(scope.names.all fun y=>!(y.2 == NameKind.free) || (cl.lookup y.1).isSome)=true
  nd:(x::ys).Nodup
  len:ys.length=js.length
  at_:∀ (k:Nat) (y:Str) (j:Nat),ys[k]? = some y→js[k]? = some j→X.N[j]? = some y∧scope.names.lookup y=some .free∧(X.env.kindOf y=some .cell∨X.env.kindOf y=some .free)
theorem CompScope.has {x:Str} {ys:List Str} {js:List Nat} (C:CompScope X scope cl x ys js):∀ y∈scope.names,y.2=.free→(cl.lookup y.1).isSome=true:=fun y hy e=>by
  have h:=List.all_eq_true.mp C.has_ y hy
  rw [e] at h
  simpa using h
theorem relabel_lookup {env:Env} {y:Str} {k:NameKind}:∀ {names:List (Str×NameKind)},
    (names.map fun (n,k)=>if (k == NameKind.free && env.scope.kind == .function && env.kindOf n == some .cell) then (n,NameKind.cell) else (n,k)).lookup y=some k →
    ∃ k0,names.lookup y=some k0∧(k=k0∨(k0=.free∧k=.cell))
  | [],h=>by simp at h
  | (n,k0)::r,h=>by
    have ih:=@relabel_lookup env y k r
    rw [List.map_cons] at h
    by_cases hc:(k0 == NameKind.free && env.scope.kind == .function && env.kindOf n == some .cell)=true
    · have h':List.lookup y ((n,NameKind.cell)::(r.map fun (n,k)=>if (k == NameKind.free && env.scope.kind == .function && env.kindOf n == some .cell) then (n,NameKind.cell) else (n,k)))=some k:=by
        simpa [hc] using h
      cases hy:y == n with
      | true =>
        rw [List.lookup_cons,hy] at h'
        have e:k=NameKind.cell:=by simpa using h'.symm
        refine ⟨k0,by rw [List.lookup_cons,hy],.inr ⟨?_,e⟩⟩
        rw [Bool.and_eq_true,Bool.and_eq_true] at hc
        exact eq_of_beq hc.1.1
      | false =>
        rw [List.lookup_cons,hy] at h'
        obtain ⟨q,e1,e2⟩:=ih h'
        exact ⟨q,by rw [List.lookup_cons,hy]; exact e1,e2⟩
    · have h':List.lookup y ((n,k0)::(r.map fun (n,k)=>if (k == NameKind.free && env.scope.kind == .function && env.kindOf n == some .cell) then (n,NameKind.cell) else (n,k)))=some k:=by
        simpa [hc] using h
      cases hy:y == n with
      | true =>
        rw [List.lookup_cons,hy] at h'
        exact ⟨k0,by rw [List.lookup_cons,hy],.inl (by simpa using h'.symm)⟩
      | false =>
        rw [List.lookup_cons,hy] at h'
        obtain ⟨q,e1,e2⟩:=ih h'
        exact ⟨q,by rw [List.lookup_cons,hy]; exact e1,e2⟩
theorem relabel_free {env:Env} {y:Str}:∀ {names:List (Str×NameKind)},names.lookup y=some .free →
    (names.map fun (n,k)=>if (k == NameKind.free && env.scope.kind == .function && env.kindOf n == some .cell) then (n,NameKind.cell) else (n,k)).lookup y=some .cell ∨
    (names.map fun (n,k)=>if (k == NameKind.free && env.scope.kind == .function && env.kindOf n == some .cell) then (n,NameKind.cell) else (n,k)).lookup y=some .free
  | [],h=>by simp at h
  | (n,k0)::r,h=>by
    have ih:=@relabel_free env y r
    show List.lookup y ((if (k0 == NameKind.free && env.scope.kind == .function && env.kindOf n == some .cell)=true then (n,NameKind.cell) else (n,k0))::_)=_∨List.lookup y ((if (k0 == NameKind.free && env.scope.kind == .function && env.kindOf n == some .cell)=true then (n,NameKind.cell) else (n,k0))::_)=_
    by_cases hc:(k0 == NameKind.free && env.scope.kind == .function && env.kindOf n == some .cell)=true
    · rw [if_pos hc]
      cases hy:y == n with
      | true=>exact .inl (by rw [List.lookup_cons,hy])
      | false =>
        rw [List.lookup_cons,hy] at h
        simp only [List.lookup_cons,hy]
        exact ih h
    · rw [if_neg hc]
      cases hy:y == n with
      | true =>
        rw [List.lookup_cons,hy] at h
        exact .inr (by rw [List.lookup_cons,hy]; exact h)
      | false =>
        rw [List.lookup_cons,hy] at h
        simp only [List.lookup_cons,hy]
        exact ih h
theorem lookup_mem {α β:Type} [BEq α] [LawfulBEq α] {y:α} {k:β}:∀ {l:List (α×β)},l.lookup y=some k→(y,k)∈l
  | [],h=>by simp at h
  | (n,v)::r,h=>by
    cases hy:y == n with
    | true =>
      rw [List.lookup_cons,hy] at h
      have e:=eq_of_beq hy
      subst e
      have : v=k:=by simpa using h
      subst this
      exact List.mem_cons_self
    | false =>
      rw [List.lookup_cons,hy] at h
      exact List.mem_cons_of_mem _ (lookup_mem h)
end
theorem no_cell {a c:Nat} (h:c<a) (e:c=a+1):False:=by omega
theorem cellsFrom_app:∀ (names:List (Str×NameKind)) (n:Nat) (acc:List (Str×Addr)),cellsFrom n names acc=cellsFrom n names []++acc
  | [],_,_=>rfl
  | (x,k)::r,n,acc=>by
    unfold cellsFrom
    by_cases h:(k == NameKind.cell)=true
    · rw [if_pos h,if_pos h,cellsFrom_app r _ ((x,n)::acc),cellsFrom_app r _ [(x,n)],List.append_assoc]; rfl
    · rw [if_neg h,if_neg h]; exact cellsFrom_app r n acc
theorem cellsFrom_none:∀ (names:List (Str×NameKind)) (n:Nat) (acc:List (Str×Addr)),(∀ y∈names,y.2≠.cell)→cellsFrom n names acc=acc
  | [],_,_,_=>rfl
  | (x,k)::r,n,acc,h=>by
    unfold cellsFrom
    rw [if_neg (by have:=h (x,k) List.mem_cons_self; simpa using this)]
    exact cellsFrom_none r n acc fun y hy=>h y (List.mem_cons_of_mem _ hy)
theorem relabel_cell {env:Env} {y:Str}:∀ {names:List (Str×NameKind)},names.lookup y=some .cell→(names.map fun (n,k)=>if (k == NameKind.free && env.scope.kind == .function && env.kindOf n == some .cell) then (n,NameKind.cell) else (n,k)).lookup y=some .cell
  | [],h=>by simp at h
  | (n,k0)::r,h=>by
    have ih:=@relabel_cell env y r
    show List.lookup y ((if (k0 == NameKind.free && env.scope.kind == .function && env.kindOf n == some .cell)=true then (n,NameKind.cell) else (n,k0))::_)=_
    by_cases hc:(k0 == NameKind.free && env.scope.kind == .function && env.kindOf n == some .cell)=true
    · rw [if_pos hc]
      cases hy:y == n with
      | true=>rw [List.lookup_cons,hy]
      | false=>rw [List.lookup_cons,hy] at h ⊢; exact ih h
    · rw [if_neg hc]
      cases hy:y == n with
      | true=>rw [List.lookup_cons,hy] at h ⊢; exact h
      | false=>rw [List.lookup_cons,hy] at h ⊢; exact ih h
theorem own_loc {env:Env} {scope:Scope} {x:Str} (o:OwnN scope x):Loc (relabel scope env) x:=o.imp lookup_relabel_local relabel_cell
section
variable {X:Cx} {scope:Scope} {cl:List (Str×Addr)} {x y:Str} {ys:List Str} {js:List Nat} {n c:Nat} {N:List Str} {fp:List Addr} {s:Shared} {H:Hp}
theorem own_fn (o:OwnN scope x):(cxComp X scope cl N fp s H).fn x=true∨(cxComp X scope cl N fp s H).env.scope.names.lookup x=some .local:=by
  rcases o with o | o
  · exact .inr (lookup_relabel_local o)
  · exact .inl (decide_eq_true o)
theorem CompScope.split (C:CompScope X scope cl x ys js) (h:(cellsFrom n scope.names cl).lookup y=some c):cl.lookup y=some c∨(c=n∧cellsFrom 0 scope.names []=[(y,0)]∧cellsFrom n scope.names []=[(y,n)]∧scope.names.lookup y=some .cell):=by
  rcases C.oc with o | ⟨z,o1,o2,_⟩
  · rw [cellsFrom_none _ _ _ o] at h; exact .inl h
  · rw [cellsFrom_app,o1] at h
    have h2:List.lookup y ((z,n)::cl)=some c:=h
    rw [List.lookup_cons] at h2
    cases e:y == z with
    | true =>
      rw [e] at h2
      have ec:c=n:=(Option.some.inj h2).symm
      have ey:=eq_of_beq e
      subst ey
      exact .inr ⟨ec,o1 0,o1 n,o2⟩
    | false=>rw [e] at h2; exact .inl h2
theorem CompScope.find (C:CompScope X scope cl x ys js) (h:cl.lookup y=some c) (hy:scope.names.lookup y=some .free):(cellsFrom n scope.names cl).lookup y=some c:=by
  rcases C.oc with o | ⟨z,o1,o2,_⟩
  · rw [cellsFrom_none _ _ _ o]; exact h
  · rw [cellsFrom_app,o1]
    show List.lookup y ((z,n)::cl)=some c
    rw [List.lookup_cons]
    cases e:y == z with
    | true=>rw [eq_of_beq e,o2] at hy; cases hy
    | false=>exact h
theorem CompScope.cellAt (C:CompScope X scope cl x ys js) (hy:(y,NameKind.cell)∈scope.names):(cellsFrom n scope.names cl).lookup y=some n:=by
  rcases C.oc with o | ⟨z,o1,o2,o3⟩
  · exact absurd rfl (o _ hy)
  · have ez:y=z:=o3 _ hy rfl
    subst ez
    rw [cellsFrom_app,o1]
    show List.lookup y ((y,n)::cl)=some n
    rw [List.lookup_cons,beq_self_eq_true]
theorem new_block {M:Model} {A:Around} {E:Value→Shared→Prop} {Q:Env→Shared→Prop} (C:CompScope X scope cl x ys js) (hQ:∀ h4,h4.Ns s.heap.objs.size (fun _=>none)→(∀ b u,s.heap.get? b=some u→h4.get? b=some u)→(∀ z n,cellsFrom (s.heap.objs.size+1) scope.names []=[(z,n)]→h4.IsCell n none)→Q (newEnv scope s.heap.objs.size X.env.globals (cellsFrom (s.heap.objs.size+1) scope.names cl) X.env.qual none .none (some X.env) builtinsNs) { s with heap:=h4,toks:=s.toks+([]:List (Str×Value)).length }):wpAny M A (newFunctionEnv scope X.env.globals cl [] X.env.qual none .none (some X.env)) Q E s:=by
  simp only [newFunctionEnv,Option.isSome_some,if_true]
  refine wpAny_bind (wpAny_alloc (wpAny_bind (wpAny_layCells _ (fun x k cs=>by cases e:k == NameKind.cell <;> simp [e]) _ _ _ _ ?_)))
  have hsz:({ s with heap:=s.heap.push { cls:=.type "dict",data:=.dict #[] } }:Shared).heap.objs.size=s.heap.objs.size+1:=Heap.size_push ..
  rw [hsz]
  refine wpAny_bind (wpAny_pure (wpAny_pure (hQ _ ((Heap.Ns.new s.heap (.type "dict")).keeps (pushCells_keeps _ _)) (fun b u e=>pushCells_keeps _ _ b u (Heap.get?_push_of_some _ e)) fun z n e=>?_)))
  have ok:=(cellsFrom_ok scope.names (s.heap.push { cls:=.type "dict",data:=.dict #[] }) 0 [] ⟨fun _ _ hm=>(nomatch hm),List.Pairwise.nil⟩ (Nat.zero_le _)).empty z n
  rw [show (s.heap.push { cls:=.type "dict",data:=.dict #[] }).objs.size=s.heap.objs.size+1 from hsz,e] at ok
  exact (ok (List.mem_singleton.mpr rfl)).1
end
section
variable {X:Cx} {pins:List (Addr×Obj)} {σ:L2.St} {H:Hp} {s:Shared} {scope:Scope} {cl:List (Str×Addr)} {fp:List Addr} {N:List Str}
theorem comp_ok {x:Str} {ys:List Str} {js:List Nat} (C:CompScope X scope cl x ys js) (I:Inv X pins σ H s) (hf:∀ b∈fp,FpOk X pins H b) (ho:∀ b∈fp,∃ o,s.heap.get? b=some o):(cxComp X scope cl N fp s H).Ok where
  mod:=I.ok.mod
  kind:=C.kind
  glob:=I.ok.glob
  blt:=I.ok.blt
  above:=Nat.le_refl _
  inj:=fun y z c h1 h2=>by
    have lt:∀ y,cl.lookup y=some c→c<s.heap.objs.size:=fun y e=>let ⟨_,q⟩:=I.cell y c (C.sub y c e); q.lt
    rcases C.split h1 with h1 | ⟨e1,a1,_⟩
    · rcases C.split h2 with h2 | ⟨e2,_⟩
      · exact I.ok.inj y z c (C.sub y c h1) (C.sub z c h2)
      · exact (no_cell (lt y h1) e2).elim
    · rcases C.split h2 with h2 | ⟨e2,a2,_⟩
      · exact (no_cell (lt z h2) e1).elim
      · rw [a1] at a2
        simpa using a2
  has:=fun y hy=>by
    have key:∀ k,(k=NameKind.cell∨k=NameKind.free)→(compEnvC scope cl s.heap.objs.size X.env).kindOf y=some k→∃ c,(cellsFrom (s.heap.objs.size+1) scope.names cl).lookup y=some c:=by
      intro k hk e
      obtain ⟨k0,e0,e1⟩:=relabel_lookup (names:=scope.names) (env:=X.env) (y:=y) (k:=k) e
      have m:=lookup_mem e0
      by_cases hk0:k0=.cell
      · exact ⟨_,C.cellAt (hk0▸m)⟩
      have hfree:k0=.free:=by
        rcases e1 with e1 | e1
        · subst e1
          rcases hk with hk | hk
          · exact absurd hk hk0
          · exact hk
        · exact e1.1
      obtain ⟨c,hc⟩:=Option.isSome_iff_exists.mp (C.has _ m hfree)
      exact ⟨c,C.find hc (hfree▸e0)⟩
    rcases hy with hy | hy
    · exact key _ (.inl rfl) hy
    · exact key _ (.inr rfl) hy
  cab:=fun y c h e=>by
    have h:scope.names.lookup y=some .cell:=of_decide_eq_true h
    have:=(C.cellAt (n:=s.heap.objs.size+1) (lookup_mem h)).symm.trans e
    show s.heap.objs.size≤c
    have:=Option.some.inj this
    omega
  hd:=I.ok.hd
  frames:=I.ok.frames
  stk:=.inl rfl
  exf:=fun b hb=>by
    obtain ⟨o,e⟩:=ho b hb
    refine ⟨Nat.ne_of_lt (Heap.lt_size e),fun y c hc=>?_⟩
    rcases C.split hc with hc | ⟨hc,_⟩
    · exact (hf b hb).2.2.2.2.1 y c (C.sub y c hc)
    · exact fun z=>no_cell (Heap.lt_size e) (z.symm.trans hc)
  bs:=I.bs
  bsz:=Nat.le_trans I.ok.bsz I.sz
  noex:=fun b o e hb=>by
    rcases (hf b hb).2.2.2.1 with z | z
    · exact I.ok.noex b o e z
    · exact absurd (Nat.lt_of_lt_of_le (Heap.lt_size (I.ok.bs b o e).1) z) (Nat.lt_irrefl _)
  exfs:=fun b hb z=>by
    rcases List.mem_cons.mp (I.stkSub b z) with e | e
    · exact (hf b hb).2.1 e
    · exact (hf b hb).2.2.1 e
  funs:=I.stack
  frf:=I.stkFree
def frees (σ:L2.St) (js:List Nat):L2.St:=js.map fun j=>(σ[j]?).join
theorem comp_start {x:Str} {pre ys:List Str} {js:List Nat} {h1:Heap} {tk:Nat} {m1:Str→Option Value} (C:CompScope X scope cl x ys js) (I:Inv X pins σ H s) (hf:∀ b∈fp,FpOk X pins H b) (ho:∀ b∈fp,∃ o,s.heap.get? b=some o) (hns:h1.Ns s.heap.objs.size m1) (keep:∀ b u,s.heap.get? b=some u→h1.get? b=some u) (new:∀ z n,cellsFrom (s.heap.objs.size+1) scope.names []=[(z,n)]→h1.IsCell n none):Inv (cxComp X scope cl (pre++ys) fp s H) [] (pre.map (fun _=>none)++frees σ js) H { s with heap:=h1,toks:=tk }:=by
  have cellK:∀ y c,cl.lookup y=some c→∃ v,s.heap.IsCell c v∧h1.IsCell c v:=fun y c e=>by
    obtain ⟨v,o,q,d⟩:=I.cell y c (C.sub y c e)
    exact ⟨v,⟨o,q,d⟩,o,keep c o q,d⟩
  refine ⟨comp_ok C I hf ho,rfl,I.bare,Un.kept keep,⟨m1,hns,fun i y v e1 e2 _=>?_⟩,fun y c e=>?_,I.hok.fresh (Nat.le_refl _),fun y c e=>?_,fun p hp=>?_,I.hok.kept keep,?_⟩
  · have e2:(pre.map (fun _=>(none:Option V))++frees σ js)[i]? = some (some v):=e2
    have e1:(pre++ys)[i]? = some y:=e1
    by_cases hi:i<pre.length
    · rw [List.getElem?_append_left (by rw [List.length_map]; exact hi),List.getElem?_map] at e2
      cases q:pre[i]? with
      | none=>rw [q] at e2; cases e2
      | some z=>rw [q] at e2; cases e2
    · rw [List.getElem?_append_right (by rw [List.length_map]; omega),List.length_map] at e2
      rw [List.getElem?_append_right (by omega)] at e1
      have e1':=e1
      have e2':=e2
      generalize i - pre.length=k at e1' e2'
      unfold frees at e2'
      rw [List.getElem?_map] at e2'
      cases ej:js[k]? with
      | none=>rw [ej] at e2'; simp at e2'
      | some j =>
        rw [ej] at e2'
        have e3:(σ[j]?).join=some v:=by simpa using e2'
        have e4:σ[j]? = some (some v):=by
          cases q:σ[j]? with
          | none=>rw [q] at e3; simp at e3
          | some z=>rw [q] at e3; simp at e3; rw [e3]
        obtain ⟨a1,a2,a3⟩:=C.at_ k y j e1' ej
        obtain ⟨m0,_,hl⟩:=I.loc
        have vis:Vis X.env.scope y:=a3.elim (fun a3=>.inr (.inl a3)) fun a3=>.inr (.inr a3)
        obtain ⟨u,r,l⟩:=hl j y v a1 e4 vis
        refine ⟨u,r,?_⟩
        rcases l with ⟨k1,_⟩ | ⟨_,c,hc,hv⟩
        · rcases a3 with a3 | a3 <;> rw [k1] at a3 <;> cases a3
        · obtain ⟨c',hc'⟩:=Option.isSome_iff_exists.mp (C.has _ (lookup_mem a2) rfl)
          have ec:c'=c:=by
            have:=C.sub y c' hc'
            rw [hc] at this
            exact (Option.some.inj this).symm
          subst ec
          obtain ⟨o,q,d⟩:=hv
          exact .inr ⟨relabel_free a2,c',C.find hc' a2,o,keep c' o q,d⟩
  · rcases C.split e with e | ⟨e,_,e',_⟩
    · obtain ⟨v,_,z⟩:=cellK y c e
      exact ⟨v,z⟩
    · exact ⟨_,e▸new _ _ e'⟩
  · rcases C.split e with e | ⟨e,_⟩
    · exact I.freeC y c (C.sub y c e)
    · exact I.hok.fresh (by omega)
  · cases (show p∈([]:List (Addr×Obj)) from hp)
  · show (pre.map (fun _=>(none:Option V))++frees σ js).length=(pre++ys).length
    simp [frees,C.len]
end
section
variable {X:Cx}
def CompW (J:It) (js:List Nat) (tc:TT) (te:TE) (σ:L2.St) (H1:Hp) (Q:VK):Prop:=∀ D,H1 D=none→∃ W:Nat→Nat→Hp→Prop,(∃ m,W 0 m (upd H1 D (.lst [])))∧∀ i m H,W i m H →
  (J.stop i H∧Q (.ref D) H)∨(J.go i H∧∀ x H',J.yld i H x H'→∃ (N1:Hp→Prop) (N2:VK),(∀ H2,N1 H2→∃ m',m'<m∧W (i+1) m' H2) ∧
    (∀ y H3,N2 y H3→∃ acc,H3 D=some (.lst acc)∧acc.length<sizeLine∧∃ m',m'<m∧W (i+1) m' (upd H3 D (.lst (acc++[y])))) ∧
    tc (some x::frees σ js) H' fun c H2=>if c=true then te (some x::frees σ js) H2 N2 else N1 H2)
def tComp (wi:TI) (js:List Nat) (tc:TT) (te:TE):TE:=fun σ H Q=>wi σ H fun J H1=>CompW J js tc te σ H1 Q
def tNoTest:TT:=fun _ H Q=>Q true H
def PTs (X:Cx) (ifs:List Expr) (t:TT):Prop :=
  ∀ (pins:List (Addr×Obj)) (s:Shared) (σ:L2.St) (H:Hp) (Q:Bool→Hp→Prop),Inv X pins σ H s→t σ H Q →
    wpAny (model X.prog X.w) X.A (forIn ifs true fun c r=>if r=true then (do
      let ok ← isTrue c X.env (eval c X.env)
      pure (ForInStep.yield ok)) else pure (ForInStep.yield r)) (TP X pins σ Q) X.xe s
theorem pts_none:PTs X [] tNoTest:=fun pins s σ H Q I h=>wpAny_tests_nil ⟨H,I,h⟩
theorem pts_one {c:Expr} {t:TT} (h:PT X c t):PTs X [c] t:=fun pins s σ H Q I q=>wpAny_tests_one (h pins s σ H Q I q)
theorem pe_comp {elt iter:Expr} {x:Str} {px pos:Pos} {ifs:List Expr} {scope:Scope} {cl:List (Str×Addr)} {ys:List Str} {js:List Nat} {wi:TI} {tc:TT} {te:TE} (C:CompScope X scope cl x ys js) (hc:X.calm=true) (hi:PI X (.Name x px) iter wi) (ht:∀ fp s H,PTs (cxComp X scope cl (x::ys) fp s H) ifs tc) (he:∀ fp s H,PE (cxComp X scope cl (x::ys) fp s H) elt te) (hs:∀ x,foldedSetIterable iter X.env x=pure x:=by intro _; rfl):PE X (.ListComp elt [⟨.Name x px,iter,ifs,0⟩] scope pos) (tComp wi js tc te):=by
  intro pins s σ H Q I h
  rw [eval_ListComp]
  refine wpAny_comprehension_free (use:=none) rfl hs C.clos C.kind C.locs (thn (hi pins s σ H _ I h) fun v s1 h1=>thn h1 fun itv s2 h2=>?_)
  obtain ⟨it,fp,tn,J,H2,e,I2,T,st2,f2,q2⟩:=h2
  subst e
  have fD:H2 s2.heap.objs.size=none:=I2.hok.fresh (Nat.le_refl _)
  obtain ⟨W,⟨m0,w0⟩,turn⟩:=q2 s2.heap.objs.size fD
  refine wpAny_newObj_type ?_
  have I3:Inv X pins σ (upd H2 s2.heap.objs.size (.lst [])) { s2 with heap:=s2.heap.push { cls:=.type "list",dict:=none,data:=.seq ([]:List Value).toArray } } :=
    I2.laid (t':=s2.toks) (fun b u q=>Heap.get?_push_of_some _ q) (Nat.le_refl _) ⟨Nat.zero_le _,[],0,.nil,Heap.get?_push_size _ rfl⟩
  have nfp:∀ b∈fp,b≠s2.heap.objs.size:=fun b hb z=>by
    obtain ⟨o,q,_⟩:=T.obj _ _ st2 b hb
    have:=Heap.lt_size q
    rw [z] at this
    exact absurd this (Nat.lt_irrefl _)
  have f3:∀ b∈fp,FpOk X pins (upd H2 s2.heap.objs.size (.lst [])) b:=fun b hb=>⟨by rw [upd_ne (nfp b hb)]; exact (f2 b hb).1,(f2 b hb).2⟩
  generalize hS3:({ s2 with heap:=s2.heap.push { cls:=.type "list",dict:=none,data:=.seq ([]:List Value).toArray } }:Shared)=s3 at I3
  have st3:tn 0 s3.heap:=T.keep 0 _ _ st2 fun b hb o q=>by rw [← hS3]; exact Heap.get?_push_of_some _ q
  have o3:∀ b∈fp,∃ o,s3.heap.get? b=some o:=fun b hb=>let ⟨o,q,_⟩:=T.obj _ _ st3 b hb; ⟨o,q⟩
  show wpAny _ _ (newFunctionEnv scope X.env.globals cl [] X.env.qual none .none (some X.env)) _ _ _
  refine new_block C fun h4 hns4 keep4 new4=>?_
  have I4:∀ tk,Inv (cxComp X scope cl (x::ys) fp s3 (upd H2 s2.heap.objs.size (.lst []))) [] (none::frees σ js) (upd H2 s2.heap.objs.size (.lst [])) { s3 with heap:=h4,toks:=tk }:=fun tk=>comp_start (pre:=[x]) C I3 f3 o3 hns4 keep4 new4
  have st4:tn 0 h4:=T.keep 0 _ _ st3 fun b hb o q=>keep4 b o q
  generalize hX':cxComp X scope cl (x::ys) fp s3 (upd H2 s2.heap.objs.size (.lst []))=X' at I4
  have eP:X'.prog=X.prog:=by rw [← hX']; rfl
  have eW:X'.w=X.w:=by rw [← hX']; rfl
  have eK:X'.K=X.K:=by rw [← hX']; rfl
  have eA:X'.A=X.A:=by rw [← hX']; rfl
  have eC:X'.calm=true:=by rw [← hX']; exact hc
  have stat:∀ {H':Hp},(∀ b∈fp,H' b=none)→∀ b∈fp,FpOk X' [] H' b:=fun {H'} hn b hb=>by
    have ok:=(I4 0).ok
    have hex:b∈X'.ex:=by rw [← hX']; exact hb
    exact ⟨hn b hb,(ok.exf b hex).1,ok.exfs b hex,.inl hex,(ok.exf b hex).2,fun p hp=>by rw [← hX'] at hp; cases (show p∈([]:List (Addr×Obj)) from hp)⟩
  have loop:∀ s5:Shared,s5={ s3 with heap:=h4,toks:=s3.toks+([]:List (Str×Value)).length } →
      codeAny (model X.prog X.w) X.A (.compLoop (.ListComp elt [⟨.Name x px,iter,ifs,0⟩] scope pos) 0 (.ref it) (.ref s2.heap.objs.size) (compEnvC scope (cellsFrom (s3.heap.objs.size+1) scope.names cl) s3.heap.objs.size X.env))
        (compPost (model X.prog X.w) X.A X.xe none (EP X pins σ Q) (.ref s2.heap.objs.size) s3.heap.objs.size) s5:=by
    rintro s5 rfl
    refine comp_turns (fun n s'=>∃ i o H',Inv X' [] (o::frees σ js) H' s'∧tn i s'.heap∧(∀ b∈fp,H' b=none)∧W i n H') ?_ m0
      ⟨0,none,_,I4 _,st4,fun b hb=>(f3 b hb).1,w0⟩
    rintro n s6 ⟨i,o,H6,I6,st6,fr6,w6⟩
    rcases turn i n H6 w6 with ⟨stop,qn⟩ | ⟨go,step⟩
    · have hd:=T.done X' eP eW eK eC i [] s6 _ H6 (fun _ _=>False) I6 (stat fr6) st6 stop
      rw [eA] at hd
      refine thn hd fun r s7 ⟨hr,I7⟩=>?_
      subst hr
      obtain ⟨m7,hn7,_⟩:=I7.loc
      have hn7':s7.heap.Ns s3.heap.objs.size m7:=by rw [← hX'] at hn7; exact hn7
      refine ⟨m7,hn7',fun h8 hs8=>?_⟩
      have I7f:H6 s3.heap.objs.size=none:=by have:=I7.free; rw [← hX'] at this; exact this
      have b7:Un (frs X.stack) fp (upd H2 s2.heap.objs.size (.lst [])) H6 s3.heap s7.heap:=by have:=I7.base; rw [← hX'] at this; exact this
      have ne8:∀ b o,s3.heap.get? b=some o→b≠s3.heap.objs.size:=fun b o q=>Nat.ne_of_lt (Heap.lt_size q)
      have u8:Un (frs X.stack) fp (upd H2 s2.heap.objs.size (.lst [])) H6 s3.heap h8:=by
        refine ⟨fun b o q n hb hx=>(hs8.2 b (ne8 b o q)).trans (b7.keep b o q n hb hx),fun b o q n hb hx=>?_,b7.free,fun b o q hx=>?_,b7.tups,b7.frzs,b7.tbls⟩
        · obtain ⟨sl,z⟩:=b7.slot b o q n hb hx
          exact ⟨sl,(hs8.2 b (ne8 b o q)).trans z⟩
        · obtain ⟨o',z⟩:=b7.there b o q hx
          exact ⟨o',(hs8.2 b (ne8 b o q)).trans z⟩
      have hok8:HOk X.prog X.w H6 h8:=fun b ob e=>by
        have hk7:=I7.hok
        rw [eP,eW] at hk7
        refine (hk7 b ob e).stay (fun c w' hcc q=>(hs8.2 c ?_).trans q) (fun _ q=>q) fun _ _ q=>q
        rintro rfl
        rcases hcc with rfl | hcc
        · rw [I7f] at e; cases e
        · rw [I7f] at hcc; cases hcc
      have os7:s7.os=s3.os:=by have:=I7.os; rw [← hX'] at this; exact this
      exact ⟨.ref s2.heap.objs.size,H6,I3.call' (s':={ s7 with heap:=h8 }) (ch:=fp) os7 u8 hok8 I7.bare (fun b hb=>⟨(f3 b hb).2.2.2.1,(f3 b hb).2.1,(f3 b hb).2.2.2.2.1,(f3 b hb).2.2.2.2.2⟩),rfl,qn⟩
    · have hit:=T.item X' eP eW eK eC i [] s6 _ H6 (fun _ _=>False) I6 (stat fr6) st6 go
      rw [eA] at hit
      refine thn hit fun r s7 ⟨u,hr,h7⟩=>?_
      subst hr
      refine thn h7 fun _ s8 ⟨y,H8,I8,r8,y8,st8,fr8⟩=>?_
      have I8':=I8.pinned (stat fr8) (T.obj _ _ st8)
      obtain ⟨N1,N2,hN1,hN2,hst⟩:=step y H8 y8
      have again:∀ {H9:Hp} {s9:Shared} {m':Nat},Inv X' ([]++pinsAt fp s8.heap) (some y::frees σ js) H9 s9→m'<n→W (i+1) m' H9→∃ m,m<n∧∃ i o H',Inv X' [] (o::frees σ js) H' s9∧tn i s9.heap∧(∀ b∈fp,H' b=none)∧W i m H':=fun {H9 s9 m'} I9 hm w9=>by
        refine ⟨m',hm,i+1,some y,H9,I9.unpinned,T.keep _ _ _ st8 fun b hb o e=>(I9.pin (b,o) (List.mem_append_right _ (List.mem_append_right _ (mem_pinsAt hb e)))).1,fun b hb=>?_,w9⟩
        obtain ⟨o,e,_⟩:=T.obj _ _ st8 b hb
        exact (I9.pin (b,o) (List.mem_append_right _ (List.mem_append_right _ (mem_pinsAt hb e)))).2.1
      subst hX'
      refine thn (pg_name (i:=0) (x:=x) (pos:=px) C.nd rfl (own_loc C.own) (own_fn C.own) _ s8 _ H8 y u (fun σ' H'=>σ'=some y::frees σ js∧H'=H8) I8' r8 ⟨rfl,rfl⟩) fun _ s9 ⟨σ9,H9,I9,e9,e9'⟩=>?_
      subst e9 e9'
      refine thn (ht fp s3 _ _ s9 _ _ _ I9 hst) fun ok s10 ⟨H10,I10,q10⟩=>?_
      cases ok with
      | false =>
        rw [if_neg Bool.false_ne_true] at q10 ⊢
        obtain ⟨m',hm,w10⟩:=hN1 _ q10
        exact again I10 hm w10
      | true =>
        rw [if_pos rfl] at q10 ⊢
        refine thn (he fp s3 _ _ s10 _ _ _ I10 q10) fun z s11 ⟨vz,H11,I11,r11,q11⟩=>?_
        obtain ⟨acc,ha,hz,m',hm,w11⟩:=hN2 _ _ q11
        refine thn (mt_append _ s11 _ H11 (.ref s2.heap.objs.size) [vz] (.ref s2.heap.objs.size) [z] (fun _ H'=>H'=upd H11 s2.heap.objs.size (.lst (acc++[vz]))) I11 rfl (.cons r11 .nil) ⟨_,acc,vz,rfl,rfl,ha,hz,rfl⟩) fun _ s12 ⟨_,H12,I12,_,e12⟩=>?_
        subst e12
        exact again I12 hm w11
  exact codeAny_compStart_list (loop _ rfl) (T.self X.A 0 _ _ _ st4 (loop _ rfl))
end
theorem same_new {H:Hp} {p:Addr} (h:H p=none) (o:HO):Same H (upd H p o):=fun b u q=>by rw [upd_ne (ne_of_none q h)]; exact q
theorem take_more {α:Type} {xs:List α} {i:Nat} {x:α} (h:xs[i]? = some x):xs.take (i+1)=xs.take i++[x]:=by
  rw [List.take_succ,h]; rfl
end Nd
namespace Nd
open PySem PySem.Spec PyProof.Rows L2
mutual
inductive RdV (K:PySem.W.Frag) (H:Hp):V→PyData→Prop
  | non:RdV K H .non .none
  | bl (b:Bool):RdV K H (.bl b) (.bool b)
  | int (i:Int):RdV K H (.int i) (.int i)
  | str (x:Str):RdV K H (.str x) (.str x)
  | lst {a:Addr} {xs:List V} {ds:List PyData}:SqL K H a xs→RdVs K H xs ds→RdV K H (.ref a) (.list ds)
  | tup {a:Addr} {xs:List V} {ds:List PyData}:SqT K H a xs→RdVs K H xs ds→RdV K H (.ref a) (.tuple ds)
inductive RdVs (K:PySem.W.Frag) (H:Hp):List V→List PyData→Prop
  | nil:RdVs K H [] []
  | cons {x:V} {d:PyData} {xs:List V} {ds:List PyData}:RdV K H x d→RdVs K H xs ds→RdVs K H (x::xs) (d::ds)
end
section
variable {X:Cx} {pins:List (Addr×Obj)} {σ:L2.St} {H H':Hp} {s:Shared} {K:PySem.W.Frag}
mutual
theorem RdV.reads (I:Inv X pins σ H s):∀ {v:V} {d:PyData} {u:Value},RdV X.K H v d→RelV v u→∃ as,Reads s.heap u d as
  | _,_,_,.non,r=>by cases r; exact ⟨_,.none⟩
  | _,_,_,.bl b,r=>by cases r; exact ⟨_,.bool b⟩
  | _,_,_,.int i,r=>by obtain ⟨t,rfl⟩:=r; exact ⟨_,.int i t⟩
  | _,_,_,.str x,r=>by obtain ⟨t,rfl⟩:=r; exact ⟨_,.str x t⟩
  | _,_,_,.lst h hs,r=>by
    cases r
    obtain ⟨its,rv,⟨o,n,e,hc,_,hd⟩,_⟩:=I.list h
    obtain ⟨as,ra⟩:=RdVs.reads I hs rv
    exact ⟨_,.list e hc hd (by simpa using ra)⟩
  | _,_,_,.tup h hs,r=>by
    cases r
    obtain ⟨its,rv,⟨o,e,hc,n,hd⟩,_⟩:=I.tuple h
    obtain ⟨as,ra⟩:=RdVs.reads I hs rv
    exact ⟨_,.tuple e hc hd (by simpa using ra)⟩
theorem RdVs.reads (I:Inv X pins σ H s):∀ {vs:List V} {ds:List PyData} {us:List Value},RdVs X.K H vs ds→Vals vs us→∃ as,ReadsAll s.heap us ds as
  | _,_,_,.nil,r=>by cases r; exact ⟨_,.nil⟩
  | _,_,_,.cons h hs,r=>by
    cases r with
    | cons r rs =>
      obtain ⟨as,ra⟩:=RdV.reads I h r
      obtain ⟨bs,rb⟩:=RdVs.reads I hs rs
      exact ⟨_,.cons ra rb⟩
end
mutual
theorem RdV.noDict:∀ {v:V} {d:PyData},RdV K H v d→d.hasDict=false
  | _,_,.non=>by simp only [PyData.hasDict]
  | _,_,.bl b=>by simp only [PyData.hasDict]
  | _,_,.int i=>by simp only [PyData.hasDict]
  | _,_,.str x=>by simp only [PyData.hasDict]
  | _,_,.lst h hs=>by simp only [PyData.hasDict]; exact RdVs.noDict hs
  | _,_,.tup h hs=>by simp only [PyData.hasDict]; exact RdVs.noDict hs
theorem RdVs.noDict:∀ {vs:List V} {ds:List PyData},RdVs K H vs ds→PyData.hasDictAll ds=false
  | _,_,.nil=>by simp only [PyData.hasDictAll]
  | _,_,.cons h hs=>by simp only [PyData.hasDictAll,RdV.noDict h,RdVs.noDict hs,Bool.or_self]
end
end
mutual
def Fits (b:Nat):PyData→Prop
  | .none=>True
  | .bool _=>True
  | .int i=>i.natAbs<10 ^ b
  | .str x=>(reprText x).length≤b
  | .list xs=>FitsAll b xs
  | .tuple xs=>FitsAll b xs
  | .dict _=>False
def FitsAll (b:Nat):List PyData→Prop
  | []=>True
  | x::xs=>Fits b x∧FitsAll b xs
end
mutual
def nodes:PyData→Nat
  | .list xs=>nodesAll xs+1
  | .tuple xs=>nodesAll xs+1
  | _=>1
def nodesAll:List PyData→Nat
  | []=>0
  | x::xs=>nodes x+nodesAll xs
end
theorem fitsAll_iff {b:Nat}:∀ {xs:List PyData},FitsAll b xs↔∀ x∈xs,Fits b x
  | []=>by simp [FitsAll]
  | x::xs=>by simp only [FitsAll,List.mem_cons,forall_eq_or_imp,fitsAll_iff (xs:=xs)]
theorem nodesAll_le {m:Nat}:∀ {xs:List PyData},(∀ x∈xs,nodes x≤m)→nodesAll xs≤m * xs.length
  | [],_=>by simp [nodesAll]
  | x::xs,h=>by
    have h1:=h x (List.mem_cons_self ..)
    have h2:=nodesAll_le (xs:=xs) fun y hy=>h y (List.mem_cons_of_mem _ hy)
    simp only [nodesAll,List.length_cons,Nat.mul_add,Nat.mul_one]
    omega
theorem nodes_ints (ns:List Int):nodesAll (ns.map PyData.int)=ns.length:=by
  induction ns with
  | nil=>rfl
  | cons n ns ih=>simp only [List.map_cons,nodesAll,nodes,ih,List.length_cons]; omega
theorem depth_ints (ns:List Int):PyData.depthAll (ns.map PyData.int)=0:=by
  induction ns with
  | nil=>rfl
  | cons n ns ih=>simp only [List.map_cons,PyData.depthAll,PyData.depth,ih,Nat.max_self]
theorem depthAll_le {m:Nat}:∀ {xs:List PyData},(∀ x∈xs,x.depth≤m)→PyData.depthAll xs≤m
  | [],_=>by simp [PyData.depthAll]
  | x::xs,h=>by
    have h1:=h x (List.mem_cons_self ..)
    have h2:=depthAll_le (xs:=xs) fun y hy=>h y (List.mem_cons_of_mem _ hy)
    simp only [PyData.depthAll]
    omega
theorem listText_le (ts:List Str):(listText ts).length≤piled ts+2:=by
  cases ts with
  | nil=>rw [listText_nil]; decide
  | cons t r =>
    have h:=textFrom_length_pos r 1 (("[" : Str)++(if (0:Nat) > 0 then ", " else "" : String)++t) (Nat.succ_pos 0)
    have e:((("[" : Str)++(if (0:Nat) > 0 then ", " else "" : String)++t)).length=1+t.length:=by
      rw [strLen_append,strLen_append]; rfl
    have hX:(listText (t::r)).length=(textFrom 0 "[" (t::r)).length+1:=by
      show (textFrom 0 "[" (t::r) ++ "]").length=_
      rw [strLen_append]; rfl
    have hY:(textFrom 0 "[" (t::r)).length=(textFrom 1 (("[" : Str)++(if (0:Nat) > 0 then ", " else "" : String)++t) r).length:=rfl
    rw [hX,hY,h,e,piled_cons]; omega
theorem tupleText_le (ts:List Str):(tupleText ts).length≤piled ts+3:=by
  unfold tupleText
  rw [strLen_append,strLen_append]
  have e1:((("(" : String):Str)).length=1:=rfl
  have e3:(((if ts.length == 1 then ",)" else ")" : String):Str)).length≤2:=by split <;> decide
  rw [e1]
  by_cases h:ts=[]
  · subst h
    have : (Str.join ", " []).length=0:=rfl
    omega
  · have:=join_length_add ts h
    omega
mutual
theorem shown_le {b:Nat}:∀ {d:PyData},Fits b d→d.shown.length+4≤(b+12) * nodes d
  | .none,_=>by simp only [PyData.shown,nodes]; show 4+4≤_; omega
  | .bool c,_=>by
    simp only [PyData.shown,nodes]
    cases c
    · show 5+4≤_; omega
    · show 4+4≤_; omega
  | .int i,h=>by
    simp only [PyData.shown,nodes]
    have h':i.natAbs<10 ^ b:=by simpa only [Fits] using h
    have h2:i.natAbs<10 ^ (b+1):=Nat.lt_of_lt_of_le h' (Nat.pow_le_pow_right (by decide) (by omega))
    have h3:(Str.ofString (toString i)).length≤b+2:=by
      have h4:=int_text_length_le10 (a:=i) (k:=b+1) (by omega) h2
      have h5:(Str.ofString (toString i)).length=(toString i).length:=PySem.ofString_length _
      omega
    have h6:((toString i:String):Str).length=(Str.ofString (toString i)).length:=rfl
    omega
  | .str x,h=>by
    simp only [PyData.shown,nodes]
    have h':(reprText x).length≤b:=by simpa only [Fits] using h
    omega
  | .list xs,h=>by
    simp only [PyData.shown,nodes]
    have h1:=shownAll_le (b:=b) (xs:=xs) (by simpa only [Fits] using h)
    have h2:=listText_le (PyData.shownAll xs)
    rw [Nat.mul_add]
    omega
  | .tuple xs,h=>by
    simp only [PyData.shown,nodes]
    have h1:=shownAll_le (b:=b) (xs:=xs) (by simpa only [Fits] using h)
    have h2:=tupleText_le (PyData.shownAll xs)
    rw [Nat.mul_add]
    omega
  | .dict kvs,h=>by simp only [Fits] at h
theorem shownAll_le {b:Nat}:∀ {xs:List PyData},FitsAll b xs→piled (PyData.shownAll xs)≤(b+12) * nodesAll xs
  | [],_=>by simp only [PyData.shownAll,nodesAll,piled_nil]; omega
  | x::xs,h=>by
    simp only [FitsAll] at h
    have h1:=shown_le h.1
    have h2:=shownAll_le h.2
    simp only [PyData.shownAll,nodesAll,piled_cons]
    rw [Nat.mul_add]
    omega
end
theorem small_log {b i:Nat} (hb:b≤400) (h:i<10 ^ b):i.log2<1920:=by
  have h1:i<2 ^ 1920:=Nat.lt_of_lt_of_le h (Nat.le_trans (Nat.pow_le_pow_right (by decide) hb) (by decide +kernel))
  by_cases z:i=0
  · subst z; decide
  · exact (Nat.log2_lt z).mpr h1
mutual
theorem showable_of {b:Nat} (hb:b≤400):∀ {d:PyData},Fits b d→d.showable=true
  | .none,_=>by simp only [PyData.showable]
  | .bool c,_=>by simp only [PyData.showable]
  | .int i,h=>by
    simp only [PyData.showable]
    exact decide_eq_true (small_log hb (by simpa only [Fits] using h))
  | .str x,h=>by simp only [PyData.showable]
  | .list xs,h=>by simp only [PyData.showable]; exact showableAll_of hb (by simpa only [Fits] using h)
  | .tuple xs,h=>by simp only [PyData.showable]; exact showableAll_of hb (by simpa only [Fits] using h)
  | .dict kvs,h=>by simp only [Fits] at h
theorem showableAll_of {b:Nat} (hb:b≤400):∀ {xs:List PyData},FitsAll b xs→PyData.showableAll xs=true
  | [],_=>by simp only [PyData.showableAll]
  | x::xs,h=>by
    simp only [FitsAll] at h
    simp only [PyData.showableAll,showable_of hb h.1,showableAll_of hb h.2,Bool.and_self]
end
def textOf:PyData→Str
  | .str x=>x
  | d=>d.shown
structure Tells (K:PySem.W.Frag) (H:Hp) (x:V) (d:PyData):Prop where
  rd:RdV K H x d
  fits:∃ b,b≤400∧Fits b d∧(b+12) * nodes d≤sizeLine
  depth:d.depth≤90
def rStr (K:PySem.W.Frag):List V→Hp→VK→Prop:=fun xs H Q=>∃ x d,xs=[x]∧Tells K H x d∧Q (.str (textOf d)) H
theorem call_strD {X:Cx} (hg:X.A.guards=some []) (hu:X.A.units+100<cLine):CallR X (.type "str") (rStr X.K):=by
  intro pins s σ H xs us Q I r h
  obtain ⟨x,d,rfl,⟨hr,⟨b,hb,hf,hz⟩,hd⟩,q⟩:=h
  obtain ⟨u,rfl,ru⟩:=vals1 r
  have hs:=showable_of hb hf
  have hl:d.shown.length≤sizeLine:=by have:=shown_le hf; omega
  have hnd:=hr.noDict
  obtain ⟨as,rs⟩:=hr.reads I ru
  cases hr with
  | non=>cases ru; exact PySem.P.str_of_none ⟨.str _,H,I.tok _,⟨_,rfl⟩,q⟩
  | bl c=>cases ru; exact PySem.P.str_of_bool ⟨.str _,H,I.tok _,⟨_,rfl⟩,by cases c <;> exact q⟩
  | int i =>
    obtain ⟨t,rfl⟩:=ru
    exact PySem.P.str_of_int (by simpa [PyData.showable] using hs) ⟨.str _,H,I.tok _,⟨_,rfl⟩,q⟩
  | str y =>
    obtain ⟨t,rfl⟩:=ru
    exact PySem.P.str_of_str ⟨.str _,H,I,⟨_,rfl⟩,q⟩
  | lst h1 h2 =>
    cases ru
    exact str_of_reads rs hs (fun z=>by rw [hnd] at z; cases z) hg (by omega) (fun _ _ e=>e) (fun h' u tk hk=>⟨.str _,H,I.kept hk,⟨_,rfl⟩,q⟩) hl
  | tup h1 h2 =>
    cases ru
    exact str_of_reads rs hs (fun z=>by rw [hnd] at z; cases z) hg (by omega) (fun _ _ e=>e) (fun h' u tk hk=>⟨.str _,H,I.kept hk,⟨_,rfl⟩,q⟩) hl
end Nd
namespace Nd
open PySem PySem.Spec PyProof.Rows L2
theorem Vals.at' {xs:List V} {us:List Value} (r:Vals xs us) {j:Nat} (h:j<us.length):∃ x,xs[j]? = some x∧RelV x us[j]:=by
  have hl:=r.length
  have hj:j<xs.length:=by omega
  obtain ⟨u,hu,ru⟩:=r.get (i:=j) (x:=xs[j]) (by simp [hj])
  rw [List.getElem?_eq_getElem h] at hu
  cases hu
  exact ⟨xs[j],by simp [hj],ru⟩
section
variable {X:Cx} {pins:List (Addr×Obj)} {σ:L2.St} {H:Hp} {s:Shared} {A:Around}
theorem in1_units (A:Around):A.in1.units≤A.units+1:=by
  first | exact Nat.le_refl _ | (simp [Around.in1]; done) | (unfold Around.in1; simp)
theorem call_isinst:CallR X (.builtin "isinstance") (fun xs H Q=>∃ x n t b,xs=[x,.ty n]∧TyOf X.K H x t∧PySem.W.kitOne X.K t (.type n)=some b∧Q (.bl b) H):=by
  intro pins s σ H xs us Q I r h
  obtain ⟨x,n,t,b,rfl,ty,e,q⟩:=h
  obtain ⟨u,v,rfl,ru,rv⟩:=vals2 r
  cases rv
  exact isinst_ok I ru ty e fun tk=>⟨.bl b,H,I.tok _,rfl,q⟩
theorem call_all (hc:X.calm=true):CallR X (.builtin "all") (fun xs H Q=>∃ (p:Addr) (bs:List Bool),xs=[.ref p]∧SqL X.K H p (bs.map V.bl)∧Q (.bl (bs.all id)) H):=by
  intro pins s σ H xs us Q I r h
  obtain ⟨p,bs,rfl,hp,q⟩:=h
  obtain ⟨u,rfl,ru⟩:=vals1 r
  cases ru
  obtain ⟨its,rv,pl,_⟩:=I.list hp
  have hlen:its.toArray.size=bs.length:=by
    have:=rv.length
    rw [List.length_map] at this
    rw [List.size_toArray]; omega
  refine call_all_walk (wpAny_pyIter_list pl.isList ?_)
  have hd:X.A.in1.handled=none:=I.ok.hd hc
  have ne:p≠s.heap.objs.size:=Nat.ne_of_lt (let ⟨o,q,_⟩:=pl.isList; Heap.lt_size q)
  refine ⟨s.heap.objs.size,_,_,_,_,_,fun i=>bs.getD i false,rfl,Walks.list hd s.heap.objs.size p ne its.toArray,⟨⟨_,Heap.get?_push_size _ rfl,rfl,rfl⟩,pl.isList.push _⟩,?_,?_⟩
  · intro i v s' Q' E' hv hq
    have hv':its[i]? = some v:=by simpa using hv
    have hi:i<its.length:=(List.getElem?_eq_some_iff.mp hv').1
    obtain ⟨x,e1,q1⟩:=Vals.at' rv hi
    rw [List.getElem?_eq_getElem hi] at hv'
    have hv'':its[i]=v:=Option.some.inj hv'
    rw [hv''] at q1
    rw [List.getElem?_map] at e1
    cases eb:bs[i]? with
    | none=>rw [eb] at e1; cases e1
    | some b =>
      rw [eb] at e1
      cases e1
      cases q1
      have : bs.getD i false=b:=by simp [List.getD_eq_getElem?_getD,eb]
      have hq':Q' (bs.getD i false) s':=hq
      rw [this] at hq'
      exact wpAny_truthy_bool hq'
  · intro h' tk hk
    have e:((List.range its.toArray.size).all fun i=>bs.getD i false)=bs.all id:=by
      rw [hlen]
      have : bs=(List.range bs.length).map (fun j=>bs.getD j false):=(range_getD bs false).symm
      conv=>rhs; rw [this]
      rw [List.all_map]
      rfl
    rw [e]
    refine ⟨.bl _,H,I.kept (h':=h') (t':=tk) (fun b o qq=>hk b o ?_ (Heap.get?_push_of_some _ qq)),rfl,q⟩
    intro z
    have e2:b=s.heap.objs.size:=by simpa using z
    have e3:=Heap.lt_size qq
    rw [e2] at e3
    exact absurd e3 (Nat.lt_irrefl _)
end
section
variable {prog:Program} {w:World} {A:Around} {E:Value→Shared→Prop} {s:Shared}
theorem getItem_tuple_whole {t sl:Addr} {items:Array Value} {vl vu:Value} {lo hi:Option Int} {Q:Value→Shared→Prop} (ht:IsTup s.heap t items) (hs:s.heap.IsSliceOf sl vl vu .none) (pl:IsPart vl lo) (pu:IsPart vu hi) (hw:HT.sIx items.size 0 lo=0∧HT.sIx items.size items.size hi=items.size) (h:Q (.ref t) s):wpAny (model prog w) A (getItem (.ref t) (.ref sl)) Q E s:=by
  obtain ⟨os,hos,hcs,hds⟩:=id hs
  have hTs:s.TypeIs (.ref sl) "slice" := ⟨os,hos,hcs⟩
  unfold getItem
  try with_reducible refine wpAny_holding ?_
  first | refine wpAny_bind (wpAny_pure ?_) | skip
  refine wpAny_bind (wpAny_sequenceKey ht.typeIs (by decide) ?_)
  refine wpAny_bind (wpAny_callSpecial?_slot (name:=Str.ofString "__getitem__") ht.typeIs PyProof.Rows.slot_tuple_getitem
    (wpAny_call_entry PyProof.Rows.slot_tuple_getitem ht.typeIs entry_tuple_getitem ?_ (args_tuple_getitem _ _)))
  show wpAny _ _ (Builtin.Tuple.tupleItemsOf (.ref t) >>= _) _ _ s
  refine wpAny_bind (tupleItemsOf_ ht ?_)
  refine wpAny_bind (wpAny_typeOf hTs ?_)
  rw [if_pos (by decide)]
  refine wpAny_bind (HT.sliceApplied_gen hs pl pu ?_)
  rw [hw.1,hw.2]
  have hyes:(((0:Nat):Int) == 0 && (1:Int) == 1 && (items.size - 0) == items.size)=true:=by simp
  show wpAny _ _ (if (((0:Nat):Int) == 0 && (1:Int) == 1 && (items.size - 0) == items.size)=true then _ else _) _ _ s
  rw [if_pos hyes]
  have hex:∀ {R:Bool→Shared→Prop},R true s→wpAny (model prog w) A.in1 (Builtin.Tuple.tupleIsExact (.ref t)) R E s:=fun {R} hR=>by
    unfold Builtin.Tuple.tupleIsExact
    refine wpAny_bind (wpAny_typeOf ht.typeIs (wpAny_pure ?_))
    rw [beq_self_eq_true]
    exact hR
  refine wpAny_bind (hex ?_)
  rw [if_pos rfl]
  exact wpAny_bind (wpAny_rule (wpAny_pure ⟨_,rfl,wpAny_pure h⟩))
end
end Nd
namespace Nd
open PySem PySem.Spec PyProof.Rows L2
mutual
def eqD:PyData→PyData→Bool
  | .none,.none=>true
  | .bool a,.bool b=>a == b
  | .bool a,.int b=>(if a then 1 else 0) == b
  | .int a,.bool b=>a == (if b then 1 else 0)
  | .int a,.int b=>a == b
  | .str a,.str b=>a == b
  | .list xs,.list ys=>eqDs xs ys
  | .tuple xs,.tuple ys=>eqDs xs ys
  | _,_=>false
def eqDs:List PyData→List PyData→Bool
  | [],[]=>true
  | x::xs,y::ys=>eqD x y && eqDs xs ys
  | _,_=>false
end
theorem eqDs_range:∀ ds es:List PyData,(((List.range (min ds.length es.length)).all fun j=>eqD (ds.getD j .none) (es.getD j .none)) && ds.length == es.length)=eqDs ds es
  | [],[]=>by simp [eqDs]
  | [],_::_=>by simp [eqDs]
  | _::_,[]=>by simp [eqDs]
  | d::ds,e::es=>by
    have ih:=eqDs_range ds es
    rw [eqDs,← ih]
    have h1:min (d::ds).length (e::es).length=min ds.length es.length+1:=by simp only [List.length_cons]; omega
    rw [h1,List.range_succ_eq_map,List.all_cons,List.all_map]
    have h2:((d::ds).length == (e::es).length)=(ds.length == es.length):=by
      rw [Bool.eq_iff_iff]; simp
    rw [h2,Bool.and_assoc]
    rfl
section
variable {X:Cx} {pins:List (Addr×Obj)} {σ:L2.St} {H:Hp} {s:Shared} {K:PySem.W.Frag}
mutual
theorem RdV.eqD_self:∀ {v:V} {d:PyData},RdV K H v d→eqD d d=true
  | _,_,.non=>by simp [eqD]
  | _,_,.bl b=>by simp [eqD]
  | _,_,.int i=>by simp [eqD]
  | _,_,.str x=>by simp [eqD]
  | _,_,.lst _ h=>by rw [eqD]; exact RdVs.eqDs_self h
  | _,_,.tup _ h=>by rw [eqD]; exact RdVs.eqDs_self h
theorem RdVs.eqDs_self:∀ {vs:List V} {ds:List PyData},RdVs K H vs ds→eqDs ds ds=true
  | _,_,.nil=>by simp [eqDs]
  | _,_,.cons h t=>by rw [eqDs,RdV.eqD_self h,RdVs.eqDs_self t]; rfl
end
theorem not_both (I:Inv X pins σ H s) {a:Addr} {xs ys:List V} (h1:SqL X.K H a xs) (h2:SqT X.K H a ys):False:=by
  obtain ⟨us,_,p1,_⟩:=I.list h1
  obtain ⟨vs,_,p2,_⟩:=I.tuple h2
  exact SeqAt.ne_of_list_tuple p1.isList p2 rfl
mutual
theorem RdV.det (I:Inv X pins σ H s):∀ {v:V} {d e:PyData},RdV X.K H v d→RdV X.K H v e→d=e
  | _,_,_,.non,h=>by cases h; rfl
  | _,_,_,.bl b,h=>by cases h; rfl
  | _,_,_,.int i,h=>by cases h; rfl
  | _,_,_,.str x,h=>by cases h; rfl
  | _,_,_,.lst q r,h=>by
    cases h with
    | lst q' r' =>
      have e:=I.list_inj q q'
      subst e
      rw [RdVs.det I r r']
    | tup q' r'=>exact (not_both I q q').elim
  | _,_,_,.tup q r,h=>by
    cases h with
    | lst q' r'=>exact (not_both I q' q).elim
    | tup q' r' =>
      have e:=I.tuple_inj q q'
      subst e
      rw [RdVs.det I r r']
theorem RdVs.det (I:Inv X pins σ H s):∀ {vs:List V} {ds es:List PyData},RdVs X.K H vs ds→RdVs X.K H vs es→ds=es
  | _,_,_,.nil,h=>by cases h; rfl
  | _,_,_,.cons r t,h=>by
    cases h with
    | cons r' t'=>rw [RdV.det I r r',RdVs.det I t t']
end
theorem RdVs.length:∀ {vs:List V} {ds:List PyData},RdVs K H vs ds→vs.length=ds.length
  | _,_,.nil=>rfl
  | _,_,.cons _ t=>by rw [List.length_cons,List.length_cons,RdVs.length t]
theorem in1_lt {A:Around} {n:Nat} (h:A.units+(n+1)<cLine):A.in1.units+n<cLine:=by
  have:=in1_units A
  omega
theorem rc_lists {A:Around} {a b:Addr} {us vs:List Value} {ds es:List PyData} (p1:PlainL s.heap a us.toArray) (p2:PlainL s.heap b vs.toArray) (l1:us.length=ds.length) (l2:vs.length=es.length) (hu:A.units<cLine) (he:∀ j (h1:j<us.length) (h2:j<vs.length),SeqAt.EqAt A.in1 s us[j] vs[j] (eqD (ds.getD j .none) (es.getD j .none))):SeqAt.RcAt A s (.ref a) (.ref b) (eqDs ds es):=by
  rw [← eqDs_range]
  by_cases hl:ds.length=es.length
  · have hs:us.toArray.size=vs.toArray.size:=by rw [List.size_toArray,List.size_toArray,l1,l2,hl]
    have h:=SeqAt.RcAt.lists (A:=A) (e:=fun j=>eqD (ds.getD j .none) (es.getD j .none)) p1.isList p2.isList hs hu (fun j h1 h2=>by simpa using he j (by simpa using h1) (by simpa using h2))
    rw [List.size_toArray,l1] at h
    rw [hl,Nat.min_self,beq_self_eq_true,Bool.and_true,← hl]
    exact h
  · have hs:(us.toArray.size != vs.toArray.size)=true:=by rw [List.size_toArray,List.size_toArray,l1,l2]; simpa using hl
    have h:=SeqAt.RcAt.lists_lengths (A:=A) p1.isList p2.isList hs hu
    have e0:(ds.length == es.length)=false:=by simpa using hl
    rw [e0,Bool.and_false]
    exact h
theorem rc_tuples {A:Around} {a b:Addr} {us vs:List Value} {ds es:List PyData} (p1:IsTup s.heap a us.toArray) (p2:IsTup s.heap b vs.toArray) (l1:us.length=ds.length) (l2:vs.length=es.length) (hu:A.units<cLine) (he:∀ j (h1:j<us.length) (h2:j<vs.length),SeqAt.EqAt A.in1 s us[j] vs[j] (eqD (ds.getD j .none) (es.getD j .none))):SeqAt.RcAt A s (.ref a) (.ref b) (eqDs ds es):=by
  rw [← eqDs_range]
  have h:=SeqAt.RcAt.tuples (A:=A) (e:=fun j=>eqD (ds.getD j .none) (es.getD j .none)) (show s.heap.IsTuple a us.toArray from p1) (show s.heap.IsTuple b vs.toArray from p2) hu (fun j h1 h2=>by simpa using he j (by simpa using h1) (by simpa using h2))
  rw [List.size_toArray,List.size_toArray,l1,l2] at h
  exact h
mutual
theorem eqAt_D (I:Inv X pins σ H s):∀ {A:Around} {x y:V} {d e:PyData} {u v:Value},RdV X.K H x d→RdV X.K H y e→RelV x u→RelV y v→A.units+d.depth<cLine→SeqAt.EqAt A s u v (eqD d e)
  | A,_,_,_,_,_,_,.non,h,ru,rv,hu=>by
    cases ru
    have hu':A.units<cLine:=by omega
    cases h with
    | non=>cases rv; rw [eqD]; exact SeqAt.EqAt.same _
    | bl b=>cases rv; rw [eqD]; exact SeqAt.EqAt.none_bool b; all_goals simp
    | int b=>obtain ⟨t,rfl⟩:=rv; rw [eqD]; exact SeqAt.EqAt.none_int b t; all_goals simp
    | str b=>obtain ⟨t,rfl⟩:=rv; rw [eqD]; exact SeqAt.EqAt.none_str b t; all_goals simp
    | lst q r=>cases rv; obtain ⟨us,_,p,_⟩:=I.list q; rw [eqD]; exact SeqAt.EqAt.none_list p.isList hu'; all_goals simp
    | tup q r=>cases rv; obtain ⟨us,_,p,_⟩:=I.tuple q; rw [eqD]; exact SeqAt.EqAt.none_tuple p hu'; all_goals simp
  | A,_,_,_,_,_,_,.bl a,h,ru,rv,hu=>by
    cases ru
    have hu':A.units<cLine:=by omega
    cases h with
    | non=>cases rv; rw [eqD]; exact SeqAt.EqAt.bool_none a; all_goals simp
    | bl b=>cases rv; rw [eqD]; exact SeqAt.EqAt.bool_bool a b
    | int b=>obtain ⟨t,rfl⟩:=rv; rw [eqD]; exact SeqAt.EqAt.bool_int a b t
    | str b=>obtain ⟨t,rfl⟩:=rv; rw [eqD]; exact SeqAt.EqAt.bool_str a b t; all_goals simp
    | lst q r=>cases rv; obtain ⟨us,_,p,_⟩:=I.list q; rw [eqD]; exact SeqAt.EqAt.bool_list a p.isList hu'; all_goals simp
    | tup q r=>cases rv; obtain ⟨us,_,p,_⟩:=I.tuple q; rw [eqD]; exact SeqAt.EqAt.bool_tuple a p hu'; all_goals simp
  | A,_,_,_,_,_,_,.int a,h,ru,rv,hu=>by
    obtain ⟨t',rfl⟩:=ru
    have hu':A.units<cLine:=by omega
    cases h with
    | non=>cases rv; rw [eqD]; exact SeqAt.EqAt.int_none a t'; all_goals simp
    | bl b=>cases rv; rw [eqD]; exact SeqAt.EqAt.int_bool a t' b
    | int b=>obtain ⟨t,rfl⟩:=rv; rw [eqD]; exact SeqAt.EqAt.int_int a t' b t
    | str b=>obtain ⟨t,rfl⟩:=rv; rw [eqD]; exact SeqAt.EqAt.int_str a t' b t; all_goals simp
    | lst q r=>cases rv; obtain ⟨us,_,p,_⟩:=I.list q; rw [eqD]; exact SeqAt.EqAt.int_list a t' p.isList hu'; all_goals simp
    | tup q r=>cases rv; obtain ⟨us,_,p,_⟩:=I.tuple q; rw [eqD]; exact SeqAt.EqAt.int_tuple a t' p hu'; all_goals simp
  | A,_,_,_,_,_,_,.str a,h,ru,rv,hu=>by
    obtain ⟨t',rfl⟩:=ru
    have hu':A.units<cLine:=by omega
    cases h with
    | non=>cases rv; rw [eqD]; exact SeqAt.EqAt.str_none a t'; all_goals simp
    | bl b=>cases rv; rw [eqD]; exact SeqAt.EqAt.str_bool a t' b; all_goals simp
    | int b=>obtain ⟨t,rfl⟩:=rv; rw [eqD]; exact SeqAt.EqAt.str_int a t' b t; all_goals simp
    | str b=>obtain ⟨t,rfl⟩:=rv; rw [eqD]; exact SeqAt.EqAt.str_str a t' b t
    | lst q r=>cases rv; obtain ⟨us,_,p,_⟩:=I.list q; rw [eqD]; exact SeqAt.EqAt.str_list a t' p.isList hu'; all_goals simp
    | tup q r=>cases rv; obtain ⟨us,_,p,_⟩:=I.tuple q; rw [eqD]; exact SeqAt.EqAt.str_tuple a t' p hu'; all_goals simp
  | A,_,_,_,_,_,_,@RdV.lst _ _ a xs ds q r,h,ru,rv,hu=>by
    cases ru
    have hu':A.units<cLine:=by omega
    obtain ⟨us,r1,p,_⟩:=I.list q
    cases h with
    | non=>cases rv; rw [eqD]; exact SeqAt.EqAt.list_none p.isList hu'; all_goals simp
    | bl b=>cases rv; rw [eqD]; exact SeqAt.EqAt.list_bool b p.isList hu'; all_goals simp
    | int b=>obtain ⟨t,rfl⟩:=rv; rw [eqD]; exact SeqAt.EqAt.list_int b t p.isList hu'; all_goals simp
    | str b=>obtain ⟨t,rfl⟩:=rv; rw [eqD]; exact SeqAt.EqAt.list_str b t p.isList hu'; all_goals simp
    | @lst b ys es q2 rr2 =>
      cases rv
      obtain ⟨vs,r2,p2,_⟩:=I.list q2
      rw [eqD]
      by_cases hab:a=b
      · subst hab
        have e:=I.list_inj q q2
        subst e
        rw [← RdVs.det I r rr2,RdVs.eqDs_self r]
        exact SeqAt.EqAt.same _
      · refine SeqAt.EqAt.of_refs hab (rc_lists p p2 (r1.length.symm.trans r.length) (r2.length.symm.trans rr2.length) hu' fun j h1 h2=>?_)
        exact eqAt_Ds I r rr2 r1 r2 (in1_lt (by simpa only [PyData.depth] using hu)) j h1 h2
    | tup q2 rr2=>cases rv; obtain ⟨vs,_,p2,_⟩:=I.tuple q2; rw [eqD]; exact SeqAt.EqAt.list_tuple p.isList p2 hu'; all_goals simp
  | A,_,_,_,_,_,_,@RdV.tup _ _ a xs ds q r,h,ru,rv,hu=>by
    cases ru
    have hu':A.units<cLine:=by omega
    obtain ⟨us,r1,p,_⟩:=I.tuple q
    cases h with
    | non=>cases rv; rw [eqD]; exact SeqAt.EqAt.tuple_none p hu'; all_goals simp
    | bl b=>cases rv; rw [eqD]; exact SeqAt.EqAt.tuple_bool b p hu'; all_goals simp
    | int b=>obtain ⟨t,rfl⟩:=rv; rw [eqD]; exact SeqAt.EqAt.tuple_int b t p hu'; all_goals simp
    | str b=>obtain ⟨t,rfl⟩:=rv; rw [eqD]; exact SeqAt.EqAt.tuple_str b t p hu'; all_goals simp
    | lst q2 rr2=>cases rv; obtain ⟨vs,_,p2,_⟩:=I.list q2; rw [eqD]; exact SeqAt.EqAt.tuple_list p p2.isList hu'; all_goals simp
    | @tup b ys es q2 rr2 =>
      cases rv
      obtain ⟨vs,r2,p2,_⟩:=I.tuple q2
      rw [eqD]
      by_cases hab:a=b
      · subst hab
        have e:=I.tuple_inj q q2
        subst e
        rw [← RdVs.det I r rr2,RdVs.eqDs_self r]
        exact SeqAt.EqAt.same _
      · refine SeqAt.EqAt.of_refs hab (rc_tuples p p2 (r1.length.symm.trans r.length) (r2.length.symm.trans rr2.length) hu' fun j h1 h2=>?_)
        exact eqAt_Ds I r rr2 r1 r2 (in1_lt (by simpa only [PyData.depth] using hu)) j h1 h2
theorem eqAt_Ds (I:Inv X pins σ H s):∀ {A:Around} {xs ys:List V} {ds es:List PyData} {us vs:List Value},RdVs X.K H xs ds→RdVs X.K H ys es→Vals xs us→Vals ys vs→A.units+PyData.depthAll ds<cLine→∀ j (h1:j<us.length) (h2:j<vs.length),SeqAt.EqAt A s us[j] vs[j] (eqD (ds.getD j .none) (es.getD j .none))
  | _,_,_,_,_,_,_,.nil,_,r1,_,_=>fun j h1 h2=>by cases r1; exact absurd h1 (Nat.not_lt_zero _)
  | A,_,_,_,_,_,_,@RdVs.cons _ _ x d xs ds r t,h,r1,r2,hu=>fun j h1 h2=>by
    cases h with
    | nil=>cases r2; exact absurd h2 (Nat.not_lt_zero _)
    | cons r' t' =>
      cases r1 with
      | cons ra ta =>
        cases r2 with
        | cons rb tb =>
          have hm:A.units+d.depth<cLine∧A.units+PyData.depthAll ds<cLine:=by
            simp only [PyData.depthAll] at hu
            omega
          cases j with
          | zero=>simpa using eqAt_D I r r' ra rb hm.1
          | succ j=>simpa using eqAt_Ds I t t' ta tb hm.2 j (by simpa using h1) (by simpa using h2)
end
end
end Nd
namespace Nd
open PySem PySem.Spec PyProof.Rows L2
section
variable {X:Cx} {pins:List (Addr×Obj)} {σ:L2.St} {H:Hp} {s:Shared} {K:PySem.W.Frag}
theorem rc_listsN {A:Around} {a b:Addr} {us vs:List Value} {ds es:List PyData} (p1:PlainL s.heap a us.toArray) (p2:PlainL s.heap b vs.toArray) (l1:us.length=ds.length) (l2:vs.length=es.length) (hu:A.units<cLine) (he:∀ j (h1:j<us.length) (h2:j<vs.length),SeqAt.EqAt A.in1 s us[j] vs[j] (eqD (ds.getD j .none) (es.getD j .none))):SeqAt.RcNeAt A s (.ref a) (.ref b) (!eqDs ds es):=by
  rw [← eqDs_range]
  by_cases hl:ds.length=es.length
  · have hs:us.toArray.size=vs.toArray.size:=by rw [List.size_toArray,List.size_toArray,l1,l2,hl]
    have h:=SeqAt.RcNeAt.lists (A:=A) (e:=fun j=>eqD (ds.getD j .none) (es.getD j .none)) p1.isList p2.isList hs hu (fun j h1 h2=>by simpa using he j (by simpa using h1) (by simpa using h2))
    rw [List.size_toArray,l1] at h
    rw [hl,Nat.min_self,beq_self_eq_true,Bool.and_true,← hl]
    exact h
  · have hs:(us.toArray.size != vs.toArray.size)=true:=by rw [List.size_toArray,List.size_toArray,l1,l2]; simpa using hl
    have h:=SeqAt.RcNeAt.lists_lengths (A:=A) p1.isList p2.isList hs hu
    have e0:(ds.length == es.length)=false:=by simpa using hl
    rw [e0,Bool.and_false]
    exact h
theorem rc_tuplesN {A:Around} {a b:Addr} {us vs:List Value} {ds es:List PyData} (p1:IsTup s.heap a us.toArray) (p2:IsTup s.heap b vs.toArray) (l1:us.length=ds.length) (l2:vs.length=es.length) (hu:A.units<cLine) (he:∀ j (h1:j<us.length) (h2:j<vs.length),SeqAt.EqAt A.in1 s us[j] vs[j] (eqD (ds.getD j .none) (es.getD j .none))):SeqAt.RcNeAt A s (.ref a) (.ref b) (!eqDs ds es):=by
  rw [← eqDs_range]
  have h:=SeqAt.RcNeAt.tuples (A:=A) (e:=fun j=>eqD (ds.getD j .none) (es.getD j .none)) (show s.heap.IsTuple a us.toArray from p1) (show s.heap.IsTuple b vs.toArray from p2) hu (fun j h1 h2=>by simpa using he j (by simpa using h1) (by simpa using h2))
  rw [List.size_toArray,List.size_toArray,l1,l2] at h
  exact h
end
section
variable {X:Cx}
def rEqD (K:PySem.W.Frag):R2:=fun x y H Q=>∃ d e,RdV K H x d∧RdV K H y e∧d.depth≤60∧Q (.bl (eqD d e)) H
def rNeD (K:PySem.W.Frag):R2:=fun x y H Q=>∃ d e,RdV K H x d∧RdV K H y e∧d.depth≤60∧Q (.bl (!eqD d e)) H
theorem op_eqD (hu:X.A.units+64<cLine):OpR X (compareOp .Eq) (rEqD X.K):=by
  intro pins s σ H x y v u Q I rx ry h
  obtain ⟨d,e,h1,h2,hd,q⟩:=h
  have hu':X.A.units<cLine:=by omega
  cases h1 with
  | non =>
    cases rx
    cases h2 with
    | non=>cases ry; rw [eqD] at q; exact SeqAt.RcAt.none_none _ _ _ _ ⟨.bl _,H,I,rfl,q⟩
    | bl b=>cases ry; rw [eqD] at q; exact SeqAt.RcAt.none_bool b _ _ _ _ ⟨.bl _,H,I,rfl,q⟩; all_goals simp
    | int b=>obtain ⟨t,rfl⟩:=ry; rw [eqD] at q; exact SeqAt.RcAt.none_int b t _ _ _ _ ⟨.bl _,H,I,rfl,q⟩; all_goals simp
    | str b=>obtain ⟨t,rfl⟩:=ry; rw [eqD] at q; exact SeqAt.RcAt.none_str b t _ _ _ _ ⟨.bl _,H,I,rfl,q⟩; all_goals simp
    | @lst b ys es q2 rr2=>cases ry; obtain ⟨vs,r2,p2,_⟩:=I.list q2; rw [eqD] at q; exact SeqAt.RcAt.none_list p2.isList hu' _ _ _ _ ⟨.bl _,H,I,rfl,q⟩; all_goals simp
    | @tup b ys es q2 rr2=>cases ry; obtain ⟨vs,r2,p2,_⟩:=I.tuple q2; rw [eqD] at q; exact SeqAt.RcAt.none_tuple p2 hu' _ _ _ _ ⟨.bl _,H,I,rfl,q⟩; all_goals simp
  | bl a =>
    cases rx
    cases h2 with
    | non=>cases ry; rw [eqD] at q; exact SeqAt.RcAt.bool_none a _ _ _ _ ⟨.bl _,H,I,rfl,q⟩; all_goals simp
    | bl b=>cases ry; rw [eqD] at q; exact SeqAt.RcAt.bool_bool a b _ _ _ _ ⟨.bl _,H,I,rfl,q⟩
    | int b=>obtain ⟨t,rfl⟩:=ry; rw [eqD] at q; exact SeqAt.RcAt.bool_int a b t _ _ _ _ ⟨.bl _,H,I,rfl,q⟩
    | str b=>obtain ⟨t,rfl⟩:=ry; rw [eqD] at q; exact SeqAt.RcAt.bool_str a b t _ _ _ _ ⟨.bl _,H,I,rfl,q⟩; all_goals simp
    | @lst b ys es q2 rr2=>cases ry; obtain ⟨vs,r2,p2,_⟩:=I.list q2; rw [eqD] at q; exact SeqAt.RcAt.bool_list a p2.isList hu' _ _ _ _ ⟨.bl _,H,I,rfl,q⟩; all_goals simp
    | @tup b ys es q2 rr2=>cases ry; obtain ⟨vs,r2,p2,_⟩:=I.tuple q2; rw [eqD] at q; exact SeqAt.RcAt.bool_tuple a p2 hu' _ _ _ _ ⟨.bl _,H,I,rfl,q⟩; all_goals simp
  | int a =>
    obtain ⟨t',rfl⟩:=rx
    cases h2 with
    | non=>cases ry; rw [eqD] at q; exact SeqAt.RcAt.int_none a t' _ _ _ _ ⟨.bl _,H,I,rfl,q⟩; all_goals simp
    | bl b=>cases ry; rw [eqD] at q; exact SeqAt.RcAt.int_bool a t' b _ _ _ _ ⟨.bl _,H,I,rfl,q⟩
    | int b=>obtain ⟨t,rfl⟩:=ry; rw [eqD] at q; exact SeqAt.RcAt.int_int a t' b t _ _ _ _ ⟨.bl _,H,I,rfl,q⟩
    | str b=>obtain ⟨t,rfl⟩:=ry; rw [eqD] at q; exact SeqAt.RcAt.int_str a t' b t _ _ _ _ ⟨.bl _,H,I,rfl,q⟩; all_goals simp
    | @lst b ys es q2 rr2=>cases ry; obtain ⟨vs,r2,p2,_⟩:=I.list q2; rw [eqD] at q; exact SeqAt.RcAt.int_list a t' p2.isList hu' _ _ _ _ ⟨.bl _,H,I,rfl,q⟩; all_goals simp
    | @tup b ys es q2 rr2=>cases ry; obtain ⟨vs,r2,p2,_⟩:=I.tuple q2; rw [eqD] at q; exact SeqAt.RcAt.int_tuple a t' p2 hu' _ _ _ _ ⟨.bl _,H,I,rfl,q⟩; all_goals simp
  | str a =>
    obtain ⟨t',rfl⟩:=rx
    cases h2 with
    | non=>cases ry; rw [eqD] at q; exact SeqAt.RcAt.str_none a t' _ _ _ _ ⟨.bl _,H,I,rfl,q⟩; all_goals simp
    | bl b=>cases ry; rw [eqD] at q; exact SeqAt.RcAt.str_bool a t' b _ _ _ _ ⟨.bl _,H,I,rfl,q⟩; all_goals simp
    | int b=>obtain ⟨t,rfl⟩:=ry; rw [eqD] at q; exact SeqAt.RcAt.str_int a t' b t _ _ _ _ ⟨.bl _,H,I,rfl,q⟩; all_goals simp
    | str b=>obtain ⟨t,rfl⟩:=ry; rw [eqD] at q; exact SeqAt.RcAt.str_str a t' b t _ _ _ _ ⟨.bl _,H,I,rfl,q⟩
    | @lst b ys es q2 rr2=>cases ry; obtain ⟨vs,r2,p2,_⟩:=I.list q2; rw [eqD] at q; exact SeqAt.RcAt.str_list a t' p2.isList hu' _ _ _ _ ⟨.bl _,H,I,rfl,q⟩; all_goals simp
    | @tup b ys es q2 rr2=>cases ry; obtain ⟨vs,r2,p2,_⟩:=I.tuple q2; rw [eqD] at q; exact SeqAt.RcAt.str_tuple a t' p2 hu' _ _ _ _ ⟨.bl _,H,I,rfl,q⟩; all_goals simp
  | @lst a xs ds qa r =>
    cases rx
    obtain ⟨us,r1,p,_⟩:=I.list qa
    cases h2 with
    | non=>cases ry; rw [eqD] at q; exact SeqAt.RcAt.list_none p.isList hu' _ _ _ _ ⟨.bl _,H,I,rfl,q⟩; all_goals simp
    | bl b=>cases ry; rw [eqD] at q; exact SeqAt.RcAt.list_bool b p.isList hu' _ _ _ _ ⟨.bl _,H,I,rfl,q⟩; all_goals simp
    | int b=>obtain ⟨t,rfl⟩:=ry; rw [eqD] at q; exact SeqAt.RcAt.list_int b t p.isList hu' _ _ _ _ ⟨.bl _,H,I,rfl,q⟩; all_goals simp
    | str b=>obtain ⟨t,rfl⟩:=ry; rw [eqD] at q; exact SeqAt.RcAt.list_str b t p.isList hu' _ _ _ _ ⟨.bl _,H,I,rfl,q⟩; all_goals simp
    | @lst b ys es q2 rr2=>cases ry; obtain ⟨vs,r2,p2,_⟩:=I.list q2; rw [eqD] at q; exact rc_lists p p2 (r1.length.symm.trans r.length) (r2.length.symm.trans rr2.length) hu' (fun j h1 h2=>eqAt_Ds I r rr2 r1 r2 (in1_lt (by simp only [PyData.depth] at hd; omega)) j h1 h2) _ _ _ _ ⟨.bl _,H,I,rfl,q⟩
    | @tup b ys es q2 rr2=>cases ry; obtain ⟨vs,r2,p2,_⟩:=I.tuple q2; rw [eqD] at q; exact SeqAt.RcAt.list_tuple p.isList p2 hu' _ _ _ _ ⟨.bl _,H,I,rfl,q⟩; all_goals simp
  | @tup a xs ds qa r =>
    cases rx
    obtain ⟨us,r1,p,_⟩:=I.tuple qa
    cases h2 with
    | non=>cases ry; rw [eqD] at q; exact SeqAt.RcAt.tuple_none p hu' _ _ _ _ ⟨.bl _,H,I,rfl,q⟩; all_goals simp
    | bl b=>cases ry; rw [eqD] at q; exact SeqAt.RcAt.tuple_bool b p hu' _ _ _ _ ⟨.bl _,H,I,rfl,q⟩; all_goals simp
    | int b=>obtain ⟨t,rfl⟩:=ry; rw [eqD] at q; exact SeqAt.RcAt.tuple_int b t p hu' _ _ _ _ ⟨.bl _,H,I,rfl,q⟩; all_goals simp
    | str b=>obtain ⟨t,rfl⟩:=ry; rw [eqD] at q; exact SeqAt.RcAt.tuple_str b t p hu' _ _ _ _ ⟨.bl _,H,I,rfl,q⟩; all_goals simp
    | @lst b ys es q2 rr2=>cases ry; obtain ⟨vs,r2,p2,_⟩:=I.list q2; rw [eqD] at q; exact SeqAt.RcAt.tuple_list p p2.isList hu' _ _ _ _ ⟨.bl _,H,I,rfl,q⟩; all_goals simp
    | @tup b ys es q2 rr2=>cases ry; obtain ⟨vs,r2,p2,_⟩:=I.tuple q2; rw [eqD] at q; exact rc_tuples p p2 (r1.length.symm.trans r.length) (r2.length.symm.trans rr2.length) hu' (fun j h1 h2=>eqAt_Ds I r rr2 r1 r2 (in1_lt (by simp only [PyData.depth] at hd; omega)) j h1 h2) _ _ _ _ ⟨.bl _,H,I,rfl,q⟩
theorem op_neD (hu:X.A.units+64<cLine):OpR X (compareOp .NotEq) (rNeD X.K):=by
  intro pins s σ H x y v u Q I rx ry h
  obtain ⟨d,e,h1,h2,hd,q⟩:=h
  have hu':X.A.units<cLine:=by omega
  cases h1 with
  | non =>
    cases rx
    cases h2 with
    | non=>cases ry; rw [eqD] at q; exact SeqAt.RcNeAt.none_none _ _ _ _ ⟨.bl _,H,I,rfl,q⟩
    | bl b=>cases ry; rw [eqD] at q; exact SeqAt.RcNeAt.none_bool b _ _ _ _ ⟨.bl _,H,I,rfl,q⟩; all_goals simp
    | int b=>obtain ⟨t,rfl⟩:=ry; rw [eqD] at q; exact SeqAt.RcNeAt.none_int b t _ _ _ _ ⟨.bl _,H,I,rfl,q⟩; all_goals simp
    | str b=>obtain ⟨t,rfl⟩:=ry; rw [eqD] at q; exact SeqAt.RcNeAt.none_str b t _ _ _ _ ⟨.bl _,H,I,rfl,q⟩; all_goals simp
    | @lst b ys es q2 rr2=>cases ry; obtain ⟨vs,r2,p2,_⟩:=I.list q2; rw [eqD] at q; exact SeqAt.RcNeAt.none_list p2.isList hu' _ _ _ _ ⟨.bl _,H,I,rfl,q⟩; all_goals simp
    | @tup b ys es q2 rr2=>cases ry; obtain ⟨vs,r2,p2,_⟩:=I.tuple q2; rw [eqD] at q; exact SeqAt.RcNeAt.none_tuple p2 hu' _ _ _ _ ⟨.bl _,H,I,rfl,q⟩; all_goals simp
  | bl a =>
    cases rx
    cases h2 with
    | non=>cases ry; rw [eqD] at q; exact SeqAt.RcNeAt.bool_none a _ _ _ _ ⟨.bl _,H,I,rfl,q⟩; all_goals simp
    | bl b=>cases ry; rw [eqD] at q; exact SeqAt.RcNeAt.bool_bool a b _ _ _ _ ⟨.bl _,H,I,rfl,q⟩
    | int b=>obtain ⟨t,rfl⟩:=ry; rw [eqD] at q; exact SeqAt.RcNeAt.bool_int a b t _ _ _ _ ⟨.bl _,H,I,rfl,q⟩
    | str b=>obtain ⟨t,rfl⟩:=ry; rw [eqD] at q; exact SeqAt.RcNeAt.bool_str a b t _ _ _ _ ⟨.bl _,H,I,rfl,q⟩; all_goals simp
    | @lst b ys es q2 rr2=>cases ry; obtain ⟨vs,r2,p2,_⟩:=I.list q2; rw [eqD] at q; exact SeqAt.RcNeAt.bool_list a p2.isList hu' _ _ _ _ ⟨.bl _,H,I,rfl,q⟩; all_goals simp
    | @tup b ys es q2 rr2=>cases ry; obtain ⟨vs,r2,p2,_⟩:=I.tuple q2; rw [eqD] at q; exact SeqAt.RcNeAt.bool_tuple a p2 hu' _ _ _ _ ⟨.bl _,H,I,rfl,q⟩; all_goals simp
  | int a =>
    obtain ⟨t',rfl⟩:=rx
    cases h2 with
    | non=>cases ry; rw [eqD] at q; exact SeqAt.RcNeAt.int_none a t' _ _ _ _ ⟨.bl _,H,I,rfl,q⟩; all_goals simp
    | bl b=>cases ry; rw [eqD] at q; exact SeqAt.RcNeAt.int_bool a t' b _ _ _ _ ⟨.bl _,H,I,rfl,q⟩
    | int b=>obtain ⟨t,rfl⟩:=ry; rw [eqD] at q; exact SeqAt.RcNeAt.int_int a t' b t _ _ _ _ ⟨.bl _,H,I,rfl,q⟩
    | str b=>obtain ⟨t,rfl⟩:=ry; rw [eqD] at q; exact SeqAt.RcNeAt.int_str a t' b t _ _ _ _ ⟨.bl _,H,I,rfl,q⟩; all_goals simp
    | @lst b ys es q2 rr2=>cases ry; obtain ⟨vs,r2,p2,_⟩:=I.list q2; rw [eqD] at q; exact SeqAt.RcNeAt.int_list a t' p2.isList hu' _ _ _ _ ⟨.bl _,H,I,rfl,q⟩; all_goals simp
    | @tup b ys es q2 rr2=>cases ry; obtain ⟨vs,r2,p2,_⟩:=I.tuple q2; rw [eqD] at q; exact SeqAt.RcNeAt.int_tuple a t' p2 hu' _ _ _ _ ⟨.bl _,H,I,rfl,q⟩; all_goals simp
  | str a =>
    obtain ⟨t',rfl⟩:=rx
    cases h2 with
    | non=>cases ry; rw [eqD] at q; exact SeqAt.RcNeAt.str_none a t' _ _ _ _ ⟨.bl _,H,I,rfl,q⟩; all_goals simp
    | bl b=>cases ry; rw [eqD] at q; exact SeqAt.RcNeAt.str_bool a t' b _ _ _ _ ⟨.bl _,H,I,rfl,q⟩; all_goals simp
    | int b=>obtain ⟨t,rfl⟩:=ry; rw [eqD] at q; exact SeqAt.RcNeAt.str_int a t' b t _ _ _ _ ⟨.bl _,H,I,rfl,q⟩; all_goals simp
    | str b=>obtain ⟨t,rfl⟩:=ry; rw [eqD] at q; exact SeqAt.RcNeAt.str_str a t' b t _ _ _ _ ⟨.bl _,H,I,rfl,q⟩
    | @lst b ys es q2 rr2=>cases ry; obtain ⟨vs,r2,p2,_⟩:=I.list q2; rw [eqD] at q; exact SeqAt.RcNeAt.str_list a t' p2.isList hu' _ _ _ _ ⟨.bl _,H,I,rfl,q⟩; all_goals simp
    | @tup b ys es q2 rr2=>cases ry; obtain ⟨vs,r2,p2,_⟩:=I.tuple q2; rw [eqD] at q; exact SeqAt.RcNeAt.str_tuple a t' p2 hu' _ _ _ _ ⟨.bl _,H,I,rfl,q⟩; all_goals simp
  | @lst a xs ds qa r =>
    cases rx
    obtain ⟨us,r1,p,_⟩:=I.list qa
    cases h2 with
    | non=>cases ry; rw [eqD] at q; exact SeqAt.RcNeAt.list_none p.isList hu' _ _ _ _ ⟨.bl _,H,I,rfl,q⟩; all_goals simp
    | bl b=>cases ry; rw [eqD] at q; exact SeqAt.RcNeAt.list_bool b p.isList hu' _ _ _ _ ⟨.bl _,H,I,rfl,q⟩; all_goals simp
    | int b=>obtain ⟨t,rfl⟩:=ry; rw [eqD] at q; exact SeqAt.RcNeAt.list_int b t p.isList hu' _ _ _ _ ⟨.bl _,H,I,rfl,q⟩; all_goals simp
    | str b=>obtain ⟨t,rfl⟩:=ry; rw [eqD] at q; exact SeqAt.RcNeAt.list_str b t p.isList hu' _ _ _ _ ⟨.bl _,H,I,rfl,q⟩; all_goals simp
    | @lst b ys es q2 rr2=>cases ry; obtain ⟨vs,r2,p2,_⟩:=I.list q2; rw [eqD] at q; exact rc_listsN p p2 (r1.length.symm.trans r.length) (r2.length.symm.trans rr2.length) hu' (fun j h1 h2=>eqAt_Ds I r rr2 r1 r2 (in1_lt (by simp only [PyData.depth] at hd; omega)) j h1 h2) _ _ _ _ ⟨.bl _,H,I,rfl,q⟩
    | @tup b ys es q2 rr2=>cases ry; obtain ⟨vs,r2,p2,_⟩:=I.tuple q2; rw [eqD] at q; exact SeqAt.RcNeAt.list_tuple p.isList p2 hu' _ _ _ _ ⟨.bl _,H,I,rfl,q⟩; all_goals simp
  | @tup a xs ds qa r =>
    cases rx
    obtain ⟨us,r1,p,_⟩:=I.tuple qa
    cases h2 with
    | non=>cases ry; rw [eqD] at q; exact SeqAt.RcNeAt.tuple_none p hu' _ _ _ _ ⟨.bl _,H,I,rfl,q⟩; all_goals simp
    | bl b=>cases ry; rw [eqD] at q; exact SeqAt.RcNeAt.tuple_bool b p hu' _ _ _ _ ⟨.bl _,H,I,rfl,q⟩; all_goals simp
    | int b=>obtain ⟨t,rfl⟩:=ry; rw [eqD] at q; exact SeqAt.RcNeAt.tuple_int b t p hu' _ _ _ _ ⟨.bl _,H,I,rfl,q⟩; all_goals simp
    | str b=>obtain ⟨t,rfl⟩:=ry; rw [eqD] at q; exact SeqAt.RcNeAt.tuple_str b t p hu' _ _ _ _ ⟨.bl _,H,I,rfl,q⟩; all_goals simp
    | @lst b ys es q2 rr2=>cases ry; obtain ⟨vs,r2,p2,_⟩:=I.list q2; rw [eqD] at q; exact SeqAt.RcNeAt.tuple_list p p2.isList hu' _ _ _ _ ⟨.bl _,H,I,rfl,q⟩; all_goals simp
    | @tup b ys es q2 rr2=>cases ry; obtain ⟨vs,r2,p2,_⟩:=I.tuple q2; rw [eqD] at q; exact rc_tuplesN p p2 (r1.length.symm.trans r.length) (r2.length.symm.trans rr2.length) hu' (fun j h1 h2=>eqAt_Ds I r rr2 r1 r2 (in1_lt (by simp only [PyData.depth] at hd; omega)) j h1 h2) _ _ _ _ ⟨.bl _,H,I,rfl,q⟩
theorem relV_inj {z z':V} {v:Value} (h:RelV z v) (h':RelV z' v):z=z':=by
  cases z <;> cases z' <;> simp only [L2.RelV] at h h' <;> first | rfl | (subst h; cases h'; rfl) | (subst h; cases h'; done) | (obtain ⟨t,rfl⟩:=h; obtain ⟨t',e⟩:=h'; cases e; rfl) | (obtain ⟨t,rfl⟩:=h; obtain ⟨t',e⟩:=h'; cases e; done) | (obtain ⟨t,rfl⟩:=h; cases h'; done) | (subst h; obtain ⟨t',e⟩:=h'; cases e)
open Classical in
noncomputable def eqVal (K:PySem.W.Frag) (H:Hp) (d:PyData) (v:Value):Bool:=if h:∃ e z,RdV K H z e∧RelV z v then eqD h.choose d else false
theorem eqVal_of {pins:List (Addr×Obj)} {σ:L2.St} {H:Hp} {s:Shared} (I:Inv X pins σ H s) {d e:PyData} {z:V} {v:Value} (h:RdV X.K H z e) (r:RelV z v):eqVal X.K H d v=eqD e d:=by
  unfold eqVal
  have hx:∃ e z,RdV X.K H z e∧RelV z v:=⟨e,z,h,r⟩
  rw [dif_pos hx]
  obtain ⟨z',h',r'⟩:=hx.choose_spec
  have ez:=relV_inj r' r
  subst ez
  rw [RdV.det I h' h]
theorem any_eqVal {pins:List (Addr×Obj)} {σ:L2.St} {H:Hp} {s:Shared} (I:Inv X pins σ H s) {d:PyData}:∀ {xs:List V} {ds:List PyData} {us:List Value},RdVs X.K H xs ds→Vals xs us→us.any (eqVal X.K H d)=ds.any fun e=>eqD e d
  | _,_,_,.nil,r=>by cases r; rfl
  | _,_,_,.cons h t,r=>by
    cases r with
    | cons r1 r2=>rw [List.any_cons,List.any_cons,eqVal_of I h r1,any_eqVal I t r2]
theorem mem_eqVal {pins:List (Addr×Obj)} {σ:L2.St} {H:Hp} {s:Shared} (I:Inv X pins σ H s) {A:Around} {x:V} {d:PyData} {u:Value} (hx:RdV X.K H x d) (rx:RelV x u):∀ {xs:List V} {ds:List PyData} {us:List Value},RdVs X.K H xs ds→Vals xs us→A.units+PyData.depthAll ds<cLine→∀ v∈us,SeqAt.EqAt A s v u (eqVal X.K H d v)
  | _,_,_,.nil,r,_=>fun v hv=>by cases r; cases hv
  | _,_,_,@RdVs.cons _ _ y e ys es h t,r,hu=>fun v hv=>by
    have hm:A.units+e.depth<cLine∧A.units+PyData.depthAll es<cLine:=by
      simp only [PyData.depthAll] at hu
      omega
    cases r with
    | cons r1 r2 =>
      rcases List.mem_cons.mp hv with rfl | hv
      · rw [eqVal_of I h r1]; exact eqAt_D I h hx r1 rx hm.1
      · exact mem_eqVal I hx rx t r2 hm.2 v hv
def rInD (K:PySem.W.Frag) (neg:Bool):R2:=fun x y H Q=>∃ p xs d ds,y=.ref p∧(SqL K H p xs∨SqT K H p xs)∧RdV K H x d∧RdVs K H xs ds∧PyData.depthAll ds≤60∧Q (.bl (if neg then !(ds.any fun e=>eqD e d) else ds.any fun e=>eqD e d)) H
theorem op_inD (hu:X.A.units+64<cLine):OpR X (compareOp .In) (rInD X.K false):=by
  intro pins s σ H x y v u Q I rx ry h
  obtain ⟨p,xs,d,ds,rfl,hq,hx,hs,hd,q⟩:=h
  cases ry
  have hu1:X.A.in1.units+PyData.depthAll ds<cLine:=by have:=in1_units X.A; omega
  rcases hq with hq | hq
  · obtain ⟨its,r,pl,hz⟩:=I.list hq
    refine SeqAt.in_listAt (eqVal X.K H d) pl.isList (fun w hw=>mem_eqVal I hx rx hs r hu1 w (by simpa using hw)) ⟨.bl _,H,I,rfl,?_⟩
    rw [show its.toArray.any (eqVal X.K H d)=its.any (eqVal X.K H d) by simp,any_eqVal I hs r]
    exact q
  · obtain ⟨its,r,pl,hz⟩:=I.tuple hq
    refine SeqAt.in_tupleAt (eqVal X.K H d) pl (fun w hw=>mem_eqVal I hx rx hs r hu1 w (by simpa using hw)) ⟨.bl _,H,I,rfl,?_⟩
    rw [show its.toArray.any (eqVal X.K H d)=its.any (eqVal X.K H d) by simp,any_eqVal I hs r]
    exact q
theorem op_notInD (hu:X.A.units+64<cLine):OpR X (compareOp .NotIn) (rInD X.K true):=by
  intro pins s σ H x y v u Q I rx ry h
  obtain ⟨p,xs,d,ds,rfl,hq,hx,hs,hd,q⟩:=h
  cases ry
  have hu1:X.A.in1.units+PyData.depthAll ds<cLine:=by have:=in1_units X.A; omega
  rcases hq with hq | hq
  · obtain ⟨its,r,pl,hz⟩:=I.list hq
    refine SeqAt.notIn_listAt (eqVal X.K H d) pl.isList (fun w hw=>mem_eqVal I hx rx hs r hu1 w (by simpa using hw)) ⟨.bl _,H,I,rfl,?_⟩
    rw [show its.toArray.any (eqVal X.K H d)=its.any (eqVal X.K H d) by simp,any_eqVal I hs r]
    exact q
  · obtain ⟨its,r,pl,hz⟩:=I.tuple hq
    refine SeqAt.notIn_tupleAt (eqVal X.K H d) pl (fun w hw=>mem_eqVal I hx rx hs r hu1 w (by simpa using hw)) ⟨.bl _,H,I,rfl,?_⟩
    rw [show its.toArray.any (eqVal X.K H d)=its.any (eqVal X.K H d) by simp,any_eqVal I hs r]
    exact q
end
end Nd
namespace Nd
open PySem PySem.Spec PyProof.Rows L2
def Ite (K:PySem.W.Frag) (a:Addr):It :=
  ⟨fun i H=>∃ xs x,SqL K H a xs∧xs[i]? = some x,fun i H x H'=>∃ p y,x=.ref p∧H p=none∧H'=upd H p (.tup [.int i,y])∧∀ xs,SqL K H a xs→xs[i]? = some y,fun i H=>∃ xs,SqL K H a xs∧xs.length≤i⟩
section
variable {X:Cx} {pins:List (Addr×Obj)} {σ:L2.St} {H:Hp} {s:Shared} {h':Heap}
theorem turnedL {t':Nat} {fp:List Addr} (I:Inv X pins σ H s) (k:∀ b o,b∉fp→s.heap.get? b=some o→h'.get? b=some o) (hf:∀ b∈fp,FpOk X pins H b):Inv X pins σ H { s with heap:=h',toks:=t' }:=by
  have nit:∀ b u,H b=some u→b∉fp:=fun b u e z=>by rw [(hf b z).1] at e; cases e
  refine I.step (g':=s.gens) (d':=s.drawn) (ch:=fp) (fun b hb=>?_) (fun b o _ _ hc e _=>k b o hc e) (fun b o _ _ hc e _=>⟨o.slots,k b o hc e⟩) (fun _ _ _ _ n=>n)
    (fun b o hc e=>⟨o,k b o hc e⟩) (fun _ _ e=>e) (fun _ _ _ e=>e) (fun b ps e=>⟨#[],by rw [e]; simp⟩) (fun m hm=>?_) (fun b u e=>?_) I.bare
  · obtain ⟨_,f1,_,f3,f4,f5⟩:=hf b hb
    exact ⟨f3,f1,f4,f5⟩
  · obtain ⟨o,es,ep,ho,r⟩:=hm
    exact ⟨o,es,ep,k _ o (fun z=>(hf _ z).2.1 rfl) ho,r⟩
  · refine (I.hok b u e).stay (fun c v hc q=>k c v ?_ q) (fun _ q=>q) fun _ _ q=>q
    rcases hc with z | z
    · rw [z]; exact nit b u e
    · exact nit c _ z
end
theorem turn_enum {P:Program} {w:World} {K:PySem.W.Frag} {elts:List Expr} {k:Nat} {pos:Pos} (a e it:Addr) (ne:e≠it):Turn P w K (.Tuple elts k pos) (Ite K a) [e,it] e (fun i h=>(∃ old,IsEnum h e it ((i:Nat):Int) old)∧h.IsListIter it a i) where
  mem:=List.mem_cons_self
  obj:=fun i h st b hb=>by
    obtain ⟨⟨old,he⟩,o,e1,c,d⟩:=st
    rcases List.mem_cons.mp hb with z | z
    · subst z
      exact ⟨_,he,fun v z=>by cases z⟩
    · rw [List.mem_singleton.mp z]
      exact ⟨o,e1,fun v z=>by rw [d] at z; cases z⟩
  keep:=fun i h h' st kp=>⟨let ⟨old,he⟩:=st.1; ⟨old,kp e List.mem_cons_self _ he⟩,st.2.at fun o q=>kp it (List.mem_cons_of_mem _ List.mem_cons_self) o q⟩
  item:=by
    intro X hP hw hK hc i pins s σ H E I hf st hg
    subst hP hw hK
    obtain ⟨xs,x,hq,hx⟩:=hg
    obtain ⟨its,rv,p,hz⟩:=I.list hq
    obtain ⟨u,hu,ru⟩:=rv.get hx
    obtain ⟨⟨old,he⟩,hit⟩:=st
    have el:e<s.heap.objs.size:=Heap.lt_size he
    have il:it<s.heap.objs.size:=by obtain ⟨_,q,_⟩:=hit; exact Heap.lt_size q
    refine wpAny_pyNext_enum_item he hit p.isList (x:=u) (by simpa using hu) ne fun h1 ho hit1 hT hsz hk=>⟨_,rfl,wpAny_letOwnedTupleGo_enum ho fun h2 he2 hs2=>?_⟩
    have hs2':Heap.SameBut e h1 h2:=hs2
    -- the pair laid,then the iterators turned
    have I1:Inv X pins σ (upd H s.heap.objs.size (.tup [.int i,x])) { s with heap:=s.heap.push { cls:=.type "tuple",data:=.seq #[.int i s.toks,u] } } :=
      I.laid (t':=s.toks) (fun b o q=>Heap.get?_push_of_some _ q) (Nat.le_refl _) ⟨by show 2≤sizeLine; decide,[.int i s.toks,u],.cons ⟨_,rfl⟩ (.cons ru .nil),_,Heap.get?_push_size _ rfl,rfl,0,rfl⟩
    have nT:∀ b∈[e,it],b≠s.heap.objs.size:=fun b hb=>by
      rcases List.mem_cons.mp hb with z | z
      · rw [z]; exact Nat.ne_of_lt el
      · rw [List.mem_singleton.mp z]; exact Nat.ne_of_lt il
    have fr:∀ b∈[e,it],(upd H s.heap.objs.size (.tup [.int i,x])) b=none:=fun b hb=>by rw [upd_ne (nT b hb)]; exact (hf b hb).1
    refine ⟨.ref s.heap.objs.size,_,turnedL (fp:=[e,it]) (s:={ s with heap:=s.heap.push { cls:=.type "tuple",data:=.seq #[.int i s.toks,u] } }) (h':=h2) (t':=s.toks+1) I1 (fun b o hb q=>?_) (fun b hb=>⟨fr b hb,(hf b hb).2⟩),rfl,⟨_,x,rfl,I.hok.fresh (Nat.le_refl _),rfl,fun ys hy=>by rw [I.list_inj hy hq]; exact hx⟩,⟨⟨u,?_⟩,?_⟩,fr⟩
    · have nbe:b≠e:=fun z=>hb (by rw [z]; exact List.mem_cons_self)
      have nbi:b≠it:=fun z=>hb (by rw [z]; exact List.mem_cons_of_mem _ List.mem_cons_self)
      refine (hs2'.2 b nbe).trans ?_
      by_cases hbT:b=s.heap.objs.size
      · subst hbT
        have q':=(Heap.get?_push_size s.heap (o:={ cls:=.type "tuple",data:=.seq #[.int i s.toks,u] }) rfl).symm.trans q
        rw [hT]
        exact q'
      · refine hk b o nbe nbi ?_
        have q0:(s.heap.push { cls:=.type "tuple",data:=.seq #[.int i s.toks,u] }).get? b=some o:=q
        rcases Heap.get?_push_cases q0 with z | z
        · exact absurd z.1 hbT
        · exact z
    · have : ((i+1:Nat):Int)=(i:Int)+1:=by omega
      rw [this]
      exact he2
    · exact hit1.at fun o q=>(hs2'.2 it (Ne.symm ne)).trans q
  done:=by
    intro X hP hw hK hc i pins s σ H E I hf st hg
    subst hP hw hK
    obtain ⟨xs,hq,hx⟩:=hg
    obtain ⟨its,rv,p,hz⟩:=I.list hq
    obtain ⟨⟨old,he⟩,hit⟩:=st
    have hl:=rv.length
    exact wpAny_pyNext_enum_end (I.ok.hd hc) he hit p.isList (by simp; omega) fun h1 eb=>⟨rfl,turnedL (fp:=[e,it]) (t':=s.toks) I (fun b o hb q=>eb b o (fun z=>hb (by rw [z]; exact List.mem_cons_of_mem _ List.mem_cons_self)) q) hf⟩
  self:=fun _ _ _ _ _ st h=>let ⟨_,he⟩:=st.1; wpAny_pyIter_enum he h
section
variable {X:Cx}
def iEnum (K:PySem.W.Frag) (ta:TA):TI:=fun σ H R=>ta σ H fun vs H1=>∃ a,vs=[.ref a]∧(∃ xs,SqL K H1 a xs)∧R (Ite K a) H1
theorem pi_enum {elts:List Expr} {k:Nat} {tp:Pos} {a:Expr} {ta:TA} {p pos:Pos} (hg:Gl X "enumerate") (hm:X.mg "enumerate" = none) (ha:PA X [a] ta) (hs:starEach [a] X.env=[(false,eval a X.env)]:=by rfl):PI X (.Tuple elts k tp) (.Call (.Name "enumerate" p) [a] [] pos) (iEnum X.K ta):=by
  intro pins s σ H R I h
  refine Call_ (ld_blt I hg hm (u:=.type "enumerate") (by decide +kernel) (PyProof.Rows.callWith_type1 (thn (ha pos pins s σ H _ I h) fun us s1 ⟨vs,H1,I1,r1,q1⟩=>?_) hs rfl))
  obtain ⟨l,e,⟨xs,hq⟩,q⟩:=q1
  subst e
  obtain ⟨u,rfl,ru⟩:=vals1 r1
  cases ru
  obtain ⟨its,rv,pl,hz⟩:=I1.list hq
  refine call_enumerate_list pl.isList fun h2 he hit hsz hk=>wpAny_pyIter_enum he ?_
  have fr:∀ b∈[s1.heap.objs.size+1,s1.heap.objs.size],FpOk X pins H1 b:=fun b hb=>by
    rcases List.mem_cons.mp hb with z | z
    · rw [z]; exact I1.fpOk (Nat.le_succ _) (I1.hok.fresh (Nat.le_succ _))
    · rw [List.mem_singleton.mp z]; exact I1.fpOk (Nat.le_refl _) (I1.hok.fresh (Nat.le_refl _))
  exact ⟨s1.heap.objs.size+1,[s1.heap.objs.size+1,s1.heap.objs.size],_,_,H1,rfl,I1.kept (t':=s1.toks) hk,turn_enum l _ _ (Nat.succ_ne_self _),⟨⟨_,he⟩,hit⟩,fr,q⟩
end
end Nd
namespace Nd
open PySem PySem.Spec PyProof.Rows L2
section
variable {X:Cx}
def CompW2 (K:PySem.W.Frag) (J:It) (js:List Nat) (tc:TT) (te:TE) (σ:L2.St) (H1:Hp) (Q:VK):Prop:=∀ D,H1 D=none→∃ W:Nat→Nat→Hp→Prop,(∃ m,W 0 m (upd H1 D (.lst [])))∧∀ i m H,W i m H →
  (J.stop i H∧Q (.ref D) H)∨(J.go i H∧∀ x H',J.yld i H x H'→∃ (t:Addr) (w1 w2:V),x=.ref t∧SqT K H' t [w1,w2]∧∃ (N1:Hp→Prop) (N2:VK),(∀ H2,N1 H2→∃ m',m'<m∧W (i+1) m' H2) ∧
    (∀ y H3,N2 y H3→∃ acc,H3 D=some (.lst acc)∧acc.length<sizeLine∧∃ m',m'<m∧W (i+1) m' (upd H3 D (.lst (acc++[y])))) ∧
    tc (some w1::some w2::frees σ js) H' fun c H2=>if c=true then te (some w1::some w2::frees σ js) H2 N2 else N1 H2)
def tComp2 (K:PySem.W.Frag) (wi:TI) (js:List Nat) (tc:TT) (te:TE):TE:=fun σ H Q=>wi σ H fun J H1=>CompW2 K J js tc te σ H1 Q
end
end Nd
namespace Nd
open PySem PySem.Spec PyProof.Rows L2
section
variable {X:Cx}
theorem ps_setC {elt iter:Expr} {x y0:Str} {px py pos spos:Pos} {i0:Nat} {ifs:List Expr} {scope:Scope} {cl:List (Str×Addr)} {ys:List Str} {js:List Nat} {wi:TI} {tc:TT} {te:TE} (hN:X.N.Nodup) (hi0:X.N[i0]? = some y0) (hy0:X.env.scope.names.lookup y0=some .local) (C:CompScope X scope cl x ys js) (hc:X.calm=true) (hi:PI X (.Name x px) iter wi) (ht:∀ fp s H,PTs (cxComp X scope cl (x::ys) fp s H) ifs tc) (he:∀ fp s H,PE (cxComp X scope cl (x::ys) fp s H) elt te) (hs:∀ x,foldedSetIterable iter X.env x=pure x:=by intro _; rfl) (hsw:swapsWith (.ListComp elt [⟨.Name x px,iter,ifs,0⟩] scope pos) (some (.Name y0 py)) spos.line X.env=pure true:=by rfl):PS X (.Assign [.Name y0 py] (.ListComp elt [⟨.Name x px,iter,ifs,0⟩] scope pos) spos) (tAsg (tComp wi js tc te) (gName i0)):=by
  intro pins s σ H De I h
  have h:tComp wi js tc te σ H fun v H1=>De.nx (σ.set i0 (some v)) H1:=h
  rw [exec_Assign_Name_used _ _ _ _ hsw]
  refine wpAny_bind (wpAny_standAt (wpAny_bind ?_))
  show wpAny _ X.A (do let _ ← comprehension (.ListComp elt [⟨.Name x px,iter,ifs,0⟩] scope pos) scope X.env _ (newList []) false (eval iter X.env) (some (assign (.Name y0 py) X.env))) _ _ s
  refine wpAny_bind (wpAny_mono (wpAny_comprehension_free (use:=some (assign (.Name y0 py) X.env)) (Q:=fun _ s'=>SP X pins De .next s') rfl hs C.clos C.kind C.locs (thn (hi pins s σ H _ I h) fun v s1 h1=>thn h1 fun itv s2 h2=>?_)) (fun _ s' hq=>wpAny_pure (wpAny_pure hq)) fun _ _ e=>e)
  obtain ⟨it,fp,tn,J,H2,e,I2,T,st2,f2,q2⟩:=h2
  subst e
  have fD:H2 s2.heap.objs.size=none:=I2.hok.fresh (Nat.le_refl _)
  obtain ⟨W,⟨m0,w0⟩,turn⟩:=q2 s2.heap.objs.size fD
  refine wpAny_newObj_type ?_
  have I3:Inv X pins σ (upd H2 s2.heap.objs.size (.lst [])) { s2 with heap:=s2.heap.push { cls:=.type "list",dict:=none,data:=.seq ([]:List Value).toArray } } :=
    I2.laid (t':=s2.toks) (fun b u q=>Heap.get?_push_of_some _ q) (Nat.le_refl _) ⟨Nat.zero_le _,[],0,.nil,Heap.get?_push_size _ rfl⟩
  have nfp:∀ b∈fp,b≠s2.heap.objs.size:=fun b hb z=>by
    obtain ⟨o,q,_⟩:=T.obj _ _ st2 b hb
    have:=Heap.lt_size q
    rw [z] at this
    exact absurd this (Nat.lt_irrefl _)
  have f3:∀ b∈fp,FpOk X pins (upd H2 s2.heap.objs.size (.lst [])) b:=fun b hb=>⟨by rw [upd_ne (nfp b hb)]; exact (f2 b hb).1,(f2 b hb).2⟩
  generalize hS3:({ s2 with heap:=s2.heap.push { cls:=.type "list",dict:=none,data:=.seq ([]:List Value).toArray } }:Shared)=s3 at I3
  have st3:tn 0 s3.heap:=T.keep 0 _ _ st2 fun b hb o q=>by rw [← hS3]; exact Heap.get?_push_of_some _ q
  have o3:∀ b∈fp,∃ o,s3.heap.get? b=some o:=fun b hb=>let ⟨o,q,_⟩:=T.obj _ _ st3 b hb; ⟨o,q⟩
  show wpAny _ _ (newFunctionEnv scope X.env.globals cl [] X.env.qual none .none (some X.env)) _ _ _
  refine new_block C fun h4 hns4 keep4 new4=>?_
  have I4:∀ tk,Inv (cxComp X scope cl (x::ys) fp s3 (upd H2 s2.heap.objs.size (.lst []))) [] (none::frees σ js) (upd H2 s2.heap.objs.size (.lst [])) { s3 with heap:=h4,toks:=tk }:=fun tk=>comp_start (pre:=[x]) C I3 f3 o3 hns4 keep4 new4
  have st4:tn 0 h4:=T.keep 0 _ _ st3 fun b hb o q=>keep4 b o q
  generalize hX':cxComp X scope cl (x::ys) fp s3 (upd H2 s2.heap.objs.size (.lst []))=X' at I4
  have eP:X'.prog=X.prog:=by rw [← hX']; rfl
  have eW:X'.w=X.w:=by rw [← hX']; rfl
  have eK:X'.K=X.K:=by rw [← hX']; rfl
  have eA:X'.A=X.A:=by rw [← hX']; rfl
  have eC:X'.calm=true:=by rw [← hX']; exact hc
  have stat:∀ {H':Hp},(∀ b∈fp,H' b=none)→∀ b∈fp,FpOk X' [] H' b:=fun {H'} hn b hb=>by
    have ok:=(I4 0).ok
    have hex:b∈X'.ex:=by rw [← hX']; exact hb
    exact ⟨hn b hb,(ok.exf b hex).1,ok.exfs b hex,.inl hex,(ok.exf b hex).2,fun p hp=>by rw [← hX'] at hp; cases (show p∈([]:List (Addr×Obj)) from hp)⟩
  have loop:∀ s5:Shared,s5={ s3 with heap:=h4,toks:=s3.toks+([]:List (Str×Value)).length } →
      codeAny (model X.prog X.w) X.A (.compLoop (.ListComp elt [⟨.Name x px,iter,ifs,0⟩] scope pos) 0 (.ref it) (.ref s2.heap.objs.size) (compEnvC scope (cellsFrom (s3.heap.objs.size+1) scope.names cl) s3.heap.objs.size X.env))
        (compPost (model X.prog X.w) X.A X.xe (some (assign (.Name y0 py) X.env)) (fun _ s'=>SP X pins De .next s') (.ref s2.heap.objs.size) s3.heap.objs.size) s5:=by
    rintro s5 rfl
    refine comp_turns (fun n s'=>∃ i o H',Inv X' [] (o::frees σ js) H' s'∧tn i s'.heap∧(∀ b∈fp,H' b=none)∧W i n H') ?_ m0
      ⟨0,none,_,I4 _,st4,fun b hb=>(f3 b hb).1,w0⟩
    rintro n s6 ⟨i,o,H6,I6,st6,fr6,w6⟩
    rcases turn i n H6 w6 with ⟨stop,qn⟩ | ⟨go,step⟩
    · have hd:=T.done X' eP eW eK eC i [] s6 _ H6 (fun _ _=>False) I6 (stat fr6) st6 stop
      rw [eA] at hd
      refine thn hd fun r s7 ⟨hr,I7⟩=>?_
      subst hr
      obtain ⟨m7,hn7,_⟩:=I7.loc
      have hn7':s7.heap.Ns s3.heap.objs.size m7:=by rw [← hX'] at hn7; exact hn7
      have I7f:H6 s3.heap.objs.size=none:=by have:=I7.free; rw [← hX'] at this; exact this
      have b7:Un (frs X.stack) fp (upd H2 s2.heap.objs.size (.lst [])) H6 s3.heap s7.heap:=by have:=I7.base; rw [← hX'] at this; exact this
      have os7:s7.os=s3.os:=by have:=I7.os; rw [← hX'] at this; exact this
      have hok7:HOk X.prog X.w H6 s7.heap:=by have:=I7.hok; rw [eP,eW] at this; exact this
      have J7:Inv X pins σ H6 s7:=I3.call' (s':=s7) (ch:=fp) os7 b7 hok7 I7.bare (fun b hb=>⟨(f3 b hb).2.2.2.1,(f3 b hb).2.1,(f3 b hb).2.2.2.2.1,(f3 b hb).2.2.2.2.2⟩)
      have fC:FpOk X pins H6 s3.heap.objs.size:=I3.fpOk (Nat.le_refl _) I7f
      obtain ⟨oC,esC,epC,hoC,rC⟩:=id hn7'
      have J8:Inv X (pins++[(s3.heap.objs.size,oC)]) σ H6 s7:=J7.pins_of fun p hp=>by
        rcases List.mem_append.mp hp with z | z
        · have q:=J7.pin p (List.mem_append_right _ z)
          exact q
        · rw [List.mem_singleton.mp z]
          exact ⟨hoC,I7f,fC.2.1,fC.2.2.1,fun v hv=>by rw [rC.1] at hv; cases hv⟩
      refine thn (pg_name (X:=X) (i:=i0) (x:=y0) (pos:=py) hN hi0 (.inl hy0) (.inr hy0) (pins++[(s3.heap.objs.size,oC)]) s7 σ H6 (.ref s2.heap.objs.size) (.ref s2.heap.objs.size) (fun σ' H'=>σ'=σ.set i0 (some (.ref s2.heap.objs.size))∧H'=H6) J8 rfl ⟨rfl,rfl⟩) fun _ s9 ⟨σ9,H9,I9,e9,e9'⟩=>?_
      subst e9 e9'
      have hoC9:=(I9.pin (s3.heap.objs.size,oC) (List.mem_append_right _ (List.mem_append_right _ List.mem_cons_self))).1
      have I9':Inv X pins (σ.set i0 (some (.ref s2.heap.objs.size))) H9 s9:=I9.pins_of fun p hp=>I9.pin p (List.mem_append_right _ (List.mem_append_left _ hp))
      refine ⟨m7,hn7'.at fun o e=>by rw [hoC] at e; cases e; exact hoC9,fun h10 hs10=>?_⟩
      exact ⟨_,H9,turnedL (t':=s9.toks) (fp:=[s3.heap.objs.size]) I9' (fun b o hb e=>(hs10.2 b (fun z=>hb (by rw [z]; exact List.mem_cons_self))).trans e) (fun b hb=>by rw [List.mem_singleton.mp hb]; exact fC),qn⟩
    · have hit:=T.item X' eP eW eK eC i [] s6 _ H6 (fun _ _=>False) I6 (stat fr6) st6 go
      rw [eA] at hit
      refine thn hit fun r s7 ⟨u,hr,h7⟩=>?_
      subst hr
      refine thn h7 fun _ s8 ⟨y,H8,I8,r8,y8,st8,fr8⟩=>?_
      have I8':=I8.pinned (stat fr8) (T.obj _ _ st8)
      obtain ⟨N1,N2,hN1,hN2,hst⟩:=step y H8 y8
      have again:∀ {H9:Hp} {s9:Shared} {m':Nat},Inv X' ([]++pinsAt fp s8.heap) (some y::frees σ js) H9 s9→m'<n→W (i+1) m' H9→∃ m,m<n∧∃ i o H',Inv X' [] (o::frees σ js) H' s9∧tn i s9.heap∧(∀ b∈fp,H' b=none)∧W i m H':=fun {H9 s9 m'} I9 hm w9=>by
        refine ⟨m',hm,i+1,some y,H9,I9.unpinned,T.keep _ _ _ st8 fun b hb o e=>(I9.pin (b,o) (List.mem_append_right _ (List.mem_append_right _ (mem_pinsAt hb e)))).1,fun b hb=>?_,w9⟩
        obtain ⟨o,e,_⟩:=T.obj _ _ st8 b hb
        exact (I9.pin (b,o) (List.mem_append_right _ (List.mem_append_right _ (mem_pinsAt hb e)))).2.1
      subst hX'
      refine thn (pg_name (i:=0) (x:=x) (pos:=px) C.nd rfl (own_loc C.own) (own_fn C.own) _ s8 _ H8 y u (fun σ' H'=>σ'=some y::frees σ js∧H'=H8) I8' r8 ⟨rfl,rfl⟩) fun _ s9 ⟨σ9,H9,I9,e9,e9'⟩=>?_
      subst e9 e9'
      refine thn (ht fp s3 _ _ s9 _ _ _ I9 hst) fun ok s10 ⟨H10,I10,q10⟩=>?_
      cases ok with
      | false =>
        rw [if_neg Bool.false_ne_true] at q10 ⊢
        obtain ⟨m',hm,w10⟩:=hN1 _ q10
        exact again I10 hm w10
      | true =>
        rw [if_pos rfl] at q10 ⊢
        refine thn (he fp s3 _ _ s10 _ _ _ I10 q10) fun z s11 ⟨vz,H11,I11,r11,q11⟩=>?_
        obtain ⟨acc,ha,hz,m',hm,w11⟩:=hN2 _ _ q11
        refine thn (mt_append _ s11 _ H11 (.ref s2.heap.objs.size) [vz] (.ref s2.heap.objs.size) [z] (fun _ H'=>H'=upd H11 s2.heap.objs.size (.lst (acc++[vz]))) I11 rfl (.cons r11 .nil) ⟨_,acc,vz,rfl,rfl,ha,hz,rfl⟩) fun _ s12 ⟨_,H12,I12,_,e12⟩=>?_
        subst e12
        exact again I12 hm w11
  exact codeAny_compStart_list (loop _ rfl) (T.self X.A 0 _ _ _ st4 (loop _ rfl))
end
end Nd
namespace Nd
open PySem L2
theorem strict_of:∀ {l:List Int},l.Nodup→l.Pairwise (·≤·)→l.Pairwise (· < ·)
  | [],_,_=>.nil
  | a::l,n,p=>by
    obtain ⟨h1,q1⟩:=List.pairwise_cons.mp p
    obtain ⟨m1,n1⟩:=List.nodup_cons.mp n
    refine List.pairwise_cons.mpr ⟨fun b hb=>?_,strict_of n1 q1⟩
    have:=h1 b hb
    have : a≠b:=fun z=>m1 (by rw [z]; exact hb)
    omega
end Nd
namespace Nd
open PySem PySem.Spec PyProof.Rows L2
end Nd
namespace Nd
open PySem L2
def rIs (K:PySem.W.Frag):List V→Hp→VK→Prop:=fun xs H Q=>∃ x n t b,xs=[x,.ty n]∧TyOf K H x t∧PySem.W.kitOne K t (.type n)=some b∧Q (.bl b) H
theorem isi_ok {X:Cx}:CallR X (.builtin "isinstance") (rIs X.K):=call_isinst
theorem kit_eq {K:PySem.W.Frag} {T:String}:PySem.W.kitOne K (.type T) (.type T)=some true:=by
  unfold PySem.W.kitOne
  rw [if_pos (by simp)]
theorem sz {n:Nat} (h:n≤1000:=by first | decide | simp | (simp; omega)):n≤sizeLine:=Nat.le_of_lt (small1000 h)
end Nd
namespace Nd
open PySem PySem.Spec PyProof.Rows L2
theorem okThere {P:Program} {w:World} {H:Hp} {h:Heap} {a:Addr} {o:HO} (x:ObjOk P w H h a o):∃ u,h.get? a=some u:=by
  cases o with
  | lst xs=>obtain ⟨_,_,_,_,e⟩:=x; exact ⟨_,e⟩
  | tup xs=>obtain ⟨_,_,_,u,e,_⟩:=x; exact ⟨_,e⟩
  | dK kvs=>obtain ⟨_,_,_,_,u,_,_,e,_⟩:=x; exact ⟨_,e⟩
  | dT kvs=>obtain ⟨_,_,_,_,u,_,_,e,_⟩:=x; exact ⟨_,e⟩
  | set S n=>obtain ⟨u,_,_,_,e,_⟩:=x; exact ⟨_,e⟩
  | ins C dx fs=>obtain ⟨_,_,_,e,_⟩:=x; exact ⟨_,e⟩
  | own y=>exact x
  | xd fs=>obtain ⟨_,⟨_,_,_,e,_⟩,_⟩:=x; exact ⟨_,e⟩
  | rng lo hi=>obtain ⟨_,_,_,e⟩:=x; exact ⟨_,e⟩
  | frz ob u=>obtain ⟨e,_⟩:=x; exact ⟨_,e⟩
  | tbl ps=>exact ⟨_,(show h.get? a=some _ from x)⟩
  | met f y=>exact ⟨_,(show h.get? a=some _ from x)⟩
  | ext φ=>obtain ⟨_,e,_⟩:=x; exact e
structure Fly (P:Program) (w:World) (outer:List Env) (H H':Hp) (s s':Shared) (e C t:Addr) (B:Heap):Prop where
  os:s'.os=s.os
  bare:AllBare s'.gens
  fly:Heap.FlyingW B outer e (.ref C) (.ref t) s'.heap
  cov:∀ b o,s.heap.get? b=some o→b∉frs outer→∃ o',B.get? b=some o'∧(H b=none→o'=o)
  slot:∀ b o,s.heap.get? b=some o→b∈frs outer→H b=none→∃ sl,s'.heap.get? b=some { o with slots:=sl }
  free:∀ b o,s.heap.get? b=some o→H b=none→H' b=none
  tups:∀ b xs,H b=some (.tup xs)→H' b=some (.tup xs)
  frzs:∀ b o u,H b=some (.frz o u)→H' b=some (.frz o u)
  tbls:∀ b ps,H b=some (.tbl ps)→∃ more,H' b=some (.tbl (ps++more))
  hok:HOk P w H' B
def CXN (P:Program) (w:World):CXT:=fun outer H s E ev s'=>∃ (e C t:Addr) (H':Hp) (B:Heap),ev=.ref e∧Fly P w outer H H' s s' e C t B∧E (.ref C) none H'
section
variable {P:Program} {w:World} {outer:List Env} {H H':Hp} {s s':Shared} {e C t:Addr} {B:Heap}
theorem Fly.un (F:Fly P w outer H H' s s' e C t B):Un (frs outer) [] H H' s.heap s'.heap where
  keep:=fun b o q n hb _=>by
    obtain ⟨o',e1,e2⟩:=F.cov b o q hb
    rw [e2 n] at e1
    exact F.fly.1 b o e1
  slot:=fun b o q n hb _=>F.slot b o q hb n
  free:=fun b o q n _=>F.free b o q n
  there:=fun b o q _=>by
    by_cases hb:b∈frs outer
    · obtain ⟨_,o',e1,_⟩:=F.fly.2.2.1.mem hb
      exact ⟨o',e1⟩
    · obtain ⟨o',e1,_⟩:=F.cov b o q hb
      exact ⟨o',F.fly.1 b o' e1⟩
  tups:=F.tups
  frzs:=F.frzs
  tbls:=F.tbls
theorem Fly.held (F:Fly P w outer H H' s s' e C t B):HOk P w H' s'.heap:=F.hok.kept F.fly.1
theorem Fly.new (F:Fly P w outer H H' s s' e C t B):H' e=none:=by
  cases q:H' e with
  | none=>rfl
  | some u =>
    obtain ⟨o,e1⟩:=okThere (F.hok e u q)
    rw [F.fly.2.1] at e1
    cases e1
theorem Fly.on {h':Heap} (F:Fly P w outer H H' s s' e C t B) (f:Heap.FlyingW B outer e (.ref C) (.ref t) h') (u:s'.heap.UpToSlots h'):Fly P w outer H H' s { s' with heap:=h' } e C t B :=
  ⟨F.os,F.bare,f,F.cov,fun b o q hb n=>by
    obtain ⟨sl,e1⟩:=F.slot b o q hb n
    obtain ⟨_,o',e2,nf⟩:=F.fly.2.2.1.mem hb
    rw [e1] at e2
    cases e2
    obtain ⟨sl',e3⟩:=u b _ e1 nf
    exact ⟨sl',e3⟩,F.free,F.tups,F.frzs,F.tbls,F.hok⟩
end
section
variable {P:Program} {w:World} {K:PySem.W.Frag} {mg:Str→Option Value} {base:Heap} {N:List Str} {qual:Str} {scope:Scope} {f:Addr} {cd:Value} {A:Around} {outer:List Env} {s:Shared} {H:Hp} {E:XK}
theorem mem_frs {env:Env} {L b:Addr} {l:List Env} (he:env.frame=some L) (hm:b∈frs (env::l)):b=L∨b∈frs l:=by
  obtain ⟨x,hx,hf⟩:=List.mem_filterMap.mp hm
  rcases List.mem_cons.mp hx with z | z
  · subst z
    rw [he] at hf
    exact .inl (Option.some.inj hf).symm
  · exact .inr (List.mem_filterMap.mpr ⟨x,z,hf⟩)
theorem raised_here {pins:List (Addr×Obj)} {σ:L2.St} {H1:Hp} {s1:Shared} {h':Heap} {e C:Addr} {vs:List Value} (I:Inv (cxOf (CXN P w) P w K mg base N qual scope f cd A outer s H E) pins σ H1 s1) (hx:Heap.MadeExcOf s1.heap h' e (.ref C) vs) (q:E (.ref C) none H1):(cxOf (CXN P w) P w K mg base N qual scope f cd A outer s H E).xe (.ref e) { s1 with heap:=h' }:=by
  have hst:=I.stack
  have hfrz:=I.stkFree
  have hab:=I.ok.above
  have hb:=I.base
  have hin:∀ env∈(envOfC qual scope s.heap.objs.size f cd::outer),∀ b,env.frame=some b→b∈frs (envOfC qual scope s.heap.objs.size f cd::outer):=fun env he b hf=>List.mem_filterMap.mpr ⟨env,he,hf⟩
  have nL:∀ b o,s.heap.get? b=some o→b∉frs outer→b∉frs (envOfC qual scope s.heap.objs.size f cd::outer):=fun b o e1 hn hm=>by
    rcases mem_frs (L:=s.heap.objs.size) rfl hm with z | z
    · exact absurd (Heap.lt_size e1) (by rw [z]; exact Nat.lt_irrefl _)
    · exact hn z
  refine wpAny_leaves_madeW (base:=PySem.W.hideAll s1.heap (frs (envOfC qual scope s.heap.objs.size f cd::outer))) (L:=s.heap.objs.size) I.ok.frames rfl (fun b o e1=>PySem.W.of_hideAll _ e1) (PySem.W.funFrames_hide hst hin) hx fun h2 t x1 x2 x3 x4=>?_
  refine ⟨e,C,t,H1,_,rfl,⟨I.os,I.bare,x1,fun b o e1 hn=>?_,fun b o e1 hm n=>?_,fun b o e1 n=>hb.free b o e1 n (by intro z; exact nomatch z),hb.tups,hb.frzs,hb.tbls,fun a u e1=>?_⟩,q⟩
  · obtain ⟨o',e2⟩:=hb.there b o e1 (by intro z; exact nomatch z)
    refine ⟨o',PySem.W.hideAll_get _ e2 (nL b o e1 hn),fun n=>?_⟩
    have e3:=hb.keep b o e1 n hn (by intro z; exact nomatch z)
    rw [e3] at e2
    exact (Option.some.inj e2).symm
  · obtain ⟨sl,e2⟩:=hb.slot b o e1 n hm (by intro z; exact nomatch z)
    have hm':b∈frs (envOfC qual scope s.heap.objs.size f cd::outer):=by
      obtain ⟨x,hx',hf⟩:=List.mem_filterMap.mp hm
      exact List.mem_filterMap.mpr ⟨x,List.mem_cons_of_mem _ hx',hf⟩
    obtain ⟨_,o',e3,nf⟩:=hst.mem hm'
    rw [e2] at e3
    cases e3
    obtain ⟨sl',e4⟩:=x4 b _ (hx.keeps _ _ e2) nf
    exact ⟨sl',e4⟩
  · refine (I.hok a u e1).stay (fun b v hc e2=>PySem.W.hideAll_get _ e2 fun hm=>?_) (fun _ z=>z) (fun _ _ z=>z)
    have z:=hfrz b hm
    rcases hc with r | r
    · rw [r,e1] at z; cases z
    · rw [r] at z; cases z
theorem passN:Passes (CXN P w) (cxOf (CXN P w) P w K mg base N qual scope f cd A outer s H E) E:=by
  intro pins σ H1 s1 ev s' I h
  obtain ⟨e,C,t,H',B,rfl,F,q⟩:=h
  have hb:=I.base
  have nL:∀ b o,s.heap.get? b=some o→b∉frs outer→b∉frs (envOfC qual scope s.heap.objs.size f cd::outer):=fun b o e1 hn hm=>by
    rcases mem_frs (L:=s.heap.objs.size) rfl hm with z | z
    · exact absurd (Heap.lt_size e1) (by rw [z]; exact Nat.lt_irrefl _)
    · exact hn z
  refine wpAny_leaves_onW (L:=s.heap.objs.size) I.ok.frames rfl F.fly fun h2 x1 x2=>?_
  refine ⟨e,C,t,H',B,rfl,⟨F.os.trans I.os,F.bare,x1,fun b o e1 hn=>?_,fun b o e1 hm n=>?_,fun b o e1 n=>?_,fun b xs z=>F.tups b xs (hb.tups b xs z),fun b o u z=>F.frzs b o u (hb.frzs b o u z),fun b ps z=>?_,F.hok⟩,q⟩
  · obtain ⟨o1,e2⟩:=hb.there b o e1 (by intro z; exact nomatch z)
    obtain ⟨o',e3,e4⟩:=F.cov b o1 e2 (nL b o e1 hn)
    refine ⟨o',e3,fun n=>?_⟩
    have e5:=hb.keep b o e1 n hn (by intro z; exact nomatch z)
    rw [e5] at e2
    rw [e4 (hb.free b o e1 n (by intro z; exact nomatch z))]
    exact (Option.some.inj e2).symm
  · obtain ⟨sl,e2⟩:=hb.slot b o e1 n hm (by intro z; exact nomatch z)
    have hm':b∈frs (envOfC qual scope s.heap.objs.size f cd::outer):=by
      obtain ⟨x,hx',hf⟩:=List.mem_filterMap.mp hm
      exact List.mem_filterMap.mpr ⟨x,List.mem_cons_of_mem _ hx',hf⟩
    obtain ⟨sl2,e3⟩:=F.slot b _ e2 hm' (hb.free b o e1 n (by intro z; exact nomatch z))
    obtain ⟨_,o',e4,nf⟩:=F.fly.2.2.1.mem hm'
    rw [e3] at e4
    cases e4
    obtain ⟨sl',e5⟩:=x2 b _ e3 nf
    exact ⟨sl',e5⟩
  · obtain ⟨o1,e2⟩:=hb.there b o e1 (by intro z; exact nomatch z)
    exact F.free b o1 e2 (hb.free b o e1 n (by intro z; exact nomatch z))
  · obtain ⟨m1,z1⟩:=hb.tbls b ps z
    obtain ⟨m2,z2⟩:=F.tbls b _ z1
    exact ⟨m1++m2,by rw [z2,Array.append_assoc]⟩
theorem okX {x:Str} {st:Stmt} {fd:FuncData} {ps:List Str} {k:Nat} {sp:Sp} (F:Fun K x qual st f fd) (S:FnScope N ps (defScope st)) (len:∀ vs H Q E,sp vs H Q E→vs.length=ps.length) (hbody:∀ (cdv:Value) (A:Around) (outer:List Env) (s:Shared) (H:Hp) (vs:List V) (Q:VK) (E:XK),Room k (A.deeper (envOfC qual (defScope st) s.heap.objs.size f cdv))→sp vs H Q E→∃ t,PSs (cxOf (CXN P w) P w K mg base N qual (defScope st) f cdv A outer s H E) (defBody st) t∧t { nx:=fun _ H'=>Q .non H',rt:=Q } (start N vs) H):FnOk P w K mg base (CXN P w) (k+1) f fd ps sp:=by
  obtain ⟨oc,od,kV,doc,pm,an,cdv,ct,osl,rfl,lk,hcd⟩:=F.ex
  exact fn_of lk hcd S len fun A outer s H vs Q E hr hsp=>hbody cdv A outer s H vs Q E hr hsp
end
abbrev bmV:List Value:=[.type "ValueError",.type "Exception",.type "BaseException",.type "object"]
def OwnExc (h:Heap) (C:Addr):Prop:=∃ bm N nm q bs hdct sn sub ab col dd k0 k1 k2 k3 k5 mN,h.get? C=some (excClassObj nm q C N bs bm hdct sn sub ab col dd k0 k1 k2 k3 k5 "ValueError.__new__")∧h.Ns N mN∧mN "__init__" = none∧OwnTail h bmV bm
theorem ownExc_of {K:PySem.W.Frag} {h:Heap} {C:Addr} (X:K.In h) (q:PySem.W.excIn K C bmV "ValueError.__new__" = true):OwnExc h C:=by
  unfold PySem.W.excIn at q
  split at q
  · rename_i dd cd sl ho
    split at q
    · rename_i C' bm k0 k1 k2 k3 n k5 hm hs
      simp only [Bool.and_eq_true,beq_iff_eq,Bool.not_eq_true'] at q
      obtain ⟨⟨⟨⟨⟨rfl,rfl⟩,hdel⟩,ht⟩,hok⟩,hni⟩:=q
      obtain ⟨nm,bs,mro,ns,qn,hd,sn,sub,ab,col,del⟩:=cd
      dsimp only at hm hdel hok hni
      subst hm hdel
      have hsl:sl=#[k0,k1,k2,k3,some (.builtin "ValueError.__new__"),k5]:=by
        obtain ⟨l⟩:=sl
        simp only at hs
        rw [hs]
      subst hsl
      exact ⟨bm,ns,nm,qn,bs,hd,sn,sub,ab,col,dd,k0,k1,k2,k3,k5,_,X _ _ ho,.of_isNs (PySem.W.isNs_of_in X hok),PySem.W.nsMap_none_of_in X hok hni,PySem.W.tail_of_in X ht⟩
    · cases q
  · cases q
section
variable {P:Program} {w:World} {K:PySem.W.Frag} {mg:Str→Option Value} {base:Heap} {N:List Str} {qual:Str} {scope:Scope} {f:Addr} {cd:Value} {A:Around} {outer:List Env} {s:Shared} {H:Hp} {E:XK}
def tRaise (C:Addr) (E:XK) (ta:TA):TS:=fun _ σ H=>ta σ H fun vs H1=>vs.length≤sizeLine∧E (.ref C) none H1
theorem ps_raise {C:Addr} {x:Str} {np cpos pos:Pos} {e₀:Expr} {es:List Expr} {ta:TA} (hg:Gl (cxOf (CXN P w) P w K mg base N qual scope f cd A outer s H E) x) (hm:mg x=some (.ref C)) (hc:PySem.W.excIn K C bmV "ValueError.__new__" = true) (ha:PA (cxOf (CXN P w) P w K mg base N qual scope f cd A outer s H E) (e₀::es) ta) (hd:(x == ("__debug__" : Str))=false:=by decide) (he:starEach (e₀::es) (envOfC qual scope s.heap.objs.size f cd)=(false,eval e₀ (envOfC qual scope s.heap.objs.size f cd))::starEach es (envOfC qual scope s.heap.objs.size f cd):=by rfl) (hpl:(backTo cpos (starEach es (envOfC qual scope s.heap.objs.size f cd))).any (·.1)=false:=by rfl):PS (cxOf (CXN P w) P w K mg base N qual scope f cd A outer s H E) (.Raise (some (.Call (.Name x np) (e₀::es) [] cpos)) none pos) (tRaise C E ta):=by
  intro pins s1 σ H1 D I h
  obtain ⟨bm,NN,nm,q,bs,hdct,sn,sub,ab,col,dd,k0,k1,k2,k3,k5,mN,hC,hN,hni,T⟩:=ownExc_of (h:=base) I.ok.mod.kin hc
  refine wpAny_Raise_call_subT (C:=C) (nm:=nm) (q:=q) (N:=NN) (bs:=bs) (bm:=bm) (hdct:=hdct) (sn:=sn) (sub:=sub) (ab:=ab) (col:=col) (dd:=dd) (k0:=k0) (k1:=k1) (k2:=k2) (k3:=k3) (k5:=k5) F.excBase_ValueError (mN:=mN)
    (T.hasType (by decide)) (I.ok.hd rfl) (by show (backTo cpos (starEach (e₀::es) (envOfC qual scope s.heap.objs.size f cd))).any (·.1)=false; rw [he]; show (false || (backTo cpos (starEach es (envOfC qual scope s.heap.objs.size f cd))).any (·.1))=false; rw [hpl]; rfl) hni (ld_glob I hg hm ⟨rfl,?_⟩ hd)
  show wpAny _ _ (evalArgs (.ref C) true (backTo cpos (starEach (e₀::es) (envOfC qual scope s.heap.objs.size f cd))) []) _ _ _
  rw [he]
  have hA:=ha cpos pins s1 σ H1 _ I h
  rw [show starEach (e₀::es) (cxOf (CXN P w) P w K mg base N qual scope f cd A outer s H E).env=(false,eval e₀ (envOfC qual scope s.heap.objs.size f cd))::starEach es (envOfC qual scope s.heap.objs.size f cd) from he] at hA
  refine Calls.evalArgs_plain (wpAny_mono hA (fun us s2 h2=>?_) fun _ _ y=>y)
  obtain ⟨vs,H2,I2,rv,hz,hE⟩:=h2
  have hk:∀ b o,base.get? b=some o→s2.heap.get? b=some o:=I2.bk
  exact ⟨rfl,by rw [← rv.length]; exact hz,hk _ _ hC,hN.keeps hk,T.keeps hk,fun h' e hx=>raised_here I2 hx hE⟩
end
end Nd
namespace Nd
open PySem PySem.Spec PyProof.Rows L2
abbrev marked (X:Cx) (v:Value) (E:Value→Shared→Prop):Cx:={ X with A:=X.A.mark (some v),calm:=false,xe:=E }
section
variable {X:Cx} {pins:List (Addr×Obj)} {σ:L2.St} {H:Hp} {s:Shared} {v:Value} {E:Value→Shared→Prop}
theorem inv_marked (I:Inv X pins σ H s):Inv (marked X v E) pins σ H s :=
  ⟨⟨I.ok.mod,I.ok.kind,I.ok.glob,I.ok.blt,I.ok.above,I.ok.inj,I.ok.has,I.ok.cab,(fun z=>nomatch z),I.ok.frames,I.ok.stk,I.ok.exf,I.ok.bs,I.ok.bsz,I.ok.noex,I.ok.exfs,I.ok.funs,I.ok.frf⟩,I.os,I.bare,I.base,I.loc,I.cell,I.free,I.freeC,I.pin,I.hok,I.len⟩
theorem inv_unmarked (hc:X.calm=true→X.A.handled=none) (I:Inv (marked X v E) pins σ H s):Inv X pins σ H s :=
  ⟨⟨I.ok.mod,I.ok.kind,I.ok.glob,I.ok.blt,I.ok.above,I.ok.inj,I.ok.has,I.ok.cab,hc,I.ok.frames,I.ok.stk,I.ok.exf,I.ok.bs,I.ok.bsz,I.ok.noex,I.ok.exfs,I.ok.funs,I.ok.frf⟩,I.os,I.bare,I.base,I.loc,I.cell,I.free,I.freeC,I.pin,I.hok,I.len⟩
theorem gone_ok {M:Model} {A:Around} {i:Nat} {n:Str} {pos:Pos} {Q:Unit→Shared→Prop} (I:Inv X pins σ H s) (hN:X.N.Nodup) (hi:X.N[i]? = some n) (hk:X.env.scope.names.lookup n=some .local) (h:∀ s',Inv X pins (σ.set i none) H s'→Q () s'):wpAny M A (do bindName X.env n .none; unbindBehindTheSuite X.env n pos) Q E s:=by
  obtain ⟨m,hn,hl⟩:=id I.loc
  have hiσ:i<σ.length:=by rw [I.len]; exact (List.getElem?_eq_some_iff.mp hi).1
  refine wpAny_nameGoes_keeps hk hn (by rw [I.ok.kind]; rfl) fun h' v hn' hs=>?_
  obtain ⟨oL,_,_,hoL,_⟩:=id hn
  have old:∀ b o,X.s₀.heap.get? b=some o→b≠X.env.locals:=fun b o e=>Nat.ne_of_lt (Nat.lt_of_lt_of_le (Heap.lt_size e) I.ok.above)
  refine h _ ⟨I.ok,I.os,I.bare,⟨fun b o e n hb hx=>(hs.2 b (old b o e)).trans (I.base.keep b o e n hb hx),fun b o e n hb hx=>?_,I.base.free,fun b o e hx=>?_,I.base.tups,I.base.frzs,I.base.tbls⟩,⟨_,hn',fun j y v' e1 e2 e3=>?_⟩,fun y c e=>?_,I.free,I.freeC,fun p hp=>?_,fun b ob e=>?_,by simpa using I.len⟩
  · obtain ⟨sl,e1⟩:=I.base.slot b o e n hb hx
    exact ⟨sl,(hs.2 b (old b o e)).trans e1⟩
  · obtain ⟨o',e1⟩:=I.base.there b o e hx
    exact ⟨o',(hs.2 b (old b o e)).trans e1⟩
  · by_cases hj:j=i
    · subst hj
      rw [List.getElem?_set_self hiσ] at e2
      cases e2
    · rw [List.getElem?_set_ne (Ne.symm hj)] at e2
      obtain ⟨u',r',q⟩:=hl j y v' e1 e2 e3
      refine ⟨u',r',?_⟩
      rcases q with ⟨k,e⟩ | ⟨k,c,e,z⟩
      · have ny:y≠n:=fun z=>hj (nodup_ix hN e1 (z▸hi))
        exact .inl ⟨k,(if_neg ny).trans e⟩
      · exact .inr ⟨k,c,e,z.sameBut hs (I.cne y c e)⟩
  · obtain ⟨w',z⟩:=I.cell y c e
    exact ⟨w',z.sameBut hs (I.cne y c e)⟩
  · obtain ⟨e,n,ne,nf,d⟩:=I.pin p hp
    exact ⟨(hs.2 p.1 ne).trans e,n,ne,nf,d⟩
  · refine (I.hok b ob e).stay (fun c w' hc q=>(hs.2 c ?_).trans q) (fun _ q=>q) fun _ _ q=>q
    intro z
    have f:=I.free
    rw [← z] at f
    rcases hc with r | r
    · rw [r,e] at f; cases f
    · rw [r] at f; cases f
end
def IsExc (x C:Addr) (h:Heap):Prop:=∃ oe vs,h.get? x=some oe∧oe.cls=.ref C∧oe.data=.fields vs
abbrev ExO (x C:Addr):HO:=.ext (IsExc x C)
theorem exO_ok {P:Program} {w:World} {H:Hp} {h:Heap} {x C:Addr} (e:IsExc x C h):ObjOk P w H h x (ExO x C) :=
  ⟨e,let ⟨oe,_,e1,_⟩:=e; ⟨oe,e1⟩,fun h1 h2 ⟨oe,vs,e1,e2,e3⟩ k=>⟨oe,vs,k oe e1,e2,e3⟩⟩
section
variable {M:Model} {A:Around} {E:Value→Shared→Prop} {h:Heap} {g:Array GenState} {d:Drawn} {t:Nat} {os:OsState}
variable {nm q:Str} {N:Addr} {bs bm:List Value} {hdct:Bool} {sn:List Str} {sub:List Value} {ab:Bool} {col:Option Bool} {dd:Option Addr} {k0 k1 k2 k3 k5:Option Value} {newId:String}
theorem matches_own {K:PySem.W.Frag} {e C D:Addr} {oe:Obj} {Q:Bool→Shared→Prop} (KX:K.In h) (hD:h.get? D=some (excClassObj nm q D N bs bm hdct sn sub ab col dd k0 k1 k2 k3 k5 newId)) (he:h.get? e=some oe) (hc:oe.cls=.ref C) (hb:bm.contains (.type "BaseException")=true) (hs:PySem.W.subIn K (.ref C) (.ref D)=some true) (hq:Q true ⟨h,g,d,t,os⟩):wpAny M A (excMatches (.ref e) (.ref D)) Q E ⟨h,g,d,t,os⟩:=by
  have b1:(Value.ref D::bm).contains (.type "BaseException")=true:=by rw [List.contains_cons,hb,Bool.or_true]
  have L:=PySem.W.looks_subIn (M:=M) KX hs
  have f:=tc_notTuple
  unfold excMatches
  repeat (first | (with_reducible refine wpAny_loadPart_at he ?_; rw [hc]) | with_reducible refine wpAny_loadPart_at hD ?_ | with_reducible refine PySem.W.Looks.at L ?_ | (with_reducible refine wpAny_isSubtype_exc hD ?_; rw [b1]) | wp_step)
  exact hq
end
section
variable {P:Program} {w:World} {X:Cx} {pins:List (Addr×Obj)} {σ:L2.St} {H1 H2:Hp} {s1 s2:Shared} {e C t:Addr} {B:Heap}
theorem fly_inv (I:Inv X pins σ H1 s1) (F:Fly X.prog X.w X.stack H1 H2 s1 s2 e C t B):Inv X pins σ H2 s2 :=
  I.call' (ch:=[]) F.os F.un F.held F.bare fun b z=>nomatch z
theorem fly_exc (F:Fly P w X.stack H1 H2 s1 s2 e C t B):IsExc e C s2.heap :=
  let ⟨oe,vs,e1,e2,e3,_⟩:=F.fly.first
  ⟨oe,vs,e1,e2,e3⟩
theorem inv_caught (I:Inv X pins σ H1 s1) (F:Fly X.prog X.w X.stack H1 H2 s1 s2 e C t B):Inv X pins σ (upd H2 e (ExO e C)) s2:=by
  have un:=F.un
  have he:B.get? e=none:=F.fly.2.1
  have hn:=F.new
  have nf:e∉frs X.stack:=fun z=>by
    obtain ⟨_,o,e1,nd⟩:=F.fly.2.2.1.mem z
    obtain ⟨oe,vs,e2,_,e3⟩:=fly_exc F
    rw [e1] at e2
    cases e2
    exact nd _ e3
  have new:∀ b o,s1.heap.get? b=some o→b≠e:=fun b o e1 z=>by
    by_cases hb:b∈frs X.stack
    · exact nf (z▸hb)
    · obtain ⟨o',e2,_⟩:=F.cov b o e1 hb
      rw [z,he] at e2
      cases e2
  have I':Inv X pins σ (upd H2 e (ExO e C)) s2:=I.call' (ch:=[]) F.os
    ⟨un.keep,un.slot,fun b o e1 n hx=>by rw [upd_ne (new b o e1)]; exact un.free b o e1 n hx,un.there,fun b xs z=>?_,fun b o u z=>?_,fun b ps z=>?_⟩ ?_ F.bare fun b z=>nomatch z
  · exact I'
  · have z2:=un.tups b xs z
    rw [upd_ne (ne_of_none z2 hn)]; exact z2
  · have z2:=un.frzs b o u z
    rw [upd_ne (ne_of_none z2 hn)]; exact z2
  · obtain ⟨m,z2⟩:=un.tbls b ps z
    exact ⟨m,by rw [upd_ne (ne_of_none z2 hn)]; exact z2⟩
  · intro a u z
    by_cases ha:a=e
    · subst ha
      rw [upd_same] at z
      cases z
      exact exO_ok (fly_exc F)
    · rw [upd_ne ha] at z
      refine (F.held a u z).stay (fun _ _ _ q=>q) (fun b q=>?_) (fun b xs q=>?_)
      · rw [upd_ne (ne_of_none q hn)]; exact q
      · rw [upd_ne (ne_of_none q hn)]; exact q
end
section
variable {X:Cx} {E:XK}
theorem call_at {CX:CXT} {kk:Nat} {f:Addr} {fd:FuncData} {ps:List Str} {sp:Sp} {x:Str} {p pos:Pos} {e:Expr} {es:List Expr} {t:TA} (F:FnOk X.prog X.w X.K X.mg X.base CX kk f fd ps sp) (hr:Room kk X.A) (hg:Gl X x) (hm:X.mg x=some (.ref f)) (hk:PySem.W.keepIn X.K (.ref f)=true) (hb:Binds X.K fd ps []) (ha:PA X.nox (e::es) t) {pins:List (Addr×Obj)} {s:Shared} {σ:L2.St} {H:Hp} {Q:VK} {Ex:Value→Shared→Prop} (I:Inv X pins σ H s) (h:t σ H fun vs H1=>sp vs H1 Q E) (hE:∀ H1 s1 ev s',Inv X pins σ H1 s1→CX X.stack H1 s1 E ev s'→Ex ev s') (hdb:(x == ("__debug__" : Str))=false:=by decide) (he:starEach (e::es) X.env=(false,eval e X.env)::starEach es X.env:=by rfl) (hpl:(backTo pos (starEach es X.env)).any (·.1)=false:=by rfl):wpAny (model X.prog X.w) X.A (eval (.Call (.Name x p) (e::es) [] pos) X.env) (EP X pins σ Q) Ex s:=by
  refine wpAny_Call_Name_kw (ld_glob I hg hm ?_ hdb)
  have hA:=wpAny_mono (ha pos pins s σ H _ (I.wish _) h) (Q':=AP X pins σ fun vs H1=>sp vs H1 Q E) (E':=Ex) (fun _ _ ⟨v,H',I',r,q⟩=>⟨v,H',I'.unwish,r,q⟩) (fun _ _ z=>False.elim z)
  refine PySem.W.callWith_K (h₀:=X.base) I.ok.mod.kin hk (thn hA fun us s1 ⟨vs,H1,I1,r,q⟩=>⟨I1.kIn,?_⟩) he hpl
  have hl:us.length=ps.length:=by rw [← r.length]; exact F.len _ _ _ _ q
  have hbb:=hb s1 us I1.kIn (by simpa using hl)
  rw [List.append_nil] at hbb
  refine wpAny_call (codeAny_mono (F.run X.A X.stack s1 H1 ⟨us,[]⟩ us vs Q E hr I1.env0 hbb r q) fun rs s' hq=>?_)
  cases rs with
  | error ev=>exact hE H1 s1 ev s' I1 hq
  | ok fl =>
    cases fl with
    | ret u=>exact I1.after hq
    | next=>exact False.elim hq
    | brk=>exact False.elim hq
    | cont=>exact False.elim hq
def caughtSt (j k:Nat) (x:Addr) (σ:L2.St):L2.St:=((σ.set k (some (.ref x))).set j (some (.ref x))).set k none
theorem caught_ok {pins:List (Addr×Obj)} {σ:L2.St} {H1 H2:Hp} {s1 s2:Shared} {e C D t:Addr} {B:Heap} {j k:Nat} {n y c:Str} {np hp ap yp vp:Pos} {De:Ends} (hst:X.stack=X.env::X.outer) (hfr:X.env.frame=some X.env.locals) (hN:X.N.Nodup) (hk:X.N[k]? = some n) (hkl:X.env.scope.names.lookup n=some .local) (hj:X.N[j]? = some y) (hjl:X.env.scope.names.lookup y=some .local) (hg:Gl X c) (hm:X.mg c=some (.ref D)) (hD:PySem.W.excIn X.K D bmV "ValueError.__new__" = true) (hs:PySem.W.subIn X.K (.ref C) (.ref D)=some true) (I:Inv X pins σ H1 s1) (F:Fly X.prog X.w X.stack H1 H2 s1 s2 e C t B) (q:De.nx (caughtSt j k e σ) (upd H2 e (ExO e C))) (hdb:(c == ("__debug__" : Str))=false:=by decide) (hnd:(n == ("__debug__" : Str))=false:=by decide) (hsw:swapsWith (.Name n vp) (some (.Name y yp)) ap.line X.env=pure false:=by rfl) (hcd:(n == ("__classdict__" : Str))=false:=by decide):wpAny (model X.prog X.w) X.A (noteFrame (.ref e) X.env) (fun _ s3=>wpAny (model X.prog X.w) X.A (setFlight (.ref e) none) (fun _ s4=>wpAny (model X.prog X.w) X.A (handleBy (.ref e) X.env [.ExceptHandler (some (.Name c np)) (some n) [.Assign [.Name y yp] (.Name n vp) ap] hp]) (SP X pins De) X.xe s4) X.xe s3) X.xe s2:=by
  have fr:X.A.frames=some (X.env::X.outer):=by rw [← hst]; exact I.ok.frames
  have fl:=F.fly
  rw [hst] at fl
  refine wpAny_looks_onW fr hfr fl fun h3 x1 x2=>?_
  refine wpAny_landsW x1 fun h4 x3 x4=>?_
  have F4:=F.on (h':=h4) (by rw [hst]; exact x3) (x2.trans x4)
  have I4:=fly_inv I F4
  refine wpAny_handleBy_cons (codeAny_handlers_test ?_) (by intro z; cases z)
  refine ld_glob (X:=marked X (.ref e) X.xe) (inv_marked I4) hg hm ?_ hdb
  obtain ⟨bm,NN,nm,qn,bs,hdct,sn,sub,ab,col,dd,k0,k1,k2,k3,k5,mN,hC,_,_,T⟩:=ownExc_of (h:=h4) I4.kIn hD
  obtain ⟨oe,vs,e1,e2,e3⟩:=fly_exc F4
  refine matches_own (d:=s2.drawn) (g:=s2.gens) (t:=s2.toks) (os:=s2.os) I4.kIn hC e1 e2 (T.hasType (by decide)) hs ?_
  show codeAny _ _ _ _ _
  refine codeAny_handlers_suite_as ?_
  refine lands_againW (s:={ s2 with heap:=h4 }) x3 fun h5 x5 x6=>?_
  have F5:=F4.on (h':=h5) (by rw [hst]; exact x5) x6
  have I5:=inv_caught I F5
  refine store_ok (X:=marked X (.ref e) X.xe) (v:=.ref e) (inv_marked I5) hN hk (.inl hkl) rfl (fun s6 I6=>?_) (.inr hkl)
  have hkσ:k<σ.length:=by rw [I.len]; exact (List.getElem?_eq_some_iff.mp hk).1
  have P:=pss_one (ps_set (X:=marked X (.ref e) (fun _ _=>False))
      (i:=j) (pos:=ap) (pos':=yp) hN hj (.inl hjl) (pe_var (i:=k) (x:=n) (pos:=vp) hk (.inl hkl) hnd hcd) hsw (.inr hjl))
    pins s6 (σ.set k (some (.ref e))) (upd H2 e (ExO e C)) { nx:=fun σ' H'=>σ'=(σ.set k (some (.ref e))).set j (some (.ref e))∧H'=upd H2 e (ExO e C),rt:=fun _ _=>False,bk:=fun _ _=>False,ct:=fun _ _=>False } (inv_marked (inv_unmarked I.ok.hd I6))
    ⟨.ref e,by rw [List.getElem?_set_self hkσ],rfl,rfl⟩
  refine wpAny_mono P (fun f s7 q7=>?_) fun _ _ z=>False.elim z
  cases f with
  | next =>
    obtain ⟨σ',H',I7,rfl,rfl⟩:=q7
    exact gone_ok (inv_unmarked I.ok.hd I7) hN hk hkl fun s8 I8=>⟨_,_,I8,q⟩
  | ret u=>obtain ⟨_,_,_,_,_,z⟩:=q7; exact z.elim
  | brk=>obtain ⟨_,_,_,z⟩:=q7; exact z.elim
  | cont=>obtain ⟨_,_,_,z⟩:=q7; exact z.elim
def tTry (K:PySem.W.Frag) (D:Addr) (sp:Sp) (put:V→L2.St→L2.St) (j k:Nat) (ta:TA):TS:=fun De σ H=>ta σ H fun vs H1=>sp vs H1 (fun v H2=>De.nx (put v σ) H2)
  (fun cls _ H2=>∃ C,cls=.ref C∧PySem.W.subIn K (.ref C) (.ref D)=some true∧∀ x,H2 x=none→De.nx (caughtSt j k x σ) (upd H2 x (ExO x C)))
section
variable {kk:Nat} {f:Addr} {fd:FuncData} {ps:List Str} {sp:Sp} {x:Str} {p cpos bp pos:Pos} {e:Expr} {es:List Expr} {ta:TA} {D:Addr} {i j k:Nat} {n y c v:Str} {np hp ap yp vp ip:Pos}
theorem ps_tryE (hst:X.stack=X.env::X.outer) (hfr:X.env.frame=some X.env.locals) (hN:X.N.Nodup) (hk:X.N[k]? = some n) (hkl:X.env.scope.names.lookup n=some .local) (hj:X.N[j]? = some y) (hjl:X.env.scope.names.lookup y=some .local) (hg:Gl X c) (hm:X.mg c=some (.ref D)) (hD:PySem.W.excIn X.K D bmV "ValueError.__new__" = true) (F:FnOk X.prog X.w X.K X.mg X.base (CXN X.prog X.w) kk f fd ps sp) (hr:Room kk X.A) (hgf:Gl X x) (hmf:X.mg x=some (.ref f)) (hkf:PySem.W.keepIn X.K (.ref f)=true) (hb:Binds X.K fd ps []) (ha:PA X.nox (e::es) ta) (hdb:(c == ("__debug__" : Str))=false:=by decide) (hnd:(n == ("__debug__" : Str))=false:=by decide) (hcd:(n == ("__classdict__" : Str))=false:=by decide) (hxd:(x == ("__debug__" : Str))=false:=by decide) (hsw:swapsWith (.Name n vp) (some (.Name y yp)) ap.line X.env=pure false:=by rfl) (hsb:swapsWith (.Call (.Name x p) (e::es) [] cpos) none bp.line X.env=pure false:=by rfl) (he:starEach (e::es) X.env=(false,eval e X.env)::starEach es X.env:=by rfl) (hpl:(backTo cpos (starEach es X.env)).any (·.1)=false:=by rfl):PS X (.Try [.Expr (.Call (.Name x p) (e::es) [] cpos) bp] [.ExceptHandler (some (.Name c np)) (some n) [.Assign [.Name y yp] (.Name n vp) ap] hp] [] [] pos) (tTry X.K D sp (fun _ σ=>σ) j k ta):=by
  intro pins s σ H De I h
  refine wpAny_Try_except (wpAny_execs_cons (wpAny_Expr_any (wpAny_mono (call_at (E:=fun cls _ H2=>∃ C,cls=.ref C∧PySem.W.subIn X.K (.ref C) (.ref D)=some true∧∀ x,H2 x=none→De.nx (caughtSt j k x σ) (upd H2 x (ExO x C))) F hr hgf hmf hkf hb ha I h (fun H1 s1 ev s' I1 hx=>?_) hxd he hpl) (fun u s1 ⟨y,H1,I1,r1,q1⟩=>?_) fun _ _ z=>z) I.quiet hsb))
  · obtain ⟨ee,C,t,H',B,rfl,Fl,C',hC,hs,q⟩:=hx
    cases hC
    exact caught_ok hst hfr hN hk hkl hj hjl hg hm hD hs I1 Fl (q ee Fl.new) hdb hnd hsw hcd
  · exact wpAny_execs_nil (wpAny_execs_nil ⟨_,H1,I1,q1⟩)
end
end
end Nd
namespace Nd
open PySem PySem.Spec PyProof.Rows L2
structure ExcK (K:PySem.W.Frag) (C:Addr):Prop where
  cls:∃ cd,PySem.W.clsIn K C=some cd
  ga:PySem.W.findIn K (.ref C) "__getattribute__" = some (some (.builtin "BaseException.__getattribute__"))
  gn:PySem.W.findIn K (.ref C) "__getattr__" = some none
  ca:PySem.W.findIn K (.ref C) "__class__" = some (some (.builtin "object.__class__"))
  sb:PySem.W.subIn K (.ref C) (.type "BaseException")=some true
  so:PySem.W.subIn K (.ref C) (.type "object")=some true
section
variable {prog:Program} {w:World} {A:Around} {E:Value→Shared→Prop} {h:Heap} {g:Array GenState} {d:Drawn} {t:Nat} {os:OsState} {a C:Addr} {o:Obj} {K:PySem.W.Frag}
theorem xcls_get {R:Result→Shared→Prop} (KX:K.In h) (T:ExcK K C) (hx:h.get? a=some o) (hc:o.cls=.ref C) (hq:R (.ok (.ret (.ref C))) ⟨h,g,d,t,os⟩):codeAny (model prog w) A (.call (.builtin "getset_descriptor.__get__") ⟨[.builtin "object.__class__",.ref a,.ref C],[]⟩) R ⟨h,g,d,t,os⟩:=by
  have ty:(⟨h,g,d,t,os⟩ : Shared).TypeIs (.builtin "object.__class__") "getset_descriptor" := PySem.F.typeOf_object_class
  have L:=PySem.W.looks_subIn (M:=model prog w) KX T.so
  rw [← PySem.F.owner_object_class] at L
  refine codeAny_call_builtin PySem.F.slot_gs_get.plain PySem.F.entry_gs_get (PySem.F.slot_gs_get.check _ _ _ _ _ _ _ _ ty (PySem.F.args_gs_get _ _ _) ?_)
  repeat (any_goals (first | assumption | (with_reducible refine wpAny_loadPart_at hx ?_; rw [hc]) | with_reducible refine PySem.W.Looks.at L ?_ | wp_step))
  refine ⟨Code.quiet_builtin _ (by decide +kernel),codeAny_builtin PySem.F.entry_object_class ?_⟩
  repeat (any_goals (first | assumption | (with_reducible refine wpAny_loadPart_at hx ?_; rw [hc]) | wp_step))
theorem xcls_entry {tk:Tok} {Q:Fin→Shared→Prop} (KX:K.In h) (T:ExcK K C) (hx:h.get? a=some o) (hc:o.cls=.ref C) (hq:Q (.done (.ret (.ref C))) ⟨h,g,d,t,os⟩):wpAny (model prog w) A (Builtin.«object.__getattribute__» ⟨[.ref a,.str "__class__" tk],[]⟩) Q E ⟨h,g,d,t,os⟩:=by
  have ty:(⟨h,g,d,t,os⟩ : Shared).TypeIs (.builtin "object.__class__") "getset_descriptor" := PySem.F.typeOf_object_class
  have f5:=PySem.F.typeOf_object_class
  have f6:=PySem.F.slot_gs_get.lookup
  have f7:=PySem.F.slot_gs_set.lookup
  have L:=PySem.W.looks_findIn (M:=model prog w) KX T.ca
  repeat (any_goals (first | assumption | (with_reducible refine wpAny_loadPart_at hx ?_; rw [hc]) | with_reducible refine PySem.W.Looks.at L ?_ | wp_step))
  refine xcls_get KX T hx hc ?_
  repeat (any_goals (first | assumption | wp_step))
theorem xcls_check {M:Model} {nv:Value} {Q:Unit→Shared→Prop} (KX:K.In h) (T:ExcK K C) (hx:h.get? a=some o) (hc:o.cls=.ref C) (hq:Q () ⟨h,g,d,t,os⟩):wpAny M A (checkBuiltinCall "BaseException.__getattribute__" ⟨[.ref a,nv],[]⟩) Q E ⟨h,g,d,t,os⟩:=by
  have k1:builtinKind "BaseException.__getattribute__" = some .slot:=by decide +kernel
  have k2:splitId "BaseException.__getattribute__" = some ("BaseException", "__getattribute__"):=by decide +kernel
  have k3:=PySem.F.args_bexc_ga (.ref a) nv
  have L:=PySem.W.looks_subIn (M:=M) KX T.sb
  simp only [checkBuiltinCall,k1,k2]
  refine wpAny_bind ?_
  unfold isInstance
  repeat (first | (with_reducible refine wpAny_loadPart_at hx ?_; rw [hc]) | with_reducible refine PySem.W.Looks.at L ?_ | wp_step)
  exact hq
theorem xcls_call {tk:Tok} {R:Result→Shared→Prop} (KX:K.In h) (T:ExcK K C) (hx:h.get? a=some o) (hc:o.cls=.ref C) (hq:R (.ok (.ret (.ref C))) ⟨h,g,d,t,os⟩):codeAny (model prog w) A (.call (.builtin "BaseException.__getattribute__") ⟨[.ref a,.str "__class__" tk],[]⟩) R ⟨h,g,d,t,os⟩ :=
  codeAny_call_builtin (by decide +kernel) PySem.F.entry_bexc_ga (xcls_check KX T hx hc (xcls_entry KX T hx hc hq))
theorem xcls_by {tk:Tok} {Q:Value→Shared→Prop} (KX:K.In h) (T:ExcK K C) (hx:h.get? a=some o) (hc:o.cls=.ref C) (hq:Q (.ref C) ⟨h,g,d,t,os⟩):wpAny (model prog w) A (getAttrBy (.ref a) (.str "__class__" tk) false) Q E ⟨h,g,d,t,os⟩:=by
  have L1:=PySem.W.looks_findIn (M:=model prog w) KX T.ga
  have L2:=PySem.W.looks_findIn (M:=model prog w) KX T.gn
  have x2:(Value.builtin "BaseException.__getattribute__" == Value.builtin "object.__getattribute__")=false:=by decide +kernel
  have x1:(onTheHeap (Value.ref C) && Value.builtin "BaseException.__getattribute__" == Value.builtin "object.__getattribute__")=false:=by rw [x2]; rfl
  have f3:=PySem.F.excAttr_ValueError.ga.bind (.ref a)
  repeat (any_goals (first | assumption | (with_reducible refine wpAny_loadPart_at hx ?_; rw [hc]) | with_reducible refine PySem.W.Looks.at L1 ?_ | with_reducible refine PySem.W.Looks.at L2 ?_ | wp_step))
  refine xcls_call KX T hx hc ?_
  repeat (any_goals (first | assumption | wp_step))
theorem xcls_attr {Q:Option Value→Shared→Prop} (KX:K.In h) (T:ExcK K C) (hx:h.get? a=some o) (hc:o.cls=.ref C) (hq:Q (some (.ref C)) ⟨h,g,d,t+1,os⟩):wpAny (model prog w) A (getAttr? (.ref a) "__class__") Q E ⟨h,g,d,t,os⟩:=by
  unfold getAttr? getAttrBy?
  repeat (any_goals (first | assumption | with_reducible apply xcls_by KX T hx hc | wp_step))
end
theorem kitx_exc {K:PySem.W.Frag} {x C:Addr} (T:ExcK K C):PySem.W.KitX K (.ref x) (.ref C) (IsExc x C) where
  ty:=fun M h KX ⟨oe,vs,e1,e2,e3⟩=>e2▸(PySem.W.Looks.ld e1).andThen .now
  it:=fun M h KX _=>by
    obtain ⟨cd,hc⟩:=T.cls
    unfold PySem.W.clsIn at hc
    split at hc
    · rename_i ho
      intro A' Q' E' s' k q
      unfold isType loadHead
      exact wpAny_bind (wpAny_loadPart (k _ _ (KX _ _ ho)) (wpAny_pure q))
    · cases hc
  ne:=fun h tp dd its n sl KX htp=>by
    obtain ⟨cd,hc⟩:=T.cls
    unfold PySem.W.clsIn at hc
    split at hc
    · rename_i ho
      refine Bool.eq_false_iff.mpr fun q=>?_
      have e:C=tp:=Value.ref.inj (beq_iff_eq.mp q)
      subst e
      have z:=(KX _ _ ho).symm.trans htp
      cases z
    · cases hc
  ca:=fun {prog w A E Q s} KX ⟨oe,vs,e1,e2,e3⟩ k=>by
    obtain ⟨h,g,d,t,os⟩:=s
    exact xcls_attr KX T e1 e2 k
end Nd
namespace Nd
open PySem PySem.Spec PyProof.Rows L2
def clsV:V→Value
  | .ref D=>.ref D
  | .ty n=>.type n
  | _=>.none
section
variable {X:Cx}
def rIsx (K:PySem.W.Frag):List V→Hp→VK→Prop:=fun xs H Q=>∃ (x C:Addr) (c:V) (b:Bool),xs=[.ref x,c]∧H x=some (ExO x C)∧ExcK K C∧RelV c (clsV c)∧PySem.W.kitOne K (.ref C) (clsV c)=some b∧Q (.bl b) H
theorem exc_of {P:Program} {w:World} {H:Hp} {h:Heap} {x C:Addr} (ok:HOk P w H h) (e:H x=some (ExO x C)):IsExc x C h:=(show ObjOk P w H h x (ExO x C) from ok x _ e).1
theorem call_isx:CallR X (.builtin "isinstance") (rIsx X.K):=by
  intro pins s σ H xs us Q I r h
  obtain ⟨x,C,c,b,rfl,hx,T,rc,k,q⟩:=h
  obtain ⟨u,v,rfl,ru,rv⟩:=vals2 r
  cases ru
  have ev:v=clsV c:=by
    cases c with
    | ref D=>cases rv; rfl
    | ty n=>cases rv; rfl
    | non=>cases rv; rfl
    | bl _=>cases rc
    | int _=>obtain ⟨t,z⟩:=rc; cases z
    | str _=>obtain ⟨t,z⟩:=rc; cases z
    | byt _=>obtain ⟨t,z⟩:=rc; cases z
    | flt _=>obtain ⟨t,z⟩:=rc; cases z
  rw [ev]
  exact PySem.W.kia_one (kitx_exc T) I.kIn (exc_of I.hok hx) k (fun z=>nomatch z) fun tk=>⟨.bl b,H,I.tok _,rfl,q⟩
end
theorem kit_self {K:PySem.W.Frag} {C:Addr}:PySem.W.kitOne K (.ref C) (.ref C)=some true:=by
  unfold PySem.W.kitOne
  rw [if_pos (by simp)]
theorem kit_ty {K:PySem.W.Frag} {C:Addr} {n:String} {b:Bool} (h2:PySem.W.kitMeta n=true) (h3:PySem.W.subIn K (.ref C) (.type n)=some b):PySem.W.kitOne K (.ref C) (.type n)=some b:=by
  unfold PySem.W.kitOne PySem.W.kitCls
  rw [if_neg (by simp)]
  dsimp only
  rw [if_pos h2]
  exact h3
theorem kit_bb {K:PySem.W.Frag} {T n:String} {b:Bool} (h1:(Value.type T == Value.type n)=false) (h2:PySem.W.kitMeta n=true) (h3:(fastBuiltinMro T).map (fun x=>x.contains (Value.type n))=some b):PySem.W.kitOne K (.type T) (.type n)=some b:=by
  unfold PySem.W.kitOne PySem.W.kitCls
  rw [h1,if_neg (by decide)]
  dsimp only
  rw [if_pos h2]
  exact h3
theorem rev_pick (xs:Array Value):((List.range xs.size).filterMap fun (k:Nat)=>xs[((xs.size:Int) - 1+(k:Int) * (-1)).toNat]?).toArray=xs.toList.reverse.toArray:=by
  congr 1
  have h:∀ n,n≤xs.size→((List.range n).filterMap fun (k:Nat)=>xs[((xs.size:Int) - 1+(k:Int) * (-1)).toNat]?)=xs.toList.reverse.take n:=by
    intro n
    induction n with
    | zero=>intro _; simp
    | succ n ih =>
      intro hn
      rw [List.range_succ,List.filterMap_append,ih (by omega)]
      have e:((xs.size:Int) - 1+(n:Int) * (-1)).toNat=xs.size - 1 - n:=by omega
      have lt:n<xs.toList.reverse.length:=by rw [List.length_reverse,Array.length_toList]; omega
      rw [List.take_add_one,List.getElem?_eq_getElem lt]
      congr 1
      simp only [List.filterMap_cons,List.filterMap_nil,e]
      rw [Array.getElem?_eq_getElem (by omega),List.getElem_reverse]
      simp
  have:=h xs.size (Nat.le_refl _)
  rw [this]
  rw [List.take_of_length_le (by rw [List.length_reverse,Array.length_toList]; exact Nat.le_refl _)]
end Nd
namespace Nd
open PySem PySem.Spec PyProof.Rows L2
section
variable {X:Cx}
theorem pick_rev (xs:Array Value):slicePick xs none none (some (-1))=xs.toList.reverse.toArray:=by
  rw [← rev_pick]
  unfold slicePick
  congr 1
  have e1:sliceRange (sliceBounds none none (some (-1)) xs.size).1 (sliceBounds none none (some (-1)) xs.size).2.1 (sliceBounds none none (some (-1)) xs.size).2.2=(List.range xs.size).map fun (k:Nat)=>((xs.size:Int) - 1+(k:Int) * (-1)).toNat:=by
    show sliceRange ((xs.size:Int) - 1) (-1) (-1)=_
    unfold sliceRange
    have c:(if (-1:Int) > 0 then (if (xs.size:Int) - 1 < -1 then (-1 - ((xs.size:Int) - 1) + -1 - 1) / -1 else 0) else (if (xs.size:Int) - 1 > -1 then ((xs.size:Int) - 1 - -1 - -1 - 1) / (- -1) else 0)).toNat=xs.size:=by
      rw [if_neg (by decide),show (- -1:Int)=1 from rfl,Int.ediv_one]
      split <;> omega
    dsimp only
    rw [c]
    refine List.map_congr_left fun k _=>?_
    congr 1
    omega
  rw [e1,List.filterMap_map]
  rfl
theorem pe_revL {e k:Expr} {te tk:TE} {pos p2:Pos} (he:PE X e te) (hk:PE X k tk) (htk:∀ σ H Q,Q (.int (-1)) H→tk σ H Q):PE X (.Subscript e (.Slice none none (some k) p2) pos) (fun σ H Q=>te σ H fun x H1=>∃ a xs,x=.ref a∧SqL X.K H1 a xs∧∀ p,H1 p=none→Q (.ref p) (upd H1 p (.lst xs.reverse))):=by
  intro pins s σ H Q I h
  refine Subscript_ (thn (he pins s σ H _ I h) fun v s1 ⟨x,H1,I1,r1,a,xs,e1,hx,q⟩=>?_)
  subst e1
  cases r1
  refine wpAny_Slice ?_
  rw [evalPart_none]
  refine wpAny_pure (wpAny_pure ?_)
  rw [evalPart_some]
  refine thn (hk pins s1 σ H1 (fun y H2=>y=.int (-1)∧H2=H1) I1 (htk _ _ _ ⟨rfl,rfl⟩)) fun vk s2 ⟨y,H2,I2,r2,e2,e3⟩=>?_
  subst e2
  subst e3
  obtain ⟨t,rfl⟩:=r2
  have I3:Inv X pins σ H2 { s2 with heap:=s2.heap.push { cls:=.type "slice",data:=.fields #[.none,.none,.int (-1) t] } }:=I2.kept (t':=s2.toks) fun b ob q=>Heap.get?_push_of_some _ q
  obtain ⟨its,r,ht,hz⟩:=I3.list hx
  have hlen:=r.length
  show wpAny (model X.prog X.w) X.A (subscriptTail e (.Slice none none (some k) p2) (.ref a) (.ref s2.heap.objs.size)) (EP X pins σ Q) X.xe { s2 with heap:=s2.heap.push { cls:=.type "slice",data:=.fields #[.none,.none,.int (-1) t] } }
  refine tail_any (ops:=[.ref a,.ref s2.heap.objs.size]) (T := "list") ht.isList.typeIs slot_list_getitem.lookup (wpAny_getItem_list_slice ht.isList (Heap.IsSliceOf.new ..) .none .none (.int (-1) t) (by simp) ?_ (by rw [List.size_toArray] <;> omega)) (by with_unfolding_all rfl)
  rw [pick_rev]
  exact ⟨.ref _,_,I3.laid (o:=.lst xs.reverse) (t':=s2.toks) (fun b ob q=>Heap.get?_push_of_some _ q) (Nat.le_refl _) ⟨by rw [List.length_reverse]; exact hz,its.reverse,0,r.reverse,by
    have z:=Heap.get?_push_size (s2.heap.push { cls:=.type "slice",data:=.fields #[.none,.none,.int (-1) t] }) (o:={ cls:=.type "list",data:=.seq its.toArray.toList.reverse.toArray }) rfl
    simpa using z⟩,rfl,q _ (I3.hok.fresh (Nat.le_refl _))⟩
end
end Nd
namespace NdS
open PySem
theorem laid_led {mask finger moves:Nat} {led plain:Bool} {hs:Array Int} {t:SetTable} {order:Array Nat} (h:SetTable.laid mask finger moves led plain hs=some (t,order)):t.led=led∧t.mask=mask∧t.plain=plain∧t.dummies=#[]:=by
  unfold SetTable.laid at h
  cases hl:SetTable.layClean mask hs with
  | none=>rw [hl] at h; cases h
  | some owner =>
    rw [hl] at h
    cases h
    exact ⟨rfl,rfl,rfl,rfl⟩
def st (m i:Nat):Nat:=(i * 5+1) % m
def it (m:Nat):Nat→Nat→Nat
  | 0,i=>i
  | t+1,i=>it m t (st m i)
theorem it_add (m:Nat):∀ (a b i:Nat),it m (a+b) i=it m b (it m a i)
  | 0,b,i=>by rw [Nat.zero_add]; rfl
  | a+1,b,i=>by rw [Nat.add_right_comm]; exact it_add m a b (st m i)
def orb (m:Nat):Nat→Nat→List Nat
  | 0,_=>[]
  | f+1,i=>i::orb m f (st m i)
theorem mem_orb {m:Nat}:∀ {f i e:Nat},e∈orb m f i→∃ t,t<f∧it m t i=e
  | 0,_,_,h=>by cases h
  | f+1,i,e,h=>by
    rcases List.mem_cons.mp h with z | z
    · exact ⟨0,Nat.succ_pos _,z.symm⟩
    · obtain ⟨t,h1,h2⟩:=mem_orb z
      exact ⟨t+1,Nat.succ_lt_succ h1,h2⟩
def goodM (m:Nat):Prop:=0<m∧it m m 0=0∧∀ e,e<m→e∈orb m m 0
theorem goodM_of {m:Nat} (h0:0<m) (h1:(it m m 0 == 0)=true) (h2:((List.range m).all fun e=>(orb m m 0).contains e)=true):goodM m :=
  ⟨h0,by simpa using h1,fun e he=>by
    have:=List.all_eq_true.mp h2 e (List.mem_range.mpr he)
    simpa using this⟩
theorem good8:goodM 8:=goodM_of (by decide) (by decide +kernel) (by decide +kernel)
theorem good16:goodM 16:=goodM_of (by decide) (by decide +kernel) (by decide +kernel)
theorem good32:goodM 32:=goodM_of (by decide) (by decide +kernel) (by decide +kernel)
theorem good64:goodM 64:=goodM_of (by decide) (by decide +kernel) (by decide +kernel)
theorem good128:goodM 128:=goodM_of (by decide) (by decide +kernel) (by decide +kernel)
theorem good256:goodM 256:=goodM_of (by decide) (by decide +kernel) (by decide +kernel)
theorem cover {m:Nat} (g:goodM m) {i e:Nat} (hi:i<m) (he:e<m):∃ t,t<m∧it m t i=e:=by
  obtain ⟨h0,h1,h2⟩:=g
  obtain ⟨a,ha,ea⟩:=mem_orb (h2 i hi)
  obtain ⟨b,hb,eb⟩:=mem_orb (h2 e he)
  by_cases hab:a≤b
  · refine ⟨b - a,by omega,?_⟩
    rw [← ea,← it_add,Nat.add_sub_cancel' hab]
    exact eb
  · refine ⟨b+m - a,by omega,?_⟩
    rw [← ea,← it_add,show a+(b+m - a)=m+b by omega,it_add,h1]
    exact eb
def lp (m:Nat):Nat→Nat→Nat→Nat×Nat
  | 0,i,p=>(i,p)
  | t+1,i,p=>lp m t ((i * 5+1+p / 32) % m) (p / 32)
theorem lp_add (m:Nat):∀ (a b i p:Nat),lp m (a+b) i p=lp m b (lp m a i p).1 (lp m a i p).2
  | 0,b,i,p=>by rw [Nat.zero_add]; rfl
  | a+1,b,i,p=>by rw [Nat.add_right_comm]; exact lp_add m a b _ _
theorem lp_zero (m:Nat):∀ (t i:Nat),lp m t i 0=(it m t i,0)
  | 0,_=>rfl
  | t+1,i=>lp_zero m t (st m i)
theorem lp_small {m:Nat}:∀ (n i p:Nat),p<32 ^ n→(lp m n i p).2=0
  | 0,i,p,h=>by show p=0; simpa using h
  | n+1,i,p,h=>lp_small n _ _ (by rw [Nat.pow_succ] at h; exact Nat.div_lt_of_lt_mul (by omega))
theorem lp_lt {m:Nat} (h0:0<m):∀ (n i p:Nat),i<m→(lp m n i p).1<m
  | 0,i,p,h=>h
  | n+1,i,p,h=>lp_lt h0 n _ _ (Nat.mod_lt _ h0)
theorem lp_cover {m:Nat} (g:goodM m) {i p e:Nat} (hi:i<m) (hp:p<2 ^ 64) (he:e<m):∃ t,t<m+14∧(lp m t i p).1=e:=by
  have h13:=lp_small (m:=m) 13 i p (Nat.lt_of_lt_of_le hp (by decide))
  obtain ⟨t,ht,e1⟩:=cover g (lp_lt g.1 13 i p hi) he
  refine ⟨13+t,by omega,?_⟩
  rw [lp_add,h13,lp_zero]
  exact e1
theorem runEnd_ge (mask i:Nat):i≤SetTable.runEnd mask i:=by unfold SetTable.runEnd; split <;> omega
theorem free_some {mask:Nat} {owner:Array (Option Nat)}:∀ (fuel i p t:Nat),t<fuel→(owner.getD (lp (mask+1) t i p).1 (some 0)).isNone=true→∃ j,SetTable.layClean.free mask owner fuel i p=some j∧(owner.getD j (some 0)).isNone=true
  | 0,_,_,_,h,_=>absurd h (Nat.not_lt_zero _)
  | fuel+1,i,p,t,h,hn=>by
    unfold SetTable.layClean.free
    split
    · rename_i k hk
      exact ⟨i+k,rfl,by have:=List.find?_some hk; exact this⟩
    · rename_i hk
      rw [List.find?_eq_none] at hk
      cases t with
      | zero =>
        have:=hk 0 (List.mem_range.mpr (by have:=runEnd_ge mask i; omega))
        exact absurd hn (by simpa [lp] using this)
      | succ t =>
        exact free_some fuel _ _ t (by omega) hn
theorem filterMap_set_perm {L:List (Option Nat)}:∀ {j x:Nat},L[j]? = some none→((L.set j (some x)).filterMap id).Perm (x::L.filterMap id):=by
  induction L with
  | nil=>intro j x h; simp at h
  | cons a L ih =>
    intro j x h
    cases j with
    | zero =>
      simp at h
      subst h
      simp
    | succ j =>
      have h':L[j]? = some none:=by simpa using h
      have:=ih (x:=x) h'
      cases a with
      | none=>simpa using this
      | some b=>simpa using (List.Perm.cons b this).trans (List.Perm.swap x b _)
theorem some_none {L:List (Option Nat)}:(L.filterMap id).length<L.length→∃ j:Nat,L[j]? = some none:=by
  induction L with
  | nil=>intro h; simp at h
  | cons a L ih =>
    intro h
    cases a with
    | none=>exact ⟨0,rfl⟩
    | some b =>
      have : (L.filterMap id).length<L.length:=by simpa using h
      obtain ⟨j,hj⟩:=ih this
      exact ⟨j+1,by simpa using hj⟩
theorem bits_lt (h:Int):SetTable.bits h<2 ^ 64:=by
  unfold SetTable.bits
  have h1:=Int.emod_nonneg h (show (2 ^ 64:Int)≠0 by decide)
  have h2:=Int.emod_lt_of_pos h (show (0:Int)<2 ^ 64 by decide)
  omega
def layF (mask:Nat) (acc:Option (Array (Option Nat)×Nat)) (h:Int):Option (Array (Option Nat)×Nat):=do
  let (owner,k) ← acc
  let j ← SetTable.layClean.free mask owner (SetTable.turns mask) (SetTable.bits h % (mask+1)) (SetTable.bits h)
  pure (owner.setIfInBounds j (some k),k+1)
theorem lay_fold {mask:Nat} (g:goodM (mask+1)):∀ (hs:List Int) (owner:Array (Option Nat)) (n:Nat),owner.size=mask+1→(owner.toList.filterMap id).Perm (List.range n)→n+hs.length≤mask→∃ owner':Array (Option Nat),hs.foldl (layF mask) (some (owner,n))=some (owner',n+hs.length)∧owner'.size=mask+1∧(owner'.toList.filterMap id).Perm (List.range (n+hs.length))
  | [],owner,n,h1,h2,_=>⟨owner,rfl,h1,h2⟩
  | h::hs,owner,n,h1,h2,h3=>by
    rw [List.length_cons] at h3
    have len:(owner.toList.filterMap id).length=n:=by rw [h2.length_eq,List.length_range]
    obtain ⟨e,he⟩:=some_none (L:=owner.toList) (by rw [len,Array.length_toList]; omega)
    have he':e<mask+1:=by
      have:=(List.getElem?_eq_some_iff.mp he).1
      rw [Array.length_toList] at this
      omega
    obtain ⟨t,ht,et⟩:=lp_cover g (i:=SetTable.bits h % (mask+1)) (p:=SetTable.bits h) (e:=e) (Nat.mod_lt _ g.1) (bits_lt h) he'
    have hn:(owner.getD (lp (mask+1) t (SetTable.bits h % (mask+1)) (SetTable.bits h)).1 (some 0)).isNone=true:=by
      rw [et,Array.getD_eq_getD_getElem?,← Array.getElem?_toList,he]
      rfl
    obtain ⟨j,ej,hj⟩:=free_some (mask:=mask) (owner:=owner) (SetTable.turns mask) _ _ t (by unfold SetTable.turns; omega) hn
    have hj':owner.toList[j]? = some none:=by
      rw [Array.getD_eq_getD_getElem?,← Array.getElem?_toList] at hj
      cases q:owner.toList[j]? with
      | none=>rw [q] at hj; simp at hj
      | some v =>
        rw [q] at hj
        cases v with
        | none=>rfl
        | some v=>simp at hj
    have e1:layF mask (some (owner,n)) h=some (owner.setIfInBounds j (some n),n+1):=by
      show (do
        let j ← SetTable.layClean.free mask owner (SetTable.turns mask) (SetTable.bits h % (mask+1)) (SetTable.bits h)
        pure (owner.setIfInBounds j (some n),n+1))=_
      rw [ej]
      rfl
    rw [List.foldl_cons,e1]
    have p1:((owner.setIfInBounds j (some n)).toList.filterMap id).Perm (List.range (n+1)):=by
      rw [Array.toList_setIfInBounds]
      refine (filterMap_set_perm hj').trans ?_
      rw [List.range_succ]
      exact (List.Perm.cons n h2).trans (List.perm_append_comm (l₁:=[n]) (l₂:=List.range n))
    obtain ⟨o',q1,q2,q3⟩:=lay_fold g hs (owner.setIfInBounds j (some n)) (n+1) (by rw [Array.size_setIfInBounds]; exact h1) p1 (by omega)
    refine ⟨o',?_,q2,?_⟩
    · rw [q1,List.length_cons]
      congr 2
      omega
    · rw [List.length_cons,show n+(hs.length+1)=n+1+hs.length by omega]
      exact q3
theorem layClean_ok {mask:Nat} (g:goodM (mask+1)) (hs:Array Int) (hl:hs.size≤mask):∃ owner:Array (Option Nat),SetTable.layClean mask hs=some owner∧owner.size=mask+1∧(owner.toList.filterMap id).Perm (List.range hs.size):=by
  have h0:((Array.replicate (mask+1) (none:Option Nat)).toList.filterMap id).Perm (List.range 0):=by
    rw [Array.toList_replicate]
    simp
  obtain ⟨o,h1,h2,h3⟩:=lay_fold g hs.toList (Array.replicate (mask+1) none) 0 (by simp) h0 (by simpa using hl)
  rw [Array.length_toList,Nat.zero_add] at h1 h3
  refine ⟨o,?_,h2,h3⟩
  unfold SetTable.layClean
  rw [← Array.foldl_toList]
  show (hs.toList.foldl (layF mask) (some (Array.replicate (mask+1) none,0))).map (·.1)=some o
  rw [h1]
  rfl
theorem live_order (owner:Array (Option Nat)):((List.range owner.size).filterMap fun j=>(owner.getD j none).map fun x=>(j,x)).map (·.2)=owner.toList.filterMap id:=by
  obtain ⟨L⟩:=owner
  simp only [List.size_toArray]
  have h:∀ (L:List (Option Nat)) (pre:List (Option Nat)),((List.range' pre.length L.length).filterMap fun j=>(((pre++L)[j]?).getD none).map fun x=>(j,x)).map (·.2)=L.filterMap id:=by
    intro L
    induction L with
    | nil=>intro pre; rfl
    | cons a L ih =>
      intro pre
      rw [List.length_cons,List.range'_succ,List.filterMap_cons]
      have e:((pre++a::L)[pre.length]?).getD none=a:=by simp
      have ih':=ih (pre++[a])
      rw [List.length_append,List.length_singleton,List.append_assoc,List.singleton_append] at ih'
      cases a with
      | none =>
        simp only [e,Option.map_none,List.filterMap_cons_none,id]
        exact ih'
      | some b =>
        simp only [e,Option.map_some,List.map_cons,List.filterMap_cons_some,id]
        rw [ih']
        simp
  have:=h L []
  rw [List.length_nil,← List.range_eq_range',List.nil_append] at this
  rw [← this]
  congr 1
  congr 1
  funext j
  rw [Array.getD_eq_getD_getElem?]
  simp
theorem laid_ok {mask finger moves:Nat} {led plain:Bool} (g:goodM (mask+1)) (hs:Array Int) (hl:hs.size≤mask):∃ (t:SetTable) (order:Array Nat),SetTable.laid mask finger moves led plain hs=some (t,order)∧order.toList.Perm (List.range hs.size)∧t.fits hs.size=true∧t.led=led:=by
  obtain ⟨o,h1,h2,h3⟩:=layClean_ok g hs hl
  have e:SetTable.laid mask finger moves led plain hs=some ({ mask:=mask,place:=(((List.range (mask+1)).filterMap fun j=>(o.getD j none).map fun x=>(j,x)).map (·.1)).toArray,dummies:=#[],finger:=finger,led:=led,moves:=moves,plain:=plain },
      (((List.range (mask+1)).filterMap fun j=>(o.getD j none).map fun x=>(j,x)).map (·.2)).toArray):=by
    unfold SetTable.laid
    rw [h1]
    rfl
  have lo:=live_order o
  rw [h2] at lo
  have len:((List.range (mask+1)).filterMap fun j=>(o.getD j none).map fun x=>(j,x)).length=hs.size:=by
    have:=congrArg List.length lo
    rw [List.length_map,h3.length_eq,List.length_range] at this
    exact this
  refine ⟨_,_,e,by rw [List.toList_toArray,lo]; exact h3,?_,rfl⟩
  simp only [SetTable.fits,SetTable.fill,List.size_toArray,List.length_map,len,Bool.and_eq_true,beq_self_eq_true,true_and,decide_eq_true_eq]
  show hs.size+0≤mask
  omega
theorem picked {α:Type} (es:Array α) {order:Array Nat} (p:order.toList.Perm (List.range es.size)):(order.filterMap (es[·]?)).toList.Perm es.toList∧(order.filterMap (es[·]?)).size=es.size:=by
  have e:(order.filterMap (es[·]?)).toList.Perm es.toList:=by
    rw [Array.toList_filterMap]
    have:=p.filterMap (es[·]?)
    rw [filterMap_getElem?_range] at this
    exact this
  exact ⟨e,by rw [← Array.length_toList,e.length_eq,Array.length_toList]⟩
theorem sizeAbove_good {n:Nat} (h:n<256):∃ m,SetTable.sizeAbove n=m+1∧goodM (m+1)∧n≤m:=by
  have key:∀ k:Fin 256,(SetTable.sizeAbove k.1 == 8 && decide (k.1<8)) || (SetTable.sizeAbove k.1 == 16 && decide (k.1<16)) || (SetTable.sizeAbove k.1 == 32 && decide (k.1<32)) || (SetTable.sizeAbove k.1 == 64 && decide (k.1<64)) || (SetTable.sizeAbove k.1 == 128 && decide (k.1<128)) || (SetTable.sizeAbove k.1 == 256 && decide (k.1<256))=true:=by decide +kernel
  have q:=key ⟨n,h⟩
  simp only [Bool.or_eq_true,Bool.and_eq_true,beq_iff_eq,decide_eq_true_eq] at q
  rcases q with ((((q | q) | q) | q) | q) | q
  · exact ⟨7,q.1,good8,by omega⟩
  · exact ⟨15,q.1,good16,by omega⟩
  · exact ⟨31,q.1,good32,by omega⟩
  · exact ⟨63,q.1,good64,by omega⟩
  · exact ⟨127,q.1,good128,by omega⟩
  · exact ⟨255,q.1,good256,by omega⟩
end NdS
namespace NdS
open PySem
abbrev Rise (p:Array Nat):Prop:=p.toList.Pairwise (· < ·)
theorem rise_lt {p:Array Nat} (r:Rise p) {i j:Nat} (h:i<j) (hj:j<p.size):p[i]'(by omega)<p[j]:=by
  have:=List.pairwise_iff_getElem.mp r i j (by rw [Array.length_toList]; omega) (by rw [Array.length_toList]; exact hj) h
  simpa using this
structure Below (p:Array Nat) (j b:Nat):Prop where
  le:b≤p.size
  lo:∀ i (h:i<p.size),i<b→p[i]<j
  hi:∀ i (h:i<p.size),b≤i→j≤p[i]
theorem below_go {p:Array Nat} {j:Nat} (r:Rise p):∀ (fuel lo hi:Nat),hi≤p.size→lo≤hi→hi - lo≤fuel→(∀ i (h:i<p.size),i<lo→p[i]<j)→(∀ i (h:i<p.size),hi≤i→j≤p[i])→Below p j (SetTable.below.go p j fuel lo hi)
  | 0,lo,hi,h1,h2,h3,h4,h5=>by
    unfold SetTable.below.go
    have e:lo=hi:=by omega
    exact ⟨by omega,fun i h hl=>h4 i h hl,fun i h hl=>h5 i h (by omega)⟩
  | fuel+1,lo,hi,h1,h2,h3,h4,h5=>by
    unfold SetTable.below.go
    split
    · rename_i hl
      have hm:(lo+hi) / 2<p.size:=by omega
      have e:p.getD ((lo+hi) / 2) j=p[(lo+hi) / 2]:=by simp [Array.getD,hm]
      dsimp only
      rw [e]
      split
      · rename_i hc
        refine below_go r fuel _ hi h1 (by omega) (by omega) (fun i h hi'=>?_) h5
        by_cases z:i=(lo+hi) / 2
        · subst z; exact hc
        · exact Nat.lt_trans (rise_lt r (show i<(lo+hi) / 2 by omega) hm) hc
      · rename_i hc
        refine below_go r fuel lo _ (by omega) (by omega) (by omega) h4 (fun i h hi'=>?_)
        by_cases z:i=(lo+hi) / 2
        · subst z; omega
        · exact Nat.le_trans (by omega) (Nat.le_of_lt (rise_lt r (show (lo+hi) / 2<i by omega) h))
    · exact ⟨by omega,fun i h hl=>h4 i h hl,fun i h hl=>h5 i h (by omega)⟩
theorem below_ok {p:Array Nat} (r:Rise p) (j:Nat):Below p j (SetTable.below p j) :=
  below_go r _ _ _ (Nat.le_refl _) (Nat.zero_le _) (by omega) (fun i h hl=>absurd hl (Nat.not_lt_zero _)) (fun i h hl=>absurd hl (by omega))
theorem Below.eq {p:Array Nat} {j b b':Nat} (x:Below p j b) (y:Below p j b'):b=b':=by
  rcases Nat.lt_trichotomy b b' with z | z | z
  · have h:b<p.size:=Nat.lt_of_lt_of_le z y.le
    exact absurd (y.lo b h z) (Nat.not_lt.mpr (x.hi b h (Nat.le_refl _)))
  · exact z
  · have h:b'<p.size:=Nat.lt_of_lt_of_le z x.le
    exact absurd (x.lo b' h z) (Nat.not_lt.mpr (y.hi b' h (Nat.le_refl _)))
theorem below_first {p:Array Nat} (r:Rise p):SetTable.below p 0=0 :=
  (below_ok r 0).eq ⟨Nat.zero_le _,fun i h hl=>absurd hl (Nat.not_lt_zero _),fun i h _=>Nat.zero_le _⟩
theorem below_next {p:Array Nat} (r:Rise p) {i:Nat} (h:i<p.size):SetTable.below p (p[i]+1)=i+1 :=
  (below_ok r _).eq ⟨h,fun k hk hl=>by
    by_cases z:k=i
    · subst z; exact Nat.lt_succ_self _
    · exact Nat.lt_succ_of_lt (rise_lt r (show k<i by omega) h),fun k hk hl=>rise_lt r (show i<k by omega) hk⟩
structure TabOk (n:Nat) (t:SetTable):Prop where
  good:goodM (t.mask+1)
  dum:t.dummies=#[]
  plain:t.plain=true
  rise:Rise t.place
  top:∀ j∈t.place.toList,j≤t.mask
  size:t.place.size=n
structure Tab (n:Nat) (t:SetTable):Prop extends TabOk n t where
  room:n * 5<t.mask * 3
theorem mask_ge {t:SetTable} {n:Nat} (x:Tab n t):n+1≤t.mask:=by have:=x.room; omega
theorem TabOk.fits {t:SetTable} {n:Nat} (x:TabOk n t) (h:n≤t.mask):t.fits n=true:=by
  simp only [SetTable.fits,SetTable.fill,x.dum,x.size,Bool.and_eq_true,beq_self_eq_true,true_and,decide_eq_true_eq]
  show n+0≤t.mask
  omega
theorem Tab.fits {t:SetTable} {n:Nat} (x:Tab n t):t.fits n=true:=x.toTabOk.fits (by have:=mask_ge x; omega)
theorem slot_empty {t:SetTable} {n j:Nat} (x:TabOk n t):t.slot j=.empty↔j∉t.place.toList:=by
  have nd:SetTable.has t.dummies j=false:=by rw [x.dum]; rfl
  unfold SetTable.slot
  dsimp only
  rw [nd]
  constructor
  · intro h hm
    obtain ⟨i,hi,e⟩:=List.mem_iff_getElem.mp hm
    rw [Array.length_toList] at hi
    have e':t.place[i]=j:=by simpa using e
    have b:SetTable.below t.place j=i:=(below_ok x.rise j).eq ⟨Nat.le_of_lt hi,fun k hk hl=>by rw [← e']; exact rise_lt x.rise hl hi,fun k hk hl=>by
      by_cases z:i=k
      · subst z; exact Nat.le_of_eq e'.symm
      · rw [← e']; exact Nat.le_of_lt (rise_lt x.rise (show i<k by omega) hk)⟩
    rw [b,Array.getElem?_eq_getElem hi,e',if_pos (by simp)] at h
    cases h
  · intro h
    rw [if_neg (fun z=>h ?_)]
    · rfl
    · have z':t.place[SetTable.below t.place j]? = some j:=by simpa using z
      have:=Array.mem_of_getElem? z'
      exact Array.mem_def.mp this
theorem slot_not_dummy {t:SetTable} {n j:Nat} (x:TabOk n t):t.slot j≠.dummy:=by
  have nd:SetTable.has t.dummies j=false:=by rw [x.dum]; rfl
  unfold SetTable.slot
  dsimp only
  rw [nd]
  split
  · intro h; cases h
  · intro h; cases h
theorem runEnd_le {mask i:Nat} (h:i≤mask):SetTable.runEnd mask i≤mask:=by unfold SetTable.runEnd; split <;> omega
theorem run_short (mask i:Nat):SetTable.runEnd mask i - i≤9:=by unfold SetTable.runEnd; split <;> omega
theorem leap_eq (mask i p:Nat):SetTable.leap mask i p=((i * 5+1+p / 32) % (mask+1),p / 32):=rfl
theorem probe_go {t:SetTable} {n:Nat} {h:Int} (x:TabOk n t):∀ (fuel u:Nat) (p:SetTable.Probe),p.more≤9→p.j+p.more≤t.mask→p.dummy=none→p.more+2+10 * u≤fuel→t.slot (lp (t.mask+1) (u+1) p.i p.perturb).1=.empty→∃ j,SetTable.probe.go t (fun _=>h+1) h fuel p=some (.empty j none)∧t.slot j=.empty∧j≤t.mask
  | 0,u,p,_,_,_,h3,_=>absurd h3 (by omega)
  | fuel+1,u,p,h1,h2,hd,h3,h4=>by
    unfold SetTable.probe.go
    split
    · rename_i hs
      exact ⟨p.j,by rw [hd],hs,by omega⟩
    · rename_i hs
      exact absurd hs (slot_not_dummy x)
    · rw [if_neg (by simp; omega)]
      unfold SetTable.advance
      split
      · rename_i hm
        exact probe_go x fuel u _ (by dsimp only; omega) (by dsimp only; omega) hd (by dsimp only; omega) h4
      · rename_i hm
        rw [leap_eq]
        dsimp only
        have hi:(p.i * 5+1+p.perturb / 32) % (t.mask+1)≤t.mask:=Nat.lt_succ_iff.mp (Nat.mod_lt _ (Nat.succ_pos _))
        cases u with
        | zero =>
          cases fuel with
          | zero=>omega
          | succ fuel =>
            unfold SetTable.probe.go
            dsimp only
            have h4':t.slot ((p.i * 5+1+p.perturb / 32) % (t.mask+1))=.empty:=h4
            rw [h4']
            exact ⟨_,by rw [hd],h4',hi⟩
        | succ u =>
          refine probe_go x fuel u _ (run_short _ _) ?_ hd ?_ h4
          · dsimp only
            have:=runEnd_le hi
            have:=runEnd_ge t.mask ((p.i * 5+1+p.perturb / 32) % (t.mask+1))
            omega
          · dsimp only
            have:=run_short t.mask ((p.i * 5+1+p.perturb / 32) % (t.mask+1))
            omega
theorem len_le:∀ {l1 l2:List Nat},l1.Nodup→(∀ e∈l1,e∈l2)→l1.length≤l2.length
  | [],_,_,_=>Nat.zero_le _
  | a::l1,l2,nd,h=>by
    have nd':=List.nodup_cons.mp nd
    have ha:=h a (List.mem_cons_self ..)
    have:=len_le (l2:=l2.erase a) nd'.2 fun e he=>(List.mem_erase_of_ne (show e≠a from fun z=>nd'.1 (by rw [← z]; exact he))).mpr (h e (List.mem_cons_of_mem _ he))
    rw [List.length_erase_of_mem ha] at this
    have p:0<l2.length:=List.length_pos_of_mem ha
    rw [List.length_cons]
    omega
theorem not_all {m:Nat} {l:List Nat} (nd:l.Pairwise (· < ·)) (h:l.length<m):∃ e,e<m∧e∉l:=by
  refine Classical.byContradiction fun z=>?_
  have all:∀ e,e∈List.range m→e∈l:=fun e he=>Classical.byContradiction fun q=>z ⟨e,List.mem_range.mp he,q⟩
  have:=len_le List.nodup_range all
  rw [List.length_range] at this
  omega
theorem freeSlot_ok {t:SetTable} {n:Nat} (x:Tab n t) (h:Int):∃ j,t.freeSlot h=some (j,false)∧j∉t.place.toList∧j≤t.mask:=by
  have hm:=mask_ge x
  obtain ⟨e,he,hn⟩:=not_all (m:=t.mask+1) x.rise (by rw [Array.length_toList,x.size]; omega)
  obtain ⟨u,hu,eu⟩:=lp_cover x.good (i:=SetTable.bits h % (t.mask+1)) (p:=SetTable.bits h) (e:=e) (Nat.mod_lt _ (Nat.succ_pos _)) (bits_lt h) he
  have hi:SetTable.bits h % (t.mask+1)≤t.mask:=Nat.lt_succ_iff.mp (Nat.mod_lt _ (Nat.succ_pos _))
  have key:∃ j,t.probe (fun _=>h+1) h (t.probeStart h)=some (.empty j none)∧t.slot j=.empty∧j≤t.mask:=by
    unfold SetTable.probe
    cases u with
    | zero =>
      have e0:t.slot (SetTable.bits h % (t.mask+1))=.empty:=(slot_empty x.toTabOk).mpr (by rw [show SetTable.bits h % (t.mask+1)=e from eu]; exact hn)
      obtain ⟨f,hf⟩ : ∃ f,10 * SetTable.turns t.mask=f+1:=⟨10 * SetTable.turns t.mask - 1,by unfold SetTable.turns; omega⟩
      rw [hf]
      unfold SetTable.probe.go
      have e0':t.slot (t.probeStart h).j=.empty:=e0
      rw [e0']
      exact ⟨_,rfl,e0',hi⟩
    | succ u =>
      refine probe_go x.toTabOk _ u (t.probeStart h) (run_short _ _) ?_ rfl ?_ ?_
      · have:=runEnd_le hi
        have:=runEnd_ge t.mask (SetTable.bits h % (t.mask+1))
        show SetTable.bits h % (t.mask+1)+(SetTable.runEnd t.mask (SetTable.bits h % (t.mask+1)) - SetTable.bits h % (t.mask+1))≤t.mask
        omega
      · have:=run_short t.mask (SetTable.bits h % (t.mask+1))
        show SetTable.runEnd t.mask (SetTable.bits h % (t.mask+1)) - SetTable.bits h % (t.mask+1)+2+10 * u≤10 * SetTable.turns t.mask
        unfold SetTable.turns
        omega
      · exact (slot_empty x.toTabOk).mpr (by rw [show (lp (t.mask+1) (u+1) (t.probeStart h).i (t.probeStart h).perturb).1=e from eu]; exact hn)
  obtain ⟨j,h1,h2,h3⟩:=key
  refine ⟨j,?_,(slot_empty x.toTabOk).mp h2,h3⟩
  unfold SetTable.freeSlot
  rw [h1]
  rfl
theorem rise_insert {p:Array Nat} (r:Rise p) {j:Nat} (h:j∉p.toList):Rise (SetTable.insertAt p (SetTable.below p j) j):=by
  have b:=below_ok r j
  show (SetTable.insertAt p (SetTable.below p j) j).toList.Pairwise (· < ·)
  rw [SetTable.toList_insertAt]
  have r1:(p.toList.take (SetTable.below p j)).Pairwise (· < ·):=r.sublist (List.take_sublist _ _)
  have r2:(p.toList.drop (SetTable.below p j)).Pairwise (· < ·):=r.sublist (List.drop_sublist _ _)
  have lo:∀ e∈p.toList.take (SetTable.below p j),e<j:=fun e he=>by
    obtain ⟨i,hi,ei⟩:=List.mem_take_iff_getElem.mp he
    rw [Array.length_toList] at hi
    have:=b.lo i (by omega) (by omega)
    rw [← ei]
    simpa using this
  have hi:∀ e∈p.toList.drop (SetTable.below p j),j<e:=fun e he=>by
    have hm:e∈p.toList:=List.mem_of_mem_drop he
    obtain ⟨i,hi,ei⟩:=List.mem_drop_iff_getElem.mp he
    rw [Array.length_toList] at hi
    have:=b.hi (i+SetTable.below p j) (by omega) (by omega)
    have e1:j≤e:=by
      rw [← ei]
      simpa [Nat.add_comm] using this
    exact Nat.lt_of_le_of_ne e1 fun z=>h (by rw [z]; exact hm)
  simp only [List.pairwise_append,List.pairwise_cons,List.mem_cons,List.mem_append]
  first
    | exact ⟨r1,⟨hi,r2⟩,fun a ha c hc=>by
        rcases hc with z | z
        · rw [z]; exact lo a ha
        · exact Nat.lt_trans (lo a ha) (hi c z)⟩
    | (refine ⟨⟨r1,⟨by simp,List.Pairwise.nil⟩,fun a ha c hc=>?_⟩,r2,fun a ha c hc=>?_⟩
       · have z:c=j:=by simpa using hc
         rw [z]; exact lo a ha
       · rcases ha with z | z | z
         · exact Nat.lt_trans (lo a z) (hi c hc)
         · rw [z]; exact hi c hc
         · cases z)
theorem new_ok {t:SetTable} {es:Array (Int×Value)} (x:Tab es.size t) (h:Int) (v:Value):∃ (es1:Array (Int×Value)) (t1:SetTable),layNew t es h v=(es1,t1,false,false)∧es1.toList.Perm (es.toList++[(h,v)])∧es1.size=es.size+1∧TabOk es1.size t1∧t1.mask=t.mask∧t1.led=t.led:=by
  obtain ⟨j,h1,h2,h3⟩:=freeSlot_ok x h
  have hm:=mask_ge x
  have perm:=SetTable.insertAt_perm es (SetTable.below t.place j) (h,v)
  rw [Array.toList_push] at perm
  have size:(SetTable.insertAt es (SetTable.below t.place j) (h,v)).size=es.size+1:=by
    rw [← Array.length_toList,perm.length_eq,List.length_append,Array.length_toList]
    rfl
  have p2:=SetTable.insertAt_perm t.place (SetTable.below t.place j) j
  rw [Array.toList_push] at p2
  have size2:(SetTable.insertAt t.place (SetTable.below t.place j) j).size=es.size+1:=by
    rw [← Array.length_toList,p2.length_eq,List.length_append,Array.length_toList,x.size]
    rfl
  have nd:SetTable.has t.dummies j=false:=by rw [x.dum]; rfl
  have ok:TabOk (es.size+1) { t with place:=SetTable.insertAt t.place (SetTable.below t.place j) j } :=
    ⟨x.good,x.dum,x.plain,rise_insert x.rise h2,fun e he=>by
      rcases List.mem_append.mp (p2.mem_iff.mp he) with z | z
      · exact x.top e z
      · rw [List.mem_singleton.mp z]; exact h3,size2⟩
  refine ⟨_,{ t with place:=SetTable.insertAt t.place (SetTable.below t.place j) j },?_,perm,size,by rw [size]; exact ok,rfl,rfl⟩
  have f:({ t with place:=SetTable.insertAt t.place (SetTable.below t.place j) j }:SetTable).fits (SetTable.insertAt es (SetTable.below t.place j) (h,v)).size=true:=by
    rw [size]
    exact ok.fits (by omega)
  unfold layNew
  rw [h1]
  simp only [SetTable.put,nd,Bool.false_eq_true,if_false,SetTable.orStandIn,f,if_true,Bool.not_true]
theorem laid_rise {mask finger moves:Nat} {led plain:Bool} {hs:Array Int} {t:SetTable} {order:Array Nat} (h:SetTable.laid mask finger moves led plain hs=some (t,order)):Rise t.place∧(∀ j∈t.place.toList,j≤mask):=by
  unfold SetTable.laid at h
  cases hl:SetTable.layClean mask hs with
  | none=>rw [hl] at h; cases h
  | some owner =>
    rw [hl] at h
    cases h
    have sub:∀ (l:List Nat),l.Pairwise (· < ·)→(((l.filterMap fun j=>(owner.getD j none).map fun x=>(j,x)).map (·.1)).Pairwise (· < ·))∧∀ j∈((l.filterMap fun j=>(owner.getD j none).map fun x=>(j,x)).map (·.1)),j∈l:=by
      intro l hl
      have m:∀ j∈((l.filterMap fun j=>(owner.getD j none).map fun x=>(j,x)).map (·.1)),j∈l:=fun j hj=>by
        obtain ⟨q,hq,rfl⟩:=List.mem_map.mp hj
        obtain ⟨k,hk,ek⟩:=List.mem_filterMap.mp hq
        cases hg:owner.getD k none with
        | none=>rw [hg] at ek; cases ek
        | some v=>rw [hg] at ek; cases ek; exact hk
      refine ⟨?_,m⟩
      clear m
      induction l with
      | nil=>exact List.Pairwise.nil
      | cons a l ih =>
        have hl':=List.pairwise_cons.mp hl
        have ih':=ih hl'.2
        rw [List.filterMap_cons]
        cases hg:owner.getD a none with
        | none=>simpa [hg] using ih'
        | some v =>
          simp only [Option.map_some,List.map_cons,List.pairwise_cons]
          refine ⟨fun j hj=>?_,ih'⟩
          obtain ⟨q,hq,rfl⟩:=List.mem_map.mp hj
          obtain ⟨k,hk,ek⟩:=List.mem_filterMap.mp hq
          cases hg2:owner.getD k none with
          | none=>rw [hg2] at ek; cases ek
          | some v2=>rw [hg2] at ek; cases ek; exact hl'.1 k hk
    obtain ⟨s1,s2⟩:=sub (List.range (mask+1)) List.pairwise_lt_range
    exact ⟨s1,fun j hj=>Nat.lt_succ_iff.mp (List.mem_range.mp (s2 j hj))⟩
theorem laid_tab {mask finger moves:Nat} {led:Bool} (g:goodM (mask+1)) (hs:Array Int) (hl:hs.size * 5<mask * 3):∃ (t:SetTable) (order:Array Nat),SetTable.laid mask finger moves led true hs=some (t,order)∧order.toList.Perm (List.range hs.size)∧Tab hs.size t∧t.led=led:=by
  obtain ⟨t,order,h1,h2,h3,h4⟩:=laid_ok (finger:=finger) (moves:=moves) (led:=led) (plain:=true) g hs (by omega)
  obtain ⟨l1,l2,l3,l4⟩:=laid_led h1
  obtain ⟨r1,r2⟩:=laid_rise h1
  have sz:t.place.size=hs.size:=by
    have:=h3
    simp only [SetTable.fits,Bool.and_eq_true,beq_iff_eq] at this
    exact this.1
  exact ⟨t,order,h1,h2,⟨⟨by rw [l2]; exact g,l4,l3,r1,by rw [l2]; exact r2,sz⟩,by rw [l2]; exact hl⟩,l1⟩
theorem relay_ok {t:SetTable} {es:Array (Int×Value)} {wanted:Nat} (hp:t.plain=true) (hw:wanted<256) (h2:es.size * 2≤wanted):∃ (t':SetTable) (order:Array Nat),t.relaid (es.map (·.1)) wanted=some (t',order)∧order.toList.Perm (List.range es.size)∧Tab es.size t'∧t'.led=t.led:=by
  obtain ⟨m,e1,g,hm⟩:=sizeAbove_good hw
  have sz:(es.map (·.1)).size=es.size:=Array.size_map ..
  have m7:7≤m:=by
    have : 8≤SetTable.sizeAbove wanted:=by
      have key:∀ k:Fin 256,decide (8≤SetTable.sizeAbove k.1)=true:=by decide +kernel
      exact of_decide_eq_true (key ⟨wanted,hw⟩)
    omega
  obtain ⟨t',order,q1,q2,q3,q4⟩:=laid_tab (mask:=m) (finger:=t.finger) (moves:=t.movedTo m) (led:=t.led) g (es.map (·.1)) (by rw [sz]; omega)
  rw [sz] at q2 q3
  refine ⟨t',order,?_,q2,q3,q4⟩
  unfold SetTable.relaid
  rw [e1,Nat.add_sub_cancel,hp]
  exact q1
theorem relayAll_ok {t:SetTable} {es:Array (Int×Value)} (hp:t.plain=true) (hn:es.size<64):∃ (es':Array (Int×Value)) (t':SetTable),relayAll t es (SetTable.grown es.size)=(es',t',false)∧es'.toList.Perm es.toList∧es'.size=es.size∧Tab es'.size t'∧t'.led=t.led:=by
  have gr:SetTable.grown es.size=es.size * 4:=by unfold SetTable.grown; rw [if_neg (by omega)]
  obtain ⟨t',order,q1,q2,q3,q4⟩:=relay_ok (t:=t) (es:=es) (wanted:=es.size * 4) hp (by omega) (by omega)
  obtain ⟨p1,p2⟩:=picked es q2
  refine ⟨order.filterMap (es[·]?),t',?_,p1,p2,by rw [p2]; exact q3,q4⟩
  unfold relayAll
  rw [gr,q1]
  dsimp only
  have c:coversAll order es.size=true:=by
    unfold coversAll
    exact List.isPerm_iff.mpr q2
  have f:t'.fits (order.filterMap (es[·]?)).size=true:=by rw [p2]; exact q3.fits
  rw [c,f]
  rfl
end NdS
namespace NdS
open PySem
abbrev bt (w:World):Bool:=w.params.followText "set-order"
def keyOf:Int×Value→Int
  | (_,.int k _)=>k
  | _=>0
def isEnt (e:Int×Value):Prop:=∃ k tk,e=(hashInt k,Value.int k tk)
abbrev keys (es:Array (Int×Value)):List Int:=es.toList.map keyOf
abbrev setObj (es:Array (Int×Value)) (ep:Nat) (t:SetTable):Obj:={ cls:=.type "set",dict:=none,data:=.set es ep t }
structure SetS (w:World) (h:Heap) (a:Addr) (es:Array (Int×Value)) (ep:Nat) (t:SetTable):Prop where
  obj:h.get? a=some (setObj es ep t)
  ent:∀ e∈es.toList,isEnt e
  nd:(keys es).Nodup
  tab:Tab es.size t
  led:bt w=false→t.led=true
  few:es.size<64
theorem SetS.keep {w:World} {h h':Heap} {a:Addr} {es:Array (Int×Value)} {ep:Nat} {t:SetTable} (S:SetS w h a es ep t) (k:∀ o,h.get? a=some o→h'.get? a=some o):SetS w h' a es ep t :=
  ⟨k _ S.obj,S.ent,S.nd,S.tab,S.led,S.few⟩
def ins (k:Int) (l:List Int):List Int:=if k∈l then l else k::l
theorem elems {prog:Program} {w:World} {h:Heap} {a:Addr} {es:Array (Int×Value)} {ep:Nat} {t:SetTable} (S:SetS w h a es ep t):ElemsOf (intKind prog w) es.toList:=fun e he=>by
  obtain ⟨k,tk,rfl⟩:=S.ent e he
  exact ⟨⟨k,intKind_is _ _ _ _,rfl⟩,rfl⟩
theorem is_iff {prog:Program} {w:World} {e:Int×Value} (h:isEnt e) (k:Int):(intKind prog w).is k e.2=true↔keyOf e=k:=by
  obtain ⟨k',tk,rfl⟩:=h
  show Value.isInt k (.int k' tk)=true↔k'=k
  simp [Value.isInt]
  try exact eq_comm
theorem small {n:Nat} (h:n<64):n≤sizeLine:=by rw [sizeLine_eq]; omega
theorem put_obj {es:Array (Int×Value)} {ep:Nat} {t:SetTable} (es':Array (Int×Value)) (t':SetTable):Obj.putSet es' t' (setObj es ep t)=setObj es' (ep+1) t':=putSet_of es' t' rfl
theorem put_get {h:Heap} {a:Addr} {es:Array (Int×Value)} {ep:Nat} {t:SetTable} (ho:h.get? a=some (setObj es ep t)) (es':Array (Int×Value)) (t':SetTable):(h.update a (Obj.putSet es' t')).get? a=some (setObj es' (ep+1) t'):=by
  have:=Heap.get?_update_self (Obj.putSet es' t') ho (by rw [put_obj]; rfl)
  rw [put_obj] at this
  exact this
section
variable {prog:Program} {w:World} {A:Around} {E:Value→Shared→Prop} {s:Shared}
theorem state_ok {a:Addr} {es:Array (Int×Value)} {ep:Nat} {t:SetTable} {Q:(Array (Int×Value)×Nat×SetTable)→Shared→Prop} (S:SetS w s.heap a es ep t) (h:Q (es,ep,t) s):wpAny (model prog w) A (setState a) Q E s :=
  wpAny_setState_of S.obj rfl S.tab.fits h
theorem store_set {a:Addr} {es es':Array (Int×Value)} {ep:Nat} {t t':SetTable} {Q:Unit→Shared→Prop} (S:SetS w s.heap a es ep t) (he:∀ e∈es'.toList,isEnt e) (nd:(keys es').Nodup) (tab:Tab es'.size t') (led:bt w=false→t'.led=true) (few:es'.size<64) (h:∀ h',Heap.SameBut a s.heap h'→SetS w h' a es' (ep+1) t'→Q () { s with heap:=h' }):wpAny (model prog w) A (storeSet a es' t') Q E s :=
  wpAny_storeSet_of S.obj rfl (h _ (Heap.SameBut.update ..) ⟨put_get S.obj es' t',he,nd,tab,led,few⟩) (small few)
theorem find_none {es:Array (Int×Value)} {k:Int} (he:∀ e∈es.toList,isEnt e):es.toList.findIdx? (fun e=>(intKind prog w).is k e.2)=none↔k∉keys es:=by
  rw [List.findIdx?_eq_none_iff]
  constructor
  · intro h hm
    obtain ⟨e,hm',rfl⟩:=List.mem_map.mp hm
    have:=h e hm'
    rw [(is_iff (he e hm') _).mpr rfl] at this
    cases this
  · intro h e hm
    cases q:(intKind prog w).is k e.2 with
    | false=>rfl
    | true=>exact absurd (List.mem_map.mpr ⟨e,hm,(is_iff (he e hm) k).mp q⟩) h
theorem add_ok {a:Addr} {es:Array (Int×Value)} {ep:Nat} {t:SetTable} {k:Int} {tk:Tok} {Q:Bool→Shared→Prop} (S:SetS w s.heap a es ep t) (hn:es.size<63) (h:∀ b es' ep' t' h',Heap.SameBut a s.heap h'→SetS w h' a es' ep' t'→(keys es').Perm (ins k (keys es))→Q b { s with heap:=h' }):wpAny (model prog w) A (setAddHashed a (.int k tk) (hashInt k)) Q E s:=by
  unfold setAddHashed setAddHashedIn
  refine wpAny_holding (wpAny_bind (state_ok S ?_))
  dsimp only
  rw [byScan_of (knd:=intKind prog w) (x:=.int k tk) rfl (Nat.lt_trans S.few (by decide)) (elems S),if_pos rfl]
  unfold setAddByScan
  refine wpAny_bind (wpAny_bind (wpAny_rule (wpAny_bind ?_)))
  refine wpAny_setScan_of (knd:=intKind prog w) (k:=k) (intKind_is _ _ _ _) S.obj rfl S.tab.fits (elems S) ?_
  cases hr:es.toList.findIdx? (fun e=>(intKind prog w).is k e.2) with
  | some j =>
    dsimp only
    have hk:k∈keys es:=Classical.byContradiction fun z=>by
      rw [(find_none (prog:=prog) (w:=w) S.ent).mpr z] at hr
      cases hr
    refine wpAny_pure (wpAny_pure ?_)
    have:=h false es ep t s.heap (Heap.SameBut.refl a s.heap) S (by unfold ins; rw [if_pos hk])
    exact this
  | none =>
    dsimp only
    have hk:k∉keys es:=(find_none (prog:=prog) (w:=w) S.ent).mp hr
    obtain ⟨es1,t1,e1,p1,z1,ok1,m1,l1⟩:=new_ok S.tab (hashInt k) (.int k tk)
    rw [e1]
    dsimp only
    have ent1:∀ e∈es1.toList,isEnt e:=fun e he=>by
      rcases List.mem_append.mp (p1.mem_iff.mp he) with z | z
      · exact S.ent e z
      · rw [List.mem_singleton.mp z]; exact ⟨k,tk,rfl⟩
    have pk1:(keys es1).Perm (k::keys es):=by
      have:=p1.map keyOf
      rw [List.map_append] at this
      exact this.trans List.perm_append_comm
    have nd1:(keys es1).Nodup:=pk1.nodup_iff.mpr (List.nodup_cons.mpr ⟨hk,S.nd⟩)
    have few1:es1.size<64:=by omega
    have led1:bt w=false→t1.led=true:=fun z=>by rw [l1]; exact S.led z
    refine wpAny_bind (m:=(pure ():Sem Unit)) (wpAny_pure ?_)
    rw [ok1.plain,if_pos rfl]
    refine wpAny_bind (m:=hashByValue 8 (.int k tk)) (wpAny_pure ?_)
    simp only [if_true]
    by_cases tf:t1.tooFull=true
    · obtain ⟨es2,t2,e2,p2,z2,tab2,l2⟩:=relayAll_ok (es:=es1) ok1.plain few1
      have ent2:∀ e∈es2.toList,isEnt e:=fun e he=>ent1 e (p2.mem_iff.mp he)
      have pk2:(keys es2).Perm (k::keys es):=(p2.map keyOf).trans pk1
      refine wpAny_bind (wpAny_storeSet_of S.obj rfl ?_ (small few1))
      rw [tf,if_pos (by decide),e2]
      dsimp only
      refine wpAny_bind (m:=(pure ():Sem Unit)) (wpAny_pure ?_)
      have o1:=put_get S.obj es1 t1
      refine wpAny_bind (wpAny_storeSet_of o1 rfl (wpAny_pure ?_) (small (by omega)))
      dsimp only
      refine wpAny_pure (h true es2 (ep+1+1) t2 _ ((Heap.SameBut.update s.heap a _).trans (Heap.SameBut.update _ a _)) ⟨put_get o1 es2 t2,ent2,pk2.nodup_iff.mpr (List.nodup_cons.mpr ⟨hk,S.nd⟩),tab2,fun z=>by rw [l2,l1]; exact S.led z,by omega⟩ ?_)
      unfold ins
      rw [if_neg hk]
      exact pk2
    · have room:es1.size * 5<t1.mask * 3:=by
        have : ¬ (t1.fill * 5 ≥ t1.mask * 3):=fun z=>tf (by unfold SetTable.tooFull; exact decide_eq_true z)
        have e:t1.fill=es1.size:=by
          unfold SetTable.fill
          rw [ok1.dum,ok1.size]
          rfl
        omega
      refine wpAny_bind (wpAny_storeSet_of S.obj rfl ?_ (small few1))
      rw [Bool.not_eq_true] at tf
      rw [tf]
      simp only [Bool.and_false,Bool.false_eq_true,if_false]
      refine wpAny_pure ?_
      dsimp only
      refine wpAny_pure (h true es1 (ep+1) t1 _ (Heap.SameBut.update s.heap a _) ⟨put_get S.obj es1 t1,ent1,nd1,⟨ok1,room⟩,led1,few1⟩ ?_)
      unfold ins
      rw [if_neg hk]
      exact pk1
end
end NdS
namespace NdS
open PySem
theorem erase_perm {α:Type}:∀ {l:List α} {i:Nat} (h:i<l.length),(l[i]::l.eraseIdx i).Perm l
  | [],_,h=>absurd h (Nat.not_lt_zero _)
  | a::l,0,h=>List.Perm.refl _
  | a::l,i+1,h=>by
    have:=erase_perm (l:=l) (i:=i) (by simpa using h)
    exact (List.Perm.swap a _ _).trans (List.Perm.cons a this)
theorem pick_go {α:Type} (next:Nat→Nat):∀ (fuel k:Nat) (left:List α) (out:Array α),left.length=fuel→(pickOrder.go next fuel k left out).toList.Perm (out.toList++left)
  | 0,k,left,out,h=>by
    unfold pickOrder.go
    have : left=[]:=List.eq_nil_of_length_eq_zero h
    subst this
    simp
  | fuel+1,k,left,out,h=>by
    unfold pickOrder.go
    have hi:next k % left.length<left.length:=Nat.mod_lt _ (by omega)
    rw [List.getElem?_eq_getElem hi]
    dsimp only
    refine (pick_go next fuel (k+1) _ _ (by rw [List.length_eraseIdx,if_pos hi]; omega)).trans ?_
    rw [Array.toList_push,List.append_assoc]
    exact List.Perm.append_left _ (erase_perm hi)
theorem pick_perm {α:Type} (next:Nat→Nat) (xs:Array α):(pickOrder next xs).toList.Perm xs.toList:=by
  unfold pickOrder
  simpa using pick_go next xs.size 0 xs.toList #[] (by simp)
section
variable {prog:Program} {w:World} {A:Around} {E:Value→Shared→Prop} {s:Shared}
theorem byText_ok {Q:Bool→Shared→Prop} (h:Q (bt w) s):wpAny (model prog w) A setsByText Q E s:=by
  unfold setsByText
  exact wpAny_bind (wpAny_askSetting (wpAny_pure h))
theorem walk_ok {a:Addr} {es:Array (Int×Value)} {ep:Nat} {t:SetTable} {Q:Array (Int×Value)→Shared→Prop} (S:SetS w s.heap a es ep t) (h:Q (if bt w then pickOrder (w.params.setOrder a ep) es else es) s):wpAny (model prog w) A (setWalk a) Q E s:=by
  unfold setWalk
  refine wpAny_bind (state_ok S ?_)
  dsimp only
  refine wpAny_bind (byText_ok ?_)
  cases hb:bt w with
  | true =>
    rw [hb] at h
    rw [if_pos rfl] at h ⊢
    exact wpAny_bind (wpAny_askSetting (wpAny_pure h))
  | false =>
    have hl:=S.led hb
    have hp:=S.tab.plain
    rw [hb] at h
    obtain ⟨mask,place,dummies,finger,led,moves,plain⟩:=t
    have hl':led=true:=hl
    have hp':plain=true:=hp
    subst hl' hp'
    exact wpAny_bind (m:=(pure ():Sem Unit)) (wpAny_pure (wpAny_pure h))
theorem walk_perm {a:Addr} {es:Array (Int×Value)} {ep:Nat}:(if bt w then pickOrder (w.params.setOrder a ep) es else es).toList.Perm es.toList:=by
  cases bt w with
  | true=>exact pick_perm _ _
  | false=>exact List.Perm.refl _
theorem unseen_ok {a:Addr} {others:List Addr} {filled:Option Addr} {es:Array (Int×Value)} {ep:Nat} {t:SetTable} {Q:Array (Int×Value)→Shared→Prop} (S:SetS w s.heap a es ep t) (h:Q (if bt w then pickOrder (w.params.setOrder a ep) es else es) s) :
    wpAny (model prog w) A (setWalkUnseen a others filled) Q E s:=by
  unfold setWalkUnseen
  refine wpAny_bind (state_ok S ?_)
  dsimp only
  refine wpAny_bind (byText_ok ?_)
  have c:(bt w || (t.led && t.plain) || decide (es.size≤1))=true:=by
    cases hb:bt w with
    | true=>rfl
    | false=>rw [S.led hb,S.tab.plain]; rfl
  rw [if_pos c]
  exact walk_ok S h
theorem relay_set {a:Addr} {es:Array (Int×Value)} {ep:Nat} {t:SetTable} {wanted:Nat} {Q:Unit→Shared→Prop} (S:SetS w s.heap a es ep t) (hw:wanted<256) (h2:es.size * 2≤wanted) (h:∀ es' t' h',Heap.SameBut a s.heap h'→SetS w h' a es' (ep+1) t'→(keys es').Perm (keys es)→wanted≤t'.mask→7≤t'.mask→Q () { s with heap:=h' }):wpAny (model prog w) A (setRelay a wanted) Q E s:=by
  obtain ⟨t',order,q1,q2,q3,q4⟩:=relay_ok (es:=es) S.tab.plain hw h2
  obtain ⟨p1,p2⟩:=picked es q2
  obtain ⟨m,e1,g,hm⟩:=sizeAbove_good hw
  have mk:t'.mask=m:=by
    unfold SetTable.relaid at q1
    rw [(laid_led q1).2.1,e1]
    rfl
  have m7:7≤t'.mask:=by
    have : 8≤SetTable.sizeAbove wanted:=by
      have key:∀ k:Fin 256,decide (8≤SetTable.sizeAbove k.1)=true:=by decide +kernel
      exact of_decide_eq_true (key ⟨wanted,hw⟩)
    omega
  have sz:SetTable.sizeAbove wanted≤256:=by
    have key:∀ k:Fin 256,decide (SetTable.sizeAbove k.1≤256)=true:=by decide +kernel
    exact of_decide_eq_true (key ⟨wanted,hw⟩)
  unfold setRelay
  refine wpAny_bind (state_ok S ?_)
  dsimp only
  rw [if_neg (by rw [sizeLine_eq]; omega),q1]
  refine wpAny_bind ?_
  show wpAny (model prog w) A (do
    if (order.filterMap (es[·]?)).size != es.size then unsupported "internal:set-table-lost-an-element"
    pure (order.filterMap (es[·]?),t')) _ _ _
  rw [if_neg (by rw [p2]; simp)]
  refine wpAny_pure ?_
  dsimp only
  refine store_set S (fun e he=>S.ent e (p1.mem_iff.mp he)) ((p1.map keyOf).nodup_iff.mpr S.nd) (by rw [p2]; exact q3) (fun z=>by rw [q4]; exact S.led z) (by rw [p2]; exact S.few) fun h' sb S'=>?_
  exact h _ _ h' sb S' (p1.map keyOf) (by omega) m7
theorem keys_size {es es':Array (Int×Value)} (p:(keys es').Perm (keys es)):es'.size=es.size:=by
  have:=p.length_eq
  rw [List.length_map,List.length_map,Array.length_toList,Array.length_toList] at this
  exact this
theorem room_ok {a:Addr} {es:Array (Int×Value)} {ep more:Nat} {t:SetTable} {Q:Unit→Shared→Prop} (S:SetS w s.heap a es ep t) (hm:es.size+more<128) (h:∀ es' ep' t' h',Heap.SameBut a s.heap h'→SetS w h' a es' ep' t'→(keys es').Perm (keys es)→(es.size+more) * 5<t'.mask * 3→Q () { s with heap:=h' }):wpAny (model prog w) A (setRoomFor a more) Q E s:=by
  have fl:t.fill=es.size:=by
    unfold SetTable.fill
    rw [S.tab.dum,S.tab.size]
    rfl
  unfold setRoomFor
  refine wpAny_bind (state_ok S ?_)
  dsimp only
  unfold SetTable.roomFor
  rw [fl,S.tab.size]
  by_cases c:(es.size+more) * 5 ≥ t.mask * 3
  · rw [if_pos c]
    dsimp only
    refine relay_set S (by omega) (by omega) fun es' t' h' sb S' p m1 m7=>h es' _ t' h' sb S' p ?_
    omega
  · rw [if_neg c]
    dsimp only
    exact wpAny_pure (h es ep t s.heap (Heap.SameBut.refl _ _) S (List.Perm.refl _) (by omega))
end
def Among (U:List Int) (l:List Int):Prop:=∀ x∈l,x∈U
theorem len_leI:∀ {l1 l2:List Int},l1.Nodup→(∀ e∈l1,e∈l2)→l1.length≤l2.length
  | [],_,_,_=>Nat.zero_le _
  | a::l1,l2,nd,h=>by
    have nd':=List.nodup_cons.mp nd
    have ha:=h a (List.mem_cons_self ..)
    have:=len_leI (l2:=l2.erase a) nd'.2 fun e he=>(List.mem_erase_of_ne (show e≠a from fun z=>nd'.1 (by rw [← z]; exact he))).mpr (h e (List.mem_cons_of_mem _ he))
    rw [List.length_erase_of_mem ha] at this
    have p:0<l2.length:=List.length_pos_of_mem ha
    rw [List.length_cons]
    omega
theorem Among.size {U:List Int} {es:Array (Int×Value)} (h:Among U (keys es)) (nd:(keys es).Nodup):es.size≤U.length:=by
  have:=len_leI nd h
  rw [List.length_map,Array.length_toList] at this
  exact this
theorem mem_ins {x k:Int} {l:List Int}:x∈ins k l↔x=k∨x∈l:=by
  unfold ins
  split
  · rename_i h
    constructor
    · exact .inr
    · rintro (z | z)
      · rw [z]; exact h
      · exact z
  · rw [List.mem_cons]
section
variable {prog:Program} {w:World} {A:Around} {E:Value→Shared→Prop}
theorem merge_loop {U:List Int} (hU:U.length≤62) {a o:Addr} (ao:a≠o) {eo:Array (Int×Value)} {epo:Nat} {to:SetTable} {each:Sem Unit}
    (hE:∀ (s:Shared) (Q:Unit→Shared→Prop),SetS w s.heap o eo epo to→Q () s→wpAny (model prog w) A each Q E s) :
    ∀ (l:List (Int×Value)) (s:Shared) (es:Array (Int×Value)) (ep:Nat) (t:SetTable) (Q:Unit→Shared→Prop),(∀ e∈l,isEnt e)→Among U (l.map keyOf)→Among U (keys es)→SetS w s.heap a es ep t→SetS w s.heap o eo epo to →
      (∀ es' ep' t' h',Heap.SameBut a s.heap h'→SetS w h' a es' ep' t'→(∀ x,x∈keys es'↔x∈keys es∨x∈l.map keyOf)→Q () { s with heap:=h' }) →
      wpAny (model prog w) A (forIn l PUnit.unit fun (x:Int×Value) _=>do
        let _ ← holding [x.2] (setAddHashed a x.2 x.1)
        each
        if (← setState o).2.1 != epo then unsupported "set.changed-during-merge"
        pure (ForInStep.yield PUnit.unit)) Q E s
  | [],s,es,ep,t,Q,_,_,_,S,_,h=>by
    rw [List.forIn_nil]
    exact wpAny_pure (h es ep t s.heap (Heap.SameBut.refl _ _) S (by simp))
  | e::l,s,es,ep,t,Q,he,hl,hk,S,So,h=>by
    obtain ⟨k,tk,rfl⟩:=he e (List.mem_cons_self ..)
    rw [List.forIn_cons]
    have n1:=hk.size S.nd
    refine wpAny_bind (wpAny_bind (wpAny_holding (add_ok S (by omega) fun b es1 ep1 t1 h1 sb1 S1 p1=>?_)))
    have So1:SetS w h1 o eo epo to:=So.keep fun ob q=>(sb1.2 o (Ne.symm ao)).trans q
    refine wpAny_bind (hE { s with heap:=h1 } _ So1 ?_)
    refine wpAny_bind (state_ok (s:={ s with heap:=h1 }) So1 ?_)
    dsimp only
    rw [if_neg (by simp)]
    refine wpAny_pure ?_
    have m1:∀ x,x∈keys es1↔x=k∨x∈keys es:=fun x=>by rw [p1.mem_iff,mem_ins]
    have hk1:Among U (keys es1):=fun x hx=>by
      rcases (m1 x).mp hx with z | z
      · rw [z]; exact hl k (List.mem_cons_self ..)
      · exact hk x z
    refine merge_loop hU ao hE l { s with heap:=h1 } es1 ep1 t1 Q (fun e hm=>he e (List.mem_cons_of_mem _ hm)) (fun x hx=>hl x (List.mem_cons_of_mem _ hx)) hk1 S1 So1 fun es2 ep2 t2 h2 sb2 S2 m2=>?_
    refine h es2 ep2 t2 h2 (sb1.trans sb2) S2 fun x=>?_
    rw [m2,m1,List.map_cons,List.mem_cons]
    show (x=k∨x∈keys es)∨x∈l.map keyOf↔x∈keys es∨x=k∨x∈l.map keyOf
    constructor
    · rintro ((z | z) | z)
      · exact .inr (.inl z)
      · exact .inl z
      · exact .inr (.inr z)
    · rintro (z | z | z)
      · exact .inl (.inr z)
      · exact .inl (.inl z)
      · exact .inr z
end
end NdS
namespace NdS
open PySem
section
variable {prog:Program} {w:World} {A:Around} {E:Value→Shared→Prop} {s:Shared}
theorem merge_ok {U:List Int} (hU:U.length≤62) {a o:Addr} (ao:a≠o) {es eo:Array (Int×Value)} {ep epo:Nat} {t to:SetTable} {each:Sem Unit} {Q:Unit→Shared→Prop} (hE:∀ (s:Shared) (Q:Unit→Shared→Prop),SetS w s.heap o eo epo to→Q () s→wpAny (model prog w) A each Q E s) (S:SetS w s.heap a es ep t) (So:SetS w s.heap o eo epo to) (hk:Among U (keys es)) (ho:Among U (keys eo)) (h:∀ es' ep' t' h',Heap.SameBut a s.heap h'→SetS w h' a es' ep' t'→(∀ x,x∈keys es'↔x∈keys es∨x∈keys eo)→Q () { s with heap:=h' }):wpAny (model prog w) A (setMerge a o each) Q E s:=by
  have n1:=hk.size S.nd
  have n2:=ho.size So.nd
  unfold setMerge
  rw [if_neg (by simpa using ao)]
  refine wpAny_bind (state_ok So ?_)
  dsimp only
  by_cases em:eo.isEmpty=true
  · rw [if_pos em]
    have : eo=#[]:=by simpa using em
    refine wpAny_pure (h es ep t s.heap (Heap.SameBut.refl _ _) S fun x=>?_)
    rw [this]
    simp
  rw [if_neg em]
  refine wpAny_bind (room_ok S (by omega) fun es1 ep1 t1 h1 sb1 S1 p1 r1=>?_)
  have So1:SetS w h1 o eo epo to:=So.keep fun ob q=>(sb1.2 o (Ne.symm ao)).trans q
  refine wpAny_bind (state_ok (s:={ s with heap:=h1 }) S1 ?_)
  dsimp only
  have z1:=keys_size p1
  have fl:t1.fill=es.size:=by
    unfold SetTable.fill
    rw [S1.tab.dum,S1.tab.size]
    exact z1
  have empty:t1.fill=0→∀ x,x∉keys es:=fun z x hx=>by
    have : es.size=0:=by omega
    have e:es=#[]:=Array.eq_empty_of_size_eq_zero this
    rw [e] at hx
    simp at hx
  cases hr:t1.road to with
  | slotForSlot =>
    unfold SetTable.road at hr
    split at hr
    · cases hr
    · rename_i hf
      have hf':t1.fill=0:=by simpa using hf
      split at hr
      · rename_i hm
        simp only [Bool.and_eq_true,beq_iff_eq] at hm
        refine store_set S1 So1.ent So1.nd (t':={ to with finger:=t1.finger,led:=t1.led && to.led,moves:=t1.moves,plain:=t1.plain && to.plain }) ⟨⟨So1.tab.good,So1.tab.dum,by show (t1.plain && to.plain)=true; rw [S1.tab.plain,So1.tab.plain]; rfl,So1.tab.rise,So1.tab.top,So1.tab.size⟩,So1.tab.room⟩
          (fun z=>by show (t1.led && to.led)=true; rw [S1.led z,So1.led z]; rfl) So1.few fun h2 sb2 S2=>?_
        refine h eo _ _ h2 (sb1.trans sb2) S2 fun x=>⟨.inr,fun z=>z.elim (fun q=>absurd q (empty hf' x)) id⟩
      · cases hr
  | clean =>
    have hf':t1.fill=0:=by
      unfold SetTable.road at hr
      split at hr
      · cases hr
      · rename_i hf
        simpa using hf
    have sz:(eo.map (·.1)).size=eo.size:=Array.size_map ..
    obtain ⟨t2,order,q1,q2,q3,q4⟩:=laid_tab (mask:=t1.mask) (finger:=t1.finger) (moves:=t1.moves) (led:=t1.led && to.led) S1.tab.good (eo.map (·.1)) (by rw [sz]; omega)
    rw [sz] at q2 q3
    obtain ⟨pk,ps⟩:=picked eo q2
    dsimp only
    have pl:(t1.plain && to.plain)=true:=by rw [S1.tab.plain,So1.tab.plain]; rfl
    rw [pl,q1]
    refine wpAny_bind ?_
    show wpAny (model prog w) A (do
      if (order.filterMap (eo[·]?)).size != eo.size then unsupported "internal:set-table-lost-an-element"
      pure (order.filterMap (eo[·]?),t2)) _ _ _
    rw [if_neg (by rw [ps]; simp)]
    refine wpAny_pure ?_
    dsimp only
    refine store_set S1 (fun e he=>So1.ent e (pk.mem_iff.mp he)) ((pk.map keyOf).nodup_iff.mpr So1.nd) (by rw [ps]; exact q3) (fun z=>by rw [q4,S1.led z,So1.led z]; rfl) (by rw [ps]; exact So1.few) fun h2 sb2 S2=>?_
    refine h _ _ _ h2 (sb1.trans sb2) S2 fun x=>?_
    rw [(pk.map keyOf).mem_iff]
    exact ⟨.inr,fun z=>z.elim (fun q=>absurd q (empty hf' x)) id⟩
  | oneByOne =>
    dsimp only
    refine wpAny_bind (unseen_ok (s:={ s with heap:=h1 }) So1 ?_)
    have wp:=walk_perm (w:=w) (a:=o) (es:=eo) (ep:=epo)
    generalize (if bt w then pickOrder (w.params.setOrder o epo) eo else eo)=arr at wp
    rw [← Array.forIn_toList]
    refine wpAny_bind (merge_loop hU ao hE arr.toList { s with heap:=h1 } es1 ep1 t1 _ (fun e he=>So1.ent e (wp.mem_iff.mp he)) (fun x hx=>ho x ((wp.map keyOf).mem_iff.mp hx)) (fun x hx=>hk x (p1.mem_iff.mp hx)) S1 So1 fun es2 ep2 t2 h2 sb2 S2 m2=>wpAny_pure ?_)
    refine h es2 ep2 t2 h2 (sb1.trans sb2) S2 fun x=>?_
    rw [m2,p1.mem_iff,(wp.map keyOf).mem_iff]
end
end NdS
namespace NdS
open PySem
theorem entry_set_or:entryFor table "set.__or__" = some Builtin.«frozenset.__or__» :=
  entryFor_alias (id' := "frozenset.__or__") (by kernel_rfl) (by first | rfl | decide +kernel) (by decide +kernel) (by kernel_rfl)
theorem sub_set_set:isSubtype (.type "set") (.type "set")=pure true:=by rw [isSubtype_type]; kernel_rfl
section
variable {prog:Program} {w:World} {A:Around} {E:Value→Shared→Prop} {s:Shared}
theorem SetS.ty {a:Addr} {es:Array (Int×Value)} {ep:Nat} {t:SetTable} (S:SetS w s.heap a es ep t):s.TypeIs (.ref a) "set" := ⟨_,S.obj,rfl⟩
theorem fresh_set {h:Heap}:SetS w (h.push (setObj #[] 0 (.fresh 0 0 (!bt w)))) h.objs.size #[] 0 (.fresh 0 0 (!bt w)) :=
  ⟨Heap.get?_push_size _ rfl,(fun e he=>by simp at he),List.Pairwise.nil,⟨⟨good8,rfl,rfl,List.Pairwise.nil,(fun j hj=>by simp [SetTable.fresh] at hj),rfl⟩,by show 0 * 5<7 * 3; decide⟩,(fun z=>by show (!bt w)=true; rw [z]; rfl),by decide⟩
theorem newSet_ok {Q:Value→Shared→Prop} (h:Q (.ref s.heap.objs.size) { s with heap:=s.heap.push (setObj #[] 0 (.fresh 0 0 (!bt w))) }):wpAny (model prog w) A (newSet (.type "set")) Q E s:=by
  unfold newSet
  refine wpAny_bind (byText_ok ?_)
  dsimp only
  simp only [newObj]
  exact wpAny_bind (wpAny_alloc (wpAny_pure h))
theorem anySet_ok {a:Addr} {Q:Bool→Shared→Prop} (T:s.TypeIs (.ref a) "set") (h:Q true s):wpAny (model prog w) A (Builtin.Frozenset.isAnySet (.ref a)) Q E s:=by
  unfold Builtin.Frozenset.isAnySet
  exact wpAny_bind (wpAny_isInstance T sub_set_set (wpAny_pure h))
theorem base_ok {a:Addr} {Q:Value→Shared→Prop} (T:s.TypeIs (.ref a) "set") (h:Q (.type "set") s):wpAny (model prog w) A (Builtin.Frozenset.baseOf a) Q E s:=by
  unfold Builtin.Frozenset.baseOf
  exact wpAny_bind (wpAny_isInstance T sub_set_set (wpAny_pure h))
theorem keep_of {h h' h2:Heap} {a:Addr} (k:∀ b o,h.get? b=some o→h'.get? b=some o) (n:h.get? a=none) (sb:Heap.SameBut a h' h2):∀ b o,h.get? b=some o→h2.get? b=some o:=fun b o e =>
  (sb.2 b (fun z=>by rw [z,n] at e; cases e)).trans (k b o e)
theorem copy_ok {U:List Int} (hU:U.length≤62) {a:Addr} {es:Array (Int×Value)} {ep:Nat} {t:SetTable} {Q:Value→Shared→Prop} (S:SetS w s.heap a es ep t) (hk:Among U (keys es)) (h:∀ es' ep' t' h',(∀ b o,s.heap.get? b=some o→h'.get? b=some o)→SetS w h' s.heap.objs.size es' ep' t'→(∀ x,x∈keys es'↔x∈keys es)→Q (.ref s.heap.objs.size) { s with heap:=h' }):wpAny (model prog w) A (Builtin.Frozenset.copyOf a) Q E s:=by
  have lt:=Heap.lt_size S.obj
  have ne:s.heap.objs.size≠a:=Nat.ne_of_gt lt
  unfold Builtin.Frozenset.copyOf
  refine wpAny_bind (base_ok S.ty (wpAny_bind (newSet_ok ?_)))
  refine wpAny_bind (m:=Builtin.Frozenset.addrOf (.ref s.heap.objs.size)) (wpAny_pure ?_)
  refine wpAny_bind (merge_ok (s:={ s with heap:=s.heap.push (setObj #[] 0 (.fresh 0 0 (!bt w))) }) hU ne (each:=pure ()) (fun s' Q' _ q=>wpAny_pure q) fresh_set (S.keep fun o q=>Heap.get?_push_of_some _ q) (fun x hx=>by simp at hx) hk fun es' ep' t' h' sb S' m=>wpAny_pure ?_)
  exact h es' ep' t' h' (keep_of (fun b o e=>Heap.get?_push_of_some _ e) (Heap.get?_none_of_le (Nat.le_refl _)) sb) S' fun x=>by rw [m]; simp
theorem or_ok {U:List Int} (hU:U.length≤62) {a b:Addr} (ab:a≠b) {ea eb:Array (Int×Value)} {epa epb:Nat} {ta tb:SetTable} {Q:Value→Shared→Prop} (Sa:SetS w s.heap a ea epa ta) (Sb:SetS w s.heap b eb epb tb) (ka:Among U (keys ea)) (kb:Among U (keys eb)) (h:∀ es' ep' t' h',(∀ c o,s.heap.get? c=some o→h'.get? c=some o)→SetS w h' s.heap.objs.size es' ep' t'→(∀ x,x∈keys es'↔x∈keys ea∨x∈keys eb)→Q (.ref s.heap.objs.size) { s with heap:=h' }):wpAny (model prog w) A (binaryOp .BitOr (.ref a) (.ref b)) Q E s:=by
  refine wpAny_binaryOp_same (id := "set.__or__") Sa.ty Sb.ty PySem.F.fills_set_or PySem.F.slot_set_or (wpAny_call_entry PySem.F.slot_set_or Sa.ty entry_set_or ?_ (PySem.F.args_set_or_2 _ _))
  show wpAny (model prog w) _ (do
    let (self,other) ← Builtin.Frozenset.slot1 "__or__" ⟨[.ref a,.ref b],[]⟩
    let (l,r):=(self,other)
    if !(← Builtin.Frozenset.isAnySet l <&&> Builtin.Frozenset.isAnySet r) then rule s!"frozenset.{"__or__"}.declined"; return ← ret .notImplemented
    ret (← (do
      let result ← Builtin.Frozenset.copyOf (← Builtin.Frozenset.addrOf l)
      if r != .ref (← Builtin.Frozenset.addrOf l) then holding [result] (Builtin.Frozenset.updateFrom s!"frozenset.{"__or__"}" (← Builtin.Frozenset.addrOf result) r)
      return result))) _ _ _
  refine wpAny_bind (m:=Builtin.Frozenset.slot1 "__or__" ⟨[.ref a,.ref b],[]⟩) (wpAny_of_eq (a:=(Value.ref a,Value.ref b)) rfl ?_)
  dsimp only
  refine wpAny_bind (wpAny_bind (anySet_ok Sa.ty ?_))
  refine anySet_ok Sb.ty ?_
  simp only [Bool.not_true,Bool.false_eq_true,if_false]
  refine wpAny_bind (wpAny_bind (m:=Builtin.Frozenset.addrOf (.ref a)) (wpAny_pure (wpAny_bind (copy_ok hU Sa ka fun e1 p1 t1 h1 k1 S1 m1=>?_))))
  have ne:s.heap.objs.size≠b:=Nat.ne_of_gt (Heap.lt_size Sb.obj)
  have nr:s.heap.get? s.heap.objs.size=none:=Heap.get?_none_of_le (Nat.le_refl _)
  have Sb1:SetS w h1 b eb epb tb:=Sb.keep fun o q=>k1 b o q
  refine wpAny_bind (m:=Builtin.Frozenset.addrOf (.ref a)) (wpAny_pure ?_)
  rw [if_pos (show (Value.ref b != Value.ref a)=true by simpa using Ne.symm ab)]
  refine wpAny_bind (m:=Builtin.Frozenset.addrOf (.ref s.heap.objs.size)) (wpAny_pure (wpAny_bind (wpAny_holding ?_)))
  unfold Builtin.Frozenset.updateFrom
  refine wpAny_bind (anySet_ok (s:={ s with heap:=h1 }) (w:=w) Sb1.ty ?_)
  rw [if_pos rfl]
  refine wpAny_bind (m:=Builtin.Frozenset.addrOf (.ref b)) (wpAny_pure ?_)
  unfold Builtin.Frozenset.merge setEpoch
  refine wpAny_bind (wpAny_bind (state_ok (s:={ s with heap:=h1 }) Sb1 (wpAny_pure ?_)))
  refine merge_ok (s:={ s with heap:=h1 }) hU ne (fun s' Q' So' q'=>?_) S1 Sb1 (fun x hx=>ka x ((m1 x).mp hx)) kb fun e2 p2 t2 h2 sb2 S2 m2=>?_
  · unfold Builtin.Frozenset.unchanged setEpoch
    refine wpAny_bind (wpAny_bind (state_ok So' (wpAny_pure ?_)))
    dsimp only
    rw [if_neg (by simp)]
    exact wpAny_pure q'
  · refine wpAny_pure (wpAny_pure ⟨_,rfl,(fun z=>nomatch z),h e2 p2 t2 h2 (keep_of k1 nr sb2) S2 fun x=>by rw [m2,m1]⟩)
end
end NdS
namespace NdS
open PySem PyProof.Rows
section
variable {prog:Program} {w:World} {A:Around} {R:Result→Shared→Prop}
theorem upd_loop {U:List Int} (hU:U.length≤62) {a it l:Addr} (n1:a≠it) (n2:a≠l) (n3:l≠it) {items:Array Value} {ns:List Int} (hI:IntsAre items.toList ns) (hN:Among U ns) (hh:A.in1.handled=none):∀ (k i:Nat) (s:Shared) (es:Array (Int×Value)) (ep:Nat) (t:SetTable),items.size - i=k→i≤items.size→s.heap.IsTupleIter it l i→s.heap.IsTuple l items→SetS w s.heap a es ep t→Among U (keys es)→(∀ es' ep' t' h' tk,(∀ b o,b≠a→b≠it→s.heap.get? b=some o→h'.get? b=some o)→SetS w h' a es' ep' t'→(∀ x,x∈keys es'↔x∈keys es∨x∈ns.drop i)→R (.ok (.ret .none)) { s with heap:=h',toks:=tk })→codeAny (model prog w) A (.builtin "set.update.loop" ⟨[.ref a,.ref it],[]⟩) R s:=by
  have len:ns.length=items.size:=by rw [← hI.length,Array.length_toList]
  intro k
  induction k with
  | zero =>
    intro i s es ep t hk hi hit hl S hu hR
    have e:i=items.size:=by omega
    refine codeAny_builtin PyProof.Rows.F.entry_set_update_loop ?_
    rw [Around.under_plainId PyProof.Rows.F.plain_set_update_loop _]
    show wpAny _ A.in1 (pyNext (.ref it) >>= _) _ _ s
    refine wpAny_bind (wpAny_pyNext_tuple_end hh hit hl (by rw [e]; simp) fun h' x=>?_)
    refine wpAny_pure (hR es ep t h' s.toks (fun b o _ q e=>x b o q e) (S.keep fun o q=>x a o n1 q) fun x=>?_)
    rw [e,← len,List.drop_length]
    simp
  | succ k ih =>
    intro i s es ep t hk hi hit hl S hu hR
    have lt:i<items.size:=by omega
    have lt':i<ns.length:=by omega
    obtain ⟨tk,ev⟩:=IntsAre.int_at hI i items[i] (by simp [lt])
    have eg:ns.getD i 0=ns[i]:=by simp [List.getD,lt']
    rw [eg] at ev
    refine codeAny_builtin PyProof.Rows.F.entry_set_update_loop ?_
    rw [Around.under_plainId PyProof.Rows.F.plain_set_update_loop _]
    show wpAny _ A.in1 (pyNext (.ref it) >>= _) _ _ s
    refine wpAny_bind (wpAny_pyNext_tuple_item hit hl (x:=items[i]) (by simp [lt]) fun h1 hit1 sb1=>?_)
    rw [ev]
    show wpAny _ A.in1 (holding [Value.int ns[i] tk] (setAdd a (.int ns[i] tk)) >>= _) _ _ _
    refine wpAny_bind (wpAny_holding ?_)
    unfold setAdd
    refine wpAny_holding (wpAny_bind ((intKind prog w).pyHash (k:=ns[i]) (intKind_is _ _ _ _) ?_))
    have S1:SetS w h1 a es ep t:=S.keep fun o q=>(sb1.2 a n1).trans q
    have z:=hu.size S1.nd
    refine add_ok (s:={ s with heap:=h1,toks:=s.toks+1 }) S1 (by omega) fun b es2 ep2 t2 h2 sb2 S2 p2=>?_
    have m2:∀ x,x∈keys es2↔x=ns[i]∨x∈keys es:=fun x=>by rw [p2.mem_iff,mem_ins]
    refine wpAny_pure ⟨plainId_quiet PyProof.Rows.F.plain_set_update_loop _,?_⟩
    refine ih (i+1) { s with heap:=h2,toks:=s.toks+1 } es2 ep2 t2 (by omega) lt ?_ ?_ S2 (fun x hx=>?_) fun es3 ep3 t3 h3 tk3 k3 S3 m3=>?_
    · obtain ⟨o,ho,r⟩:=hit1
      exact ⟨o,(sb2.2 it (Ne.symm n1)).trans ho,r⟩
    · obtain ⟨o,ho,r⟩:=hl
      exact ⟨o,(sb2.2 l (Ne.symm n2)).trans ((sb1.2 l n3).trans ho),r⟩
    · rcases (m2 x).mp hx with q | q
      · rw [q]; exact hN _ (List.getElem_mem lt')
      · exact hu x q
    · refine hR es3 ep3 t3 h3 tk3 (fun b o q1 q2 e=>k3 b o q1 q2 ((sb2.2 b q1).trans ((sb1.2 b q2).trans e))) S3 fun x=>?_
      rw [m3,m2,List.drop_eq_getElem_cons lt',List.mem_cons]
      constructor
      · rintro ((q | q) | q)
        · exact .inr (.inl q)
        · exact .inl q
        · exact .inr (.inr q)
      · rintro (q | q | q)
        · exact .inl (.inr q)
        · exact .inl (.inl q)
        · exact .inr q
end
section
variable {prog:Program} {w:World} {A:Around} {E:Value→Shared→Prop} {s:Shared}
theorem new_code (v:Value) {Q:Value→Shared→Prop} (h:Q (.ref s.heap.objs.size) { s with heap:=s.heap.push (setObj #[] 0 (.fresh 0 0 (!bt w))) }):codeAny (model prog w) A (.call (.builtin "set.__new__") ⟨[.type "set",v],[]⟩) (wants Q E) s:=by
  have sub:=sub_set_set
  obtain ⟨hp,g,d,tk,os⟩:=s
  refine codeAny_of_tree (show wpAny _ A.in1 (do checkBuiltinCall "set.__new__" ⟨[.type "set",v],[]⟩; again (.builtin "set.__new__" ⟨[.type "set",v],[]⟩)) _ _ _ from ?_)
  refine wpAny_bind (wpAny_of_eq (PySem.F.newCall_set_1 v) (wpAny_pure ⟨plainId_quiet PySem.F.plain_set_new _,codeAny_builtin PySem.F.entry_set_new ?_⟩))
  rw [Around.under_plainId PySem.F.plain_set_new _]
  unfold Builtin.«set.__new__» Builtin.Frozenset.newClass
  dsimp only
  wp_walk
  refine wpAny_askSetting (wpAny_pure ?_)
  dsimp only
  simp only [newObj]
  exact wpAny_bind (wpAny_alloc (wpAny_pure (wpAny_pure h)))
theorem set_tup {U:List Int} (hU:U.length≤62) {l:Addr} {items:Array Value} {ns:List Int} {Q:Value→Shared→Prop} (hh:A.handled=none) (hl:s.heap.IsTuple l items) (hI:IntsAre items.toList ns) (hN:Among U ns) (h:∀ es ep t h' tk,(∀ b o,s.heap.get? b=some o→h'.get? b=some o)→SetS w h' s.heap.objs.size es ep t→(∀ x,x∈keys es↔x∈ns)→Q (.ref s.heap.objs.size) { s with heap:=h',toks:=tk }):wpAny (model prog w) A (call (.type "set") [.ref l]) Q E s:=by
  obtain ⟨c,tl,hmro⟩:=PySem.F.called_set.mro
  have hmade:=PySem.F.called_set.made
  have hsub:=PySem.F.called_set.sub
  have h1:=PySem.F.called_set.notType
  have h2:=PySem.F.called_set.canCreate
  have hct:=PySem.F.typeCall_set_1 (.ref l)
  refine wpAny_call (codeAny_of_tree (show wpAny _ _ (callAny (.type "set") _) _ _ _ from ?_))
  refine wpAny_pure ⟨Code.quiet_builtin _ (by decide +kernel),codeAny_builtin PySem.F.entry_type_call ?_⟩
  rw [Around.under_plain (weight_type_call_type "set" [.ref l] []) rfl]
  repeat (any_goals (first | assumption | wp_step))
  refine codeAny_mono (new_code (.ref l) (E:=E) (Q:=fun v s1=>v=.ref s.heap.objs.size∧s1={ s with heap:=s.heap.push (setObj #[] 0 (.fresh 0 0 (!bt w))) }) ⟨rfl,rfl⟩) fun r s1 hr=>?_
  rcases r with e | (_ | _ | _ | v)
  · exact hr
  · exact hr.elim
  · exact hr.elim
  · exact hr.elim
  obtain ⟨rfl,rfl⟩:=hr
  have S0:=fresh_set (w:=w) (h:=s.heap)
  have T0:Shared.TypeIs { s with heap:=s.heap.push (setObj #[] 0 (.fresh 0 0 (!bt w))) } (.ref s.heap.objs.size) "set" := ⟨_,S0.obj,rfl⟩
  have hli:=PySem.F.called_set.init.lookup
  have hbi:=PySem.F.called_set.init.bind (.ref s.heap.objs.size)
  repeat (any_goals (first | assumption | wp_step))
  refine codeAny_mono (codeAny_call_builtin (R:=wants (fun r s2=>r=.none∧∃ es ep t h' tk,s2={ s with heap:=h',toks:=tk }∧(∀ b o,s.heap.get? b=some o→h'.get? b=some o)∧SetS w h' s.heap.objs.size es ep t∧∀ x,x∈keys es↔x∈ns) E)
    PySem.F.called_set.init.plain PySem.F.entry_set_init (check_set_init_1 T0 ?_)) fun r s2 hr=>?_
  · obtain ⟨⟨oc,od,odt,osl⟩,ho,hc,n,hd⟩:=id hl
    have hc':oc=.type "tuple" := hc
    have hd':odt=.seq items n:=hd
    subst hc' hd'
    have ho':=Heap.get?_push_of_some (setObj #[] 0 (.fresh 0 0 (!bt w))) ho
    have hl1:(s.heap.push (setObj #[] 0 (.fresh 0 0 (!bt w)))).IsTuple l items:=⟨_,ho',rfl,n,rfl⟩
    have f1:=PySem.F.sub_tuple_set
    have f2:=PySem.F.sub_tuple_frozenset
    have f3:(Value.type "tuple" == Value.type "dict")=false:=by decide
    have lt:=Heap.lt_size ho
    unfold Builtin.«set.__init__» noKeywords Builtin.Frozenset.updateFrom
    generalize hPI:pyIter=PI
    wp_walk
    subst hPI
    refine wpAny_pyIter_tuple hl1 (wpAny_bind (wpAny_runValue ?_))
    have sz:(s.heap.push (setObj #[] 0 (.fresh 0 0 (!bt w)))).objs.size=s.heap.objs.size+1:=Heap.size_push _ _
    have g1:((s.heap.push (setObj #[] 0 (.fresh 0 0 (!bt w)))).push { cls:=.type "tuple_iterator",data:=.fields #[.ref l,.int 0 0] }).get? (s.heap.push (setObj #[] 0 (.fresh 0 0 (!bt w)))).objs.size=some { cls:=.type "tuple_iterator",data:=.fields #[.ref l,.int 0 0] }:=Heap.get?_push_size _ rfl
    refine upd_loop hU (by rw [sz]; exact Nat.ne_of_lt (Nat.lt_succ_self _)) (Nat.ne_of_gt lt) (by rw [sz]; exact Nat.ne_of_lt (Nat.lt_succ_of_lt lt)) hI hN (by simp [hh]) (items.size - 0) 0 _ #[] 0 (.fresh 0 0 (!bt w)) rfl (Nat.zero_le _) ⟨_,g1,rfl,rfl⟩ ⟨_,Heap.get?_push_of_some _ ho',rfl,n,rfl⟩
      (S0.keep fun o q=>Heap.get?_push_of_some _ q) (fun x hx=>by simp at hx) fun es ep t h' tk k' S' m'=>?_
    refine wpAny_pure (wpAny_pure ⟨rfl,es,ep,t,h',tk,rfl,fun b o e=>?_,S',fun x=>?_⟩)
    · have lb:=Heap.lt_size e
      exact k' b o (Nat.ne_of_lt lb) (by rw [sz]; exact Nat.ne_of_lt (Nat.lt_succ_of_lt lb)) (Heap.get?_push_of_some _ (Heap.get?_push_of_some _ e))
    · rw [m',List.drop_zero]
      simp
  · rcases r with e | (_ | _ | _ | v)
    · exact hr
    · exact hr.elim
    · exact hr.elim
    · exact hr.elim
    obtain ⟨rfl,es,ep,t,h',tk,rfl,k',S',m'⟩:=hr
    repeat (any_goals (first | assumption | wp_step))
    exact h es ep t h' tk k' S' m'
end
end NdS
namespace NdS
open PySem PyProof.Rows
theorem slot_next:Slot "set_iterator" "__next__" "set_iterator.__next__" :=
  .of (owner := "set_iterator") (n := "__next__") (by rw [typeLookup_type,builtinLookup_eq_fast]; kernel_rfl) (by decide +kernel) (by decide +kernel) (by decide +kernel) (by first | exact .inl (by decide +kernel) | exact .inr (by decide +kernel)) (by rw [isSubtype_type]; kernel_rfl)
theorem entry_next:entryFor table "set_iterator.__next__" = some Builtin.«set_iterator.__next__»:=entryFor_of_tree (by kernel_rfl)
theorem args_next (a:Value):argsOk "set_iterator.__next__" ⟨[a],[]⟩:=by unfold argsOk; kernel_rfl
theorem entry_iter:entryFor table "set.__iter__" = some Builtin.«frozenset.__iter__» :=
  entryFor_alias (id' := "frozenset.__iter__") (by kernel_rfl) (by first | rfl | decide +kernel) (by decide +kernel) (by kernel_rfl)
abbrev itObj (f i:Nat) (a:Addr) (n ep:Nat):Obj:={ cls:=.type "set_iterator",data:=.fields #[rawInt f,rawInt i,.ref a,rawInt n,rawInt ep] }
def arrOf (w:World) (a:Addr) (ep:Nat) (es:Array (Int×Value)):Array (Int×Value):=if bt w then pickOrder (w.params.setOrder a ep) es else es
theorem arr_perm {w:World} {a:Addr} {ep:Nat} {es:Array (Int×Value)}:(arrOf w a ep es).toList.Perm es.toList:=walk_perm
theorem arr_size {w:World} {a:Addr} {ep:Nat} {es:Array (Int×Value)}:(arrOf w a ep es).size=es.size:=by
  have:=(arr_perm (w:=w) (a:=a) (ep:=ep) (es:=es)).length_eq
  rw [Array.length_toList,Array.length_toList] at this
  exact this
def Stand (w:World) (I a:Addr) (es:Array (Int×Value)) (ep:Nat) (t:SetTable) (i:Nat) (h:Heap):Prop :=
  (∃ f,h.get? I=some (itObj f i a es.size ep)∧(bt w=false→SetTable.below t.place f=i))∧SetS w h a es ep t
section
variable {prog:Program} {w:World} {A:Around} {E:Value→Shared→Prop} {s:Shared}
theorem iter_ok {a:Addr} {es:Array (Int×Value)} {ep:Nat} {t:SetTable} {Q:Value→Shared→Prop} (S:SetS w s.heap a es ep t) (h:Q (.ref s.heap.objs.size) { s with heap:=s.heap.push (itObj 0 0 a es.size ep) }):wpAny (model prog w) A (pyIter (.ref a)) Q E s:=by
  refine wpAny_pyIter_slot S.ty PySem.F.slot_set_iter (wpAny_call_entry PySem.F.slot_set_iter S.ty entry_iter ?_ (PySem.F.args_set_iter_1 _))
  unfold Builtin.«frozenset.__iter__»
  refine wpAny_bind (m:=Builtin.Frozenset.slot0 "__iter__" ⟨[.ref a],[]⟩) (wpAny_of_eq (a:=a) rfl ?_)
  unfold Builtin.Frozenset.sizeOf setEntries setDrawn setEpoch
  refine wpAny_bind (wpAny_bind (wpAny_bind (state_ok S (wpAny_pure (wpAny_pure ?_)))))
  refine wpAny_bind (wpAny_bind (state_ok S ?_))
  dsimp only
  refine wpAny_bind (byText_ok (wpAny_pure ?_))
  have hp:=S.tab.plain
  have tail:wpAny (model prog w) A.in1 (do
      let first ← (pure (rawInt 0):Sem Value)
      ret (← newFields "set_iterator" [first,rawInt 0,.ref a,rawInt es.size,rawInt (← (do return (← setState a).2.1))])) (fun fin s'=>∃ v,fin=.done (.ret v)∧∃ T' r,s'.TypeIs v T'∧typeLookup (.type T') "__next__" = pure (some r)∧Q v s') E s:=by
    refine wpAny_bind (wpAny_pure ?_)
    refine wpAny_bind (wpAny_bind (state_ok S (wpAny_pure ?_)))
    refine wpAny_bind (wpAny_newObj_type (wpAny_pure ⟨_,rfl, "set_iterator",_,⟨_,Heap.get?_push_size _ rfl,rfl⟩,slot_next.lookup,h⟩))
  obtain ⟨mask,place,dummies,finger,led,moves,plain⟩:=t
  have hp':plain=true:=hp
  subst hp'
  cases hb:bt w with
  | true=>exact tail
  | false=>exact tail
theorem setNext_at {a:Addr} {es:Array (Int×Value)} {ep f i:Nat} {t:SetTable} {Q:Option (Value×Nat)→Shared→Prop} (S:SetS w s.heap a es ep t) (hf:bt w=false→SetTable.below t.place f=i) (h1:∀ (hi:i<es.size) f',(bt w=false→SetTable.below t.place f'=i+1)→Q (some (((arrOf w a ep es)[i]'(by rw [arr_size]; exact hi)).2,f')) s) (h2:es.size≤i→Q none s):wpAny (model prog w) A (setNext a f i ep) Q E s:=by
  unfold setNext
  refine wpAny_bind (state_ok S ?_)
  dsimp only
  refine wpAny_bind (byText_ok ?_)
  cases hb:bt w with
  | true =>
    rw [if_pos rfl,if_neg (by simp)]
    refine wpAny_bind (walk_ok S (wpAny_pure ?_))
    show Q (((arrOf w a ep es)[i]?).map fun e=>(e.2,f)) s
    by_cases hi:i<es.size
    · rw [Array.getElem?_eq_getElem (by rw [arr_size]; exact hi)]
      exact h1 hi f (fun z=>by rw [hb] at z; cases z)
    · rw [Array.getElem?_eq_none (by rw [arr_size]; omega)]
      exact h2 (by omega)
  | false =>
    have hl:=S.led hb
    have hp:=S.tab.plain
    have tail:wpAny (model prog w) A (pure (match es[SetTable.below t.place f]?,t.place[SetTable.below t.place f]? with
        | some (_,x),some j=>some (x,j+1)
        | _,_=>none):Sem (Option (Value×Nat))) Q E s:=by
      rw [hf hb]
      by_cases hi:i<es.size
      · have hi2:i<t.place.size:=by rw [S.tab.size]; exact hi
        rw [Array.getElem?_eq_getElem hi,Array.getElem?_eq_getElem hi2]
        refine wpAny_pure ?_
        have:=h1 hi (t.place[i]+1) (fun _=>below_next S.tab.rise hi2)
        have e:arrOf w a ep es=es:=by unfold arrOf; rw [hb]; rfl
        simp only [e] at this
        exact this
      · rw [Array.getElem?_eq_none (by omega)]
        exact wpAny_pure (h2 (by omega))
    obtain ⟨mask,place,dummies,finger,led,moves,plain⟩:=t
    have hl':led=true:=hl
    have hp':plain=true:=hp
    subst hl' hp'
    exact wpAny_bind (m:=(pure ():Sem Unit)) (wpAny_pure tail)
theorem next_item {I a:Addr} {es:Array (Int×Value)} {ep:Nat} {t:SetTable} {i:Nat} {Q:Option Value→Shared→Prop} (st:Stand w I a es ep t i s.heap) (ne:a≠I) (hi:i<es.size) (h:∀ h',Stand w I a es ep t (i+1) h'→Heap.SameBut I s.heap h'→Q (some ((arrOf w a ep es)[i]'(by rw [arr_size]; exact hi)).2) { s with heap:=h' }):wpAny (model prog w) A (pyNext (.ref I)) Q E s:=by
  obtain ⟨⟨f,ho,hf⟩,S⟩:=st
  have T:s.TypeIs (.ref I) "set_iterator" := ⟨_,ho,rfl⟩
  unfold pyNext
  refine wpAny_bind (wpAny_attempt (wpAny_callSpecial?_slot (name:=Str.ofString "__next__") T slot_next (wpAny_call_entry slot_next T entry_next ?_ (args_next _))))
  unfold Builtin.«set_iterator.__next__»
  refine wpAny_bind (m:=slotArgs "__next__" 0 ⟨[.ref I],[]⟩) (wpAny_of_eq (a:=(Value.ref I,[])) rfl ?_)
  dsimp only
  refine wpAny_bind (wpAny_fieldsOf ho rfl ?_)
  show wpAny (model prog w) A.in1 (do
    if (((← setEntries a).size:Nat):Int) != (es.size:Int) then
      rule "set_iterator.__next__.size-changed"
      setField (.ref I) 3 (rawInt (-1))
      raiseError "RuntimeError" "Set changed size during iteration"
    match ← setNext a (f:Int).toNat (i:Int).toNat (ep:Int).toNat with
    | some (x,next) =>
      setField (.ref I) 0 (rawInt next)
      setField (.ref I) 1 (rawInt ((i:Int)+1))
      ret x
    | none=>setField (.ref I) 2 .none; raiseNew (← newExc (.type "StopIteration") [])) _ _ _
  unfold setEntries
  refine wpAny_bind (wpAny_bind (state_ok S (wpAny_pure ?_)))
  rw [if_neg (by simp)]
  simp only [Int.toNat_natCast]
  refine wpAny_bind (setNext_at S hf (fun _ f' hf'=>?_) (fun z=>absurd hi (by omega)))
  dsimp only
  refine wpAny_bind (wpAny_setField ho rfl (by simp) ?_)
  have g1:(s.heap.update I (Obj.mapFields (·.setIfInBounds 0 (rawInt f')))).get? I=some (itObj f' i a es.size ep):=Heap.get?_update_self _ ho rfl
  refine wpAny_bind (wpAny_setField g1 rfl (by simp) (wpAny_pure ⟨_,rfl,wpAny_pure (h _ ⟨⟨f',?_,hf'⟩,?_⟩ ((Heap.SameBut.update ..).trans (Heap.SameBut.update ..)))⟩))
  · exact Heap.get?_update_self _ g1 rfl
  · refine S.keep fun o q=>?_
    exact ((Heap.SameBut.update _ _ _).2 a ne).trans (((Heap.SameBut.update _ _ _).2 a ne).trans q)
theorem next_end {I a:Addr} {es:Array (Int×Value)} {ep:Nat} {t:SetTable} {Q:Option Value→Shared→Prop} (hh:A.handled=none) (st:Stand w I a es ep t es.size s.heap) (h:∀ h',Heap.ExtBut I s.heap h'→Q none { s with heap:=h' }):wpAny (model prog w) A (pyNext (.ref I)) Q E s:=by
  obtain ⟨⟨f,ho,hf⟩,S⟩:=st
  have T:s.TypeIs (.ref I) "set_iterator" := ⟨_,ho,rfl⟩
  unfold pyNext
  refine wpAny_bind (wpAny_attempt (wpAny_callSpecial?_slot (name:=Str.ofString "__next__") T slot_next (wpAny_call_entry slot_next T entry_next ?_ (args_next _))))
  unfold Builtin.«set_iterator.__next__»
  refine wpAny_bind (m:=slotArgs "__next__" 0 ⟨[.ref I],[]⟩) (wpAny_of_eq (a:=(Value.ref I,[])) rfl ?_)
  dsimp only
  refine wpAny_bind (wpAny_fieldsOf ho rfl ?_)
  show wpAny (model prog w) A.in1 (do
    if (((← setEntries a).size:Nat):Int) != (es.size:Int) then
      rule "set_iterator.__next__.size-changed"
      setField (.ref I) 3 (rawInt (-1))
      raiseError "RuntimeError" "Set changed size during iteration"
    match ← setNext a (f:Int).toNat (es.size:Int).toNat (ep:Int).toNat with
    | some (x,next) =>
      setField (.ref I) 0 (rawInt next)
      setField (.ref I) 1 (rawInt ((es.size:Int)+1))
      ret x
    | none=>setField (.ref I) 2 .none; raiseNew (← newExc (.type "StopIteration") [])) _ _ _
  unfold setEntries
  refine wpAny_bind (wpAny_bind (state_ok S (wpAny_pure ?_)))
  rw [if_neg (by simp)]
  simp only [Int.toNat_natCast]
  refine wpAny_bind (setNext_at S hf (fun z _ _=>absurd z (Nat.lt_irrefl _)) (fun _=>?_))
  dsimp only
  refine wpAny_bind (wpAny_setField ho rfl (by simp) (wpAny_bind ?_))
  simp only [newExc,newTuple]
  refine wpAny_bind (wpAny_newObj_type ?_ (by size_fits))
  refine wpAny_bind (m:=firstArgMember _ _) (wpAny_of_eq (a:=Value.none) (by first | rfl | (simp only [firstArgMember]; rfl)) (wpAny_newObj_type ?_ (by size_fits)))
  simp only [raiseNew]
  refine wpAny_bind (wpAny_handled ?_)
  rw [show A.in1.handled=none from hh]
  refine wpAny_bind (wpAny_pure (wpAny_throw ?_))
  refine wpAny_bind (wpAny_isInstance (T := "StopIteration") (b:=true) ⟨_,Heap.get?_push_size _ rfl,rfl⟩ isSubtype_stop ?_)
  exact wpAny_pure (h _ (((Heap.SameBut.update ..).extBut.push _).push _))
end
end NdS
namespace NdS
open PySem PyProof.Rows
theorem slot_self:Slot "set_iterator" "__iter__" "set_iterator.__iter__" :=
  .of (owner := "set_iterator") (n := "__iter__") (by rw [typeLookup_type,builtinLookup_eq_fast]; kernel_rfl) (by decide +kernel) (by decide +kernel) (by decide +kernel) (by first | exact .inl (by decide +kernel) | exact .inr (by decide +kernel)) (by rw [isSubtype_type]; kernel_rfl)
theorem entry_self:entryFor table "set_iterator.__iter__" = some Builtin.«dict_keyiterator.__iter__» :=
  entryFor_alias (id' := "dict_keyiterator.__iter__") (by kernel_rfl) (by first | rfl | decide +kernel) (by decide +kernel) (by kernel_rfl)
theorem args_self (a:Value):argsOk "set_iterator.__iter__" ⟨[a],[]⟩:=by unfold argsOk; kernel_rfl
section
variable {prog:Program} {w:World} {A:Around} {E:Value→Shared→Prop} {s:Shared}
theorem walks_set (hh:A.handled=none) {I a:Addr} (ne:a≠I) (es:Array (Int×Value)) (ep:Nat) (t:SetTable):Walks prog w A I [I,a] [I] es.size (fun i v=>∃ e,(arrOf w a ep es)[i]? = some e∧v=e.2) (fun i h=>Stand w I a es ep t i h) where
  sub:=fun b hb=>by simp at hb; simp [hb]
  frame:=fun i h h' ⟨⟨f,ho,hf⟩,S⟩ hk=>⟨⟨f,hk I (by simp) _ ho,hf⟩,S.keep fun o q=>hk a (by simp) o q⟩
  item:=fun i s Q E hi st hQ=>next_item st ne hi fun h' st' sb=>hQ _ h' s.toks ⟨_,Array.getElem?_eq_getElem (by rw [arr_size]; exact hi),rfl⟩ st' fun b o hb e=>(sb.2 b (fun z=>hb (by simp [z]))).trans e
  done:=fun s Q E st hQ=>next_end hh st fun h' x=>hQ h' s.toks fun b o hb e=>x b o (fun z=>hb (by simp [z])) e
  self:=fun i s Q E st hQ=>by
    obtain ⟨⟨f,ho,hf⟩,S⟩:=st
    have T:s.TypeIs (.ref I) "set_iterator" := ⟨_,ho,rfl⟩
    refine wpAny_pyIter_slot T slot_self (wpAny_call_entry slot_self T entry_self ?_ (args_self _))
    exact wpAny_pure ⟨_,rfl, "set_iterator",_,T,slot_next.lookup,hQ⟩
theorem hint_set {r:Addr} {Q:Bool→Shared→Prop} (hT:s.TypeIs (.ref r) "set") (h:Q false s):wpAny (model prog w) A (Builtin.List.listLengthHint (.ref r)) Q E s:=by
  unfold Builtin.List.listLengthHint
  refine wpAny_bind (wpAny_specialOf hT PySem.F.slot_set_len.lookup ?_)
  generalize hid:("set.__len__" : String)=id0
  wp_delta
  rw [show splitId id0=some ("set", "__len__") from by subst hid; decide +kernel]
  subst hid
  refine wpAny_bind (wpAny_isInstance (T := "set") (b:=true) hT sub_set_set ?_)
  refine wpAny_ite_split (fun z=>absurd z (by decide)) (fun _=>wpAny_ite_split (fun _=>?_) (fun z=>absurd (by decide +kernel) z))
  exact wpAny_bind (wpAny_typeOf hT (wpAny_pure h))
theorem src_set (a:Addr) (es:Array (Int×Value)) (ep:Nat) (t:SetTable):PySem.W.KdlSrc prog w "set" a a es.size (fun i v=>∃ e,(arrOf w a ep es)[i]? = some e∧v=e.2) (fun h=>SetS w h a es ep t) where
  type:=fun s S=>S.ty
  there:=fun h S=>⟨Heap.lt_size S.obj,Heap.lt_size S.obj⟩
  keep:=fun h h' S k=>S.keep fun o q=>k a (.inl rfl) o q
  notList:=by decide
  notTuple:=by decide
  hint:=fun A E s Q S h=>hint_set S.ty h
  iter:=fun A s hh S=>by
    have lt:=Heap.lt_size S.obj
    refine ⟨itObj 0 0 a es.size ep,fun i h=>Stand w s.heap.objs.size a es ep t i h,fun E Q h=>iter_ok S h,?_,⟨⟨0,Heap.get?_push_size _ rfl,fun _=>below_first S.tab.rise⟩,S.keep fun o q=>Heap.get?_push_of_some _ q⟩⟩
    exact walks_set hh (Nat.ne_of_lt lt) es ep t
theorem ints_of_items {arr:Array (Int×Value)} (he:∀ e∈arr.toList,isEnt e) {acc:Array Value} (h:ItemsOf (fun i v=>∃ e,arr[i]? = some e∧v=e.2) acc arr.size):IntsAre acc.toList (arr.toList.map keyOf):=by
  have key:∀ (l:List (Int×Value)) (vs:List Value),(∀ e∈l,isEnt e)→vs.length=l.length→(∀ (j:Nat) v,vs[j]? = some v→∃ e,l[j]? = some e∧v=e.2)→IntsAre vs (l.map keyOf):=by
    intro l
    induction l with
    | nil =>
      intro vs _ hl _
      cases vs with
      | nil=>exact .nil
      | cons v vs=>cases hl
    | cons e l ih =>
      intro vs he hl hv
      cases vs with
      | nil=>cases hl
      | cons v vs =>
        obtain ⟨k,tk,rfl⟩:=he e (List.mem_cons_self ..)
        obtain ⟨e',h1,h2⟩:=hv 0 v rfl
        cases h1
        subst h2
        exact .cons k tk (ih vs (fun e hm=>he e (List.mem_cons_of_mem _ hm)) (by simpa using hl) fun j u hj=>hv (j+1) u (by simpa using hj))
  refine key arr.toList acc.toList he (by rw [Array.length_toList,Array.length_toList]; exact h.1) fun j v hj=>?_
  obtain ⟨e,h1,h2⟩:=h.2 j v (by rw [← Array.getElem?_toList]; exact hj)
  exact ⟨e,by rw [Array.getElem?_toList]; exact h1,h2⟩
theorem sorted_set {a:Addr} {es:Array (Int×Value)} {ep:Nat} {t:SetTable} {Q:Value→Shared→Prop} (hh:A.handled=none) (S:SetS w s.heap a es ep t) (h:∀ (p:Addr) (out:Array Value) (ns:List Int) (n:Nat) (h1 h':Heap) (tk:Nat),IntsAre out.toList ns→ns.Perm (keys es)→ns.Pairwise (·≤·)→(∀ b o,s.heap.get? b=some o→h1.get? b=some o)→h1.objs.size≤p→(∀ b o,h1.get? b=some o→h'.get? b=some o)→h'.get? p=some (seqObj "list" out n)→Q (.ref p) { s with heap:=h',toks:=tk }):wpAny (model prog w) A (call (.builtin "sorted") [.ref a]) Q E s:=by
  refine Calls.call_function_entry kind_sorted plain_sorted entry_sorted (args_sorted1 _) ?_
  unfold Builtin.«sorted»
  refine wpAny_bind (m:=checkCount "sorted" 1 1 _) (wpAny_pure (wpAny_bind (PySem.W.kdu_collect (A:=A.in1) (src_set a es ep t) hh S (small S.few) fun h1 tk acc k1 hacc=>?_)))
  have hacc':ItemsOf (fun i v=>∃ e,(arrOf w a ep es)[i]? = some e∧v=e.2) acc (arrOf w a ep es).size:=by rw [arr_size]; exact hacc
  have hI:=ints_of_items (fun e he=>S.ent e (arr_perm.mem_iff.mp he)) hacc'
  have len:acc.toList.length<64:=by rw [Array.length_toList,hacc.1]; exact S.few
  refine wpAny_bind (wpAny_newList ?_ (Nat.le_trans (Nat.le_of_lt len) (by rw [sizeLine_eq]; decide)))
  have g1:(h1.push (seqObj "list" acc.toList.toArray 0)).get? h1.objs.size=some (seqObj "list" acc.toList.toArray 0):=Heap.get?_push_size _ rfl
  refine wpAny_bind (wpAny_holding (wpAny_call_entry slot_list_sort ⟨_,g1,rfl⟩ entry_list_sort (list_sort_tree (s:={ s with heap:=h1.push (seqObj "list" acc.toList.toArray 0),toks:=tk }) g1 hI len fun out ns' a1 a2 a3=>⟨_,rfl,?_⟩) (args_list_sort _)))
  refine wpAny_pure ⟨_,rfl,?_⟩
  have g2:=get?_update_seq g1 (fun _=>#[])
  have g3:=Heap.get?_push_of_some (seqObj "list" #[] 0) (Heap.get?_push_of_some (seqObj "tuple" acc.toList.toArray 0) g2)
  have g4:=get?_update_seq g3 (fun _=>out)
  refine h h1.objs.size out ns' _ h1 _ tk a1 (a2.trans (arr_perm.map keyOf)) a3 k1 (Nat.le_refl _) (fun b o e=>?_) g4
  have nb:b≠h1.objs.size:=Nat.ne_of_lt (Heap.lt_size e)
  exact ((Heap.SameBut.update _ _ _).2 b nb).trans (Heap.get?_push_of_some _ (Heap.get?_push_of_some _ (((Heap.SameBut.update _ _ _).2 b nb).trans (Heap.get?_push_of_some _ e))))
end
end NdS
namespace Nd
open PySem PySem.Spec PyProof.Rows L2 NdS
def IsSet (w:World) (a:Addr) (ks:List Int) (h:Heap):Prop:=∃ es ep t,SetS w h a es ep t∧∀ x,x∈keys es↔x∈ks
abbrev SetO (w:World) (a:Addr) (ks:List Int):HO:=.ext (IsSet w a ks)
theorem setO_ok {P:Program} {w w':World} {H:Hp} {h:Heap} {a:Addr} {ks:List Int} (e:IsSet w a ks h):ObjOk P w' H h a (SetO w a ks) :=
  ⟨e,let ⟨_,_,_,S,_⟩:=e; ⟨_,S.obj⟩,fun h1 h2 ⟨es,ep,t,S,m⟩ k=>⟨es,ep,t,S.keep fun o q=>k o q,m⟩⟩
theorem isSet_of {P:Program} {w:World} {H:Hp} {h:Heap} {a:Addr} {ks:List Int} (ok:HOk P w H h) (e:H a=some (SetO w a ks)):IsSet w a ks h :=
  (show ObjOk P w H h a (SetO w a ks) from ok a _ e).1
section
variable {X:Cx}
def rSet (w:World) (K:PySem.W.Frag):List V→Hp→VK→Prop:=fun xs H Q=>∃ (a:Addr) (ns U:List Int),xs=[.ref a]∧SqT K H a (ns.map V.int)∧U.length≤62∧Among U ns∧∀ p,H p=none→Q (.ref p) (upd H p (SetO w p ns))
theorem call_set (hc:X.calm=true):CallR X (.type "set") (rSet X.w X.K):=by
  intro pins s σ H xs us Q I r h
  obtain ⟨a,ns,U,rfl,hs,hU,hN,q⟩:=h
  obtain ⟨u,rfl,ru⟩:=vals1 r
  cases ru
  obtain ⟨its,rv,⟨o,e,hcl,n,hd⟩,_⟩:=I.tuple hs
  refine set_tup hU (I.ok.hd hc) ⟨o,e,hcl,n,hd⟩ (by simpa using intsAre_of rv) hN fun es ep t h' tk k S m=>?_
  exact ⟨.ref s.heap.objs.size,_,I.laid k (Nat.le_refl _) (setO_ok ⟨es,ep,t,S,m⟩),rfl,q _ (I.hok.fresh (Nat.le_refl _))⟩
def rOr (w:World):R2:=fun x y H Q=>∃ (a b:Addr) (ks ls U:List Int),x=.ref a∧y=.ref b∧a≠b∧H a=some (SetO w a ks)∧H b=some (SetO w b ls)∧U.length≤62∧Among U ks∧Among U ls∧∀ p,H p=none→Q (.ref p) (upd H p (SetO w p (ks++ls)))
theorem op_setOr:OpR X (binaryOp .BitOr) (rOr X.w):=by
  intro pins s σ H x y v u Q I rx ry h
  obtain ⟨a,b,ks,ls,U,rfl,rfl,ne,ha,hb,hU,h1,h2,q⟩:=h
  cases rx
  cases ry
  obtain ⟨ea,pa,ta,Sa,ma⟩:=isSet_of I.hok ha
  obtain ⟨eb,pb,tb,Sb,mb⟩:=isSet_of I.hok hb
  refine or_ok hU ne Sa Sb (fun x hx=>h1 x ((ma x).mp hx)) (fun x hx=>h2 x ((mb x).mp hx)) fun es ep t h' k S m=>?_
  exact ⟨.ref s.heap.objs.size,_,I.laid (t':=s.toks) k (Nat.le_refl _) (setO_ok ⟨es,ep,t,S,fun x=>by rw [m,ma,mb,List.mem_append]⟩),rfl,q _ (I.hok.fresh (Nat.le_refl _))⟩
theorem vals_of_ints:∀ {vs:List Value} {ns:List Int},IntsAre vs ns→Vals (ns.map V.int) vs
  | _,_,.nil=>.nil
  | _,_,.cons n t h=>.cons ⟨t,rfl⟩ (vals_of_ints h)
def rSorted (w:World):List V→Hp→VK→Prop:=fun xs H Q=>∃ (a:Addr) (ks:List Int),xs=[.ref a]∧H a=some (SetO w a ks)∧∀ (p:Addr) (ns:List Int),H p=none→ns.Nodup→ns.Pairwise (·≤·)→(∀ x,x∈ns↔x∈ks)→Q (.ref p) (upd H p (.lst (ns.map V.int)))
theorem call_sortedS (hc:X.calm=true):CallR X (.builtin "sorted") (rSorted X.w):=by
  intro pins s σ H xs us Q I r h
  obtain ⟨a,ks,rfl,ha,q⟩:=h
  obtain ⟨u,rfl,ru⟩:=vals1 r
  cases ru
  obtain ⟨es,ep,t,S,m⟩:=isSet_of I.hok ha
  refine sorted_set (I.ok.hd hc) S fun p out ns n h1 h' tk hi hp hs k1 hge k2 hg=>?_
  have I1:Inv X pins σ H { s with heap:=h1,toks:=tk }:=I.kept k1
  have nd:ns.Nodup:=hp.nodup_iff.mpr S.nd
  have hl:ns.length<64:=by
    rw [hp.length_eq,List.length_map,Array.length_toList]
    exact S.few
  refine ⟨.ref p,upd H p (.lst (ns.map V.int)),I1.laid (t':=tk) k2 hge ⟨by rw [List.length_map,sizeLine_eq]; omega,out.toList,n,vals_of_ints hi,by simpa using hg⟩,rfl,q p ns (I1.hok.fresh hge) nd hs fun x=>by rw [hp.mem_iff,m]⟩
end
end Nd
namespace Nd
open PySem L2
def SameB (d:Addr) (H H':Hp):Prop:=∀ b o,b≠d→H b=some o→H' b=some o
theorem SameB.trans {d:Addr} {H H1 H2:Hp} (a:SameB d H H1) (b:SameB d H1 H2):SameB d H H2:=fun c o n h=>b c o n (a c o n h)
theorem SameB.upd {d:Addr} {H:Hp} {o:HO}:SameB d H (upd H d o):=fun b o n h=>by rw [upd_ne n]; exact h
theorem Same.tup {K:PySem.W.Frag} {H H':Hp} {a:Addr} {xs:List V} (e:Same H H') (h:SqT K H a xs):SqT K H' a xs:=by
  rcases h with (h | ⟨o,h⟩) | h
  · exact .inl (.inl (e _ _ h))
  · exact .inl (.inr ⟨o,e _ _ h⟩)
  · exact .inr h
theorem sz2 {n:Nat} (h:n≤1000000):n≤sizeLine:=by rw [sizeLine_eq]; omega
theorem emod_in (a b:Int) (h:0<b):0≤a % b∧a % b<b:=⟨Int.emod_nonneg _ (by omega),Int.emod_lt_of_pos _ h⟩
def Rising (h:Int) (ns:List Int):Prop:=ns.Pairwise (· < ·)∧∀ x∈ns,0≤x∧x<h
theorem Rising.nil (h:Int):Rising h []:=⟨List.Pairwise.nil,fun x hx=>by cases hx⟩
theorem Rising.more {h:Int} {ns:List Int} (r:Rising h ns) (h0:0≤h):Rising (h+1) (ns++[h]) :=
  ⟨List.pairwise_append.mpr ⟨r.1,List.pairwise_singleton _ _,fun a ha b hb=>by rw [List.mem_singleton.mp hb]; exact (r.2 a ha).2⟩,fun x hx=>by
    rcases List.mem_append.mp hx with z | z
    · have:=r.2 x z; omega
    · have:=List.mem_singleton.mp z; omega⟩
theorem Rising.up {h h':Int} {ns:List Int} (r:Rising h ns) (l:h≤h'):Rising h' ns:=⟨r.1,fun x hx=>by have:=r.2 x hx; omega⟩
def Draw (H:Hp) (d:Addr) (c k:Int) (f:Bool):Prop:=H d=some (.lst [.int c,.int k,.bl f])
def spNext:Sp:=fun vs H Q _=>∃ (d:Addr) (c k:Int) (f:Bool),vs=[.ref d]∧Draw H d c k f∧0≤k∧k≤1000000∧∀ (r c':Int) (H':Hp),Draw H' d c' (k+1) f→SameB d H H'→Q (.int r) H'
def wordD (ns:List Int):PyData:=.tuple (ns.map PyData.int)
theorem depth_word (ns:List Int):(wordD ns).depth≤1:=by
  have : (wordD ns).depth≤PyData.depthAll (ns.map PyData.int)+1:=by simp [wordD,PyData.depth]
  rw [depth_ints] at this
  exact this
def U60:List Int:=(List.range 60).map fun i:Nat=>(i:Int)
theorem mem_U60 {x:Int} (h0:0≤x) (h1:x<60):x∈U60:=List.mem_map.mpr ⟨x.toNat,List.mem_range.mpr (by omega),by omega⟩
theorem eqD_nil (TD:List PyData):eqD (.list TD) (.list [])=TD.isEmpty:=by cases TD <;> simp [eqD,eqDs]
theorem rising_eq:∀ {l1 l2:List Int},l1.Pairwise (· < ·)→l2.Pairwise (· < ·)→(∀ x,x∈l1↔x∈l2)→l1=l2
  | [],[],_,_,_=>rfl
  | [],b::l,_,_,h=>by have:=(h b).mpr List.mem_cons_self; cases this
  | a::l,[],_,_,h=>by have:=(h a).mp List.mem_cons_self; cases this
  | a::l1,b::l2,p1,p2,h=>by
    obtain ⟨h1,q1⟩:=List.pairwise_cons.mp p1
    obtain ⟨h2,q2⟩:=List.pairwise_cons.mp p2
    have e:a=b:=by
      rcases List.mem_cons.mp ((h a).mp List.mem_cons_self) with z | z
      · exact z
      · rcases List.mem_cons.mp ((h b).mpr List.mem_cons_self) with y | y
        · exact y.symm
        · have:=h1 b y; have:=h2 a z; omega
    subst e
    rw [rising_eq q1 q2 fun x=>⟨fun hx=>?_,fun hx=>?_⟩]
    · rcases List.mem_cons.mp ((h x).mp (List.mem_cons_of_mem _ hx)) with z | z
      · have:=h1 x hx; omega
      · exact z
    · rcases List.mem_cons.mp ((h x).mpr (List.mem_cons_of_mem _ hx)) with z | z
      · have:=h2 x hx; omega
      · exact z
theorem among {ns:List Int} (r:Rising 60 ns):NdS.Among U60 ns:=fun x hx=>mem_U60 (r.2 x hx).1 (r.2 x hx).2
def spTog (K:PySem.W.Frag):Sp:=fun vs H Q _=>∃ (a b:Addr) (ns ms:List Int),vs=[.ref a,.ref b]∧SqT K H a (ns.map V.int)∧SqT K H b (ms.map V.int)∧Rising 60 ns∧Rising 60 ms ∧
  ∀ (r:Addr) (ts:List Int) (H':Hp),H r=none→H' r=some (.tup (ts.map V.int))→ts.Nodup→ts.Pairwise (·≤·)→(∀ x,x∈ts↔x∈ns++ms)→Same H H'→Q (.ref r) H'
def order {α:Type} (a b:α) (l:List α):Option Bool→List α
  | none=>l
  | some true=>[a,b]
  | some false=>[b,a]
structure TD (K:PySem.W.Frag) (H:Hp) (x:V) (d:PyData) (n m:Nat):Prop where
  rd:RdV K H x d
  fits:Fits 22 d
  nd:nodes d≤n
  dp:d.depth≤m
end Nd
namespace Nd
open PySem L2
abbrev rTupC (K:PySem.W.Frag):List V→Hp→VK→Prop:=fun xs H Q=>∃ p ys,xs=[V.ref p]∧((SqL K H p ys∧∀ l,H l=none→Q (.ref l) (upd H l (.tup ys)))∨(SqT K H p ys∧Q (.ref p) H))
theorem tuple_ok {X:Cx}:CallR X (.type "tuple") (rTupC X.K):=call_tuple_of
end Nd
namespace DL
open PySem L2 Nd
def KL (K:PySem.W.Frag) (H:Hp) (a:Addr) (xs:List V):Prop :=
  (∃ o,H a=some (.frz o (.lst xs)))∨∃ (its:Array Value) (n:Nat),K.lookup a=some { cls:=.type "list",data:=.seq its n }∧its.size≤sizeLine∧Vals xs its.toList
def deepD:Nat→PyData
  | 0=>.none
  | n+1=>.tuple [deepD n]
def dkv (ks:List (List Int×PyData)):List (PyData×PyData):=(deepD 100,.none)::ks.map fun p=>(wordD p.1,p.2)
def keyI (w:List Int):List Key:=w.map Sum.inl
mutual
inductive RdF (K:PySem.W.Frag) (H:Hp):V→PyData→List Addr→Prop
  | non:RdF K H .non .none []
  | bl (b:Bool):RdF K H (.bl b) (.bool b) []
  | int (i:Int):RdF K H (.int i) (.int i) []
  | str (x:Str):RdF K H (.str x) (.str x) []
  | lst {a:Addr} {xs:List V} {ds:List PyData} {F:List Addr}:H a=some (.lst xs)→ds.length≤sizeLine→RdFs K H xs ds F→RdF K H (.ref a) (.list ds) (a::F)
  | tup {a:Addr} {xs:List V} {ds:List PyData} {F:List Addr}:H a=some (.tup xs)→ds.length≤sizeLine→RdFs K H xs ds F→RdF K H (.ref a) (.tuple ds) F
  | dic {a:Addr} {kv:List (List Key×V)} {ks:List (List Int×PyData)}:H a=some (.dT kv)→kv.map (·.1)=ks.map (fun p=>keyI p.1)→RdFs K H (kv.map (·.2)) (ks.map (·.2)) []→RdF K H (.ref a) (.dict (dkv ks)) [a]
inductive RdFs (K:PySem.W.Frag) (H:Hp):List V→List PyData→List Addr→Prop
  | nil:RdFs K H [] [] []
  | cons {x:V} {d:PyData} {xs:List V} {ds:List PyData} {F G:List Addr}:RdF K H x d F→RdFs K H xs ds G→RdFs K H (x::xs) (d::ds) (F++G)
end
def Stb (o:HO):Prop:=(∃ xs,o=.tup xs)∨∃ ob u,o=.frz ob u
def Kp (F:List Addr) (H H':Hp):Prop:=∀ b o,H b=some o→(b∈F∨Stb o)→H' b=some o
theorem Kp.of {F:List Addr} {H H':Hp} (s:Same H H'):Kp F H H':=fun b o e _=>s b o e
theorem Kp.sub {F G:List Addr} {H H':Hp} (k:Kp F H H') (h:∀ a∈G,a∈F):Kp G H H':=fun b o e z=>k b o e (z.imp (h b) id)
section
variable {K:PySem.W.Frag} {H H':Hp}
theorem KL.kp {a:Addr} {xs:List V} {F:List Addr} (h:KL K H a xs) (k:Kp F H H'):KL K H' a xs:=by
  rcases h with ⟨o,h⟩ | h
  · exact .inl ⟨o,k _ _ h (.inr (.inr ⟨_,_,rfl⟩))⟩
  · exact .inr h
theorem KL.sq {a:Addr} {xs:List V} (h:KL K H a xs):SqL K H a xs:=by
  rcases h with ⟨o,h⟩ | ⟨its,n,h,hz,r⟩
  · exact .inl (.inr ⟨o,h⟩)
  · exact .inr ⟨_,its,n,h,rfl,rfl,rfl,hz,r⟩
mutual
theorem RdF.kp:∀ {v:V} {d:PyData} {F:List Addr},RdF K H v d F→Kp F H H'→RdF K H' v d F
  | _,_,_,.non,_=>.non
  | _,_,_,.bl b,_=>.bl b
  | _,_,_,.int i,_=>.int i
  | _,_,_,.str x,_=>.str x
  | _,_,_,.lst h l hs,k=>.lst (k _ _ h (.inl List.mem_cons_self)) l (RdFs.kp hs (k.sub fun _ z=>List.mem_cons_of_mem _ z))
  | _,_,_,.tup h l hs,k=>.tup (k _ _ h (.inr (.inl ⟨_,rfl⟩))) l (RdFs.kp hs k)
  | _,_,_,.dic h e hs,k=>.dic (k _ _ h (.inl List.mem_cons_self)) e (RdFs.kp hs (k.sub fun _ z=>nomatch z))
theorem RdFs.kp:∀ {v:List V} {d:List PyData} {F:List Addr},RdFs K H v d F→Kp F H H'→RdFs K H' v d F
  | _,_,_,.nil,_=>.nil
  | _,_,_,.cons h hs,k=>.cons (RdF.kp h (k.sub fun _ z=>List.mem_append_left _ z)) (RdFs.kp hs (k.sub fun _ z=>List.mem_append_right _ z))
end
theorem deepD_depth:∀ n,(deepD n).depth=n
  | 0=>by simp [deepD,PyData.depth]
  | n+1=>by
    have:=deepD_depth n
    simp only [deepD,PyData.depth,PyData.depthAll,this]
    omega
theorem dkv_deep {ks:List (List Int×PyData)}:100≤(PyData.dict (dkv ks)).depth:=by
  have:=deepD_depth 100
  simp only [dkv,PyData.depth,PyData.depthKv,this]
  omega
mutual
theorem RdF.rd:∀ {v:V} {d:PyData} {F:List Addr},RdF K H v d F→d.depth≤90→RdV K H v d
  | _,_,_,.non,_=>.non
  | _,_,_,.bl b,_=>.bl b
  | _,_,_,.int i,_=>.int i
  | _,_,_,.str x,_=>.str x
  | _,_,_,.lst h l hs,z=>.lst (SqL.of h) (RdFs.rd hs (by simp only [PyData.depth] at z; omega))
  | _,_,_,.tup h l hs,z=>.tup (SqT.of h) (RdFs.rd hs (by simp only [PyData.depth] at z; omega))
  | _,_,_,.dic h e hs,z=>absurd (Nat.le_trans dkv_deep z) (by decide)
theorem RdFs.rd:∀ {v:List V} {d:List PyData} {F:List Addr},RdFs K H v d F→PyData.depthAll d≤90→RdVs K H v d
  | _,_,_,.nil,_=>.nil
  | _,_,_,.cons h hs,z=>.cons (RdF.rd h (by simp only [PyData.depthAll] at z; omega)) (RdFs.rd hs (by simp only [PyData.depthAll] at z; omega))
end
mutual
theorem RdF.dom:∀ {v:V} {d:PyData} {F:List Addr},RdF K H v d F→∀ a∈F,∃ o,H a=some o
  | _,_,_,.non,_,z=>nomatch z
  | _,_,_,.bl b,_,z=>nomatch z
  | _,_,_,.int i,_,z=>nomatch z
  | _,_,_,.str x,_,z=>nomatch z
  | _,_,_,.lst h l hs,b,z=>by
    rcases List.mem_cons.mp z with rfl | z
    · exact ⟨_,h⟩
    · exact RdFs.dom hs b z
  | _,_,_,.tup h l hs,b,z=>RdFs.dom hs b z
  | _,_,_,.dic h e hs,b,z=>⟨_,List.mem_singleton.mp z▸h⟩
theorem RdFs.dom:∀ {v:List V} {d:List PyData} {F:List Addr},RdFs K H v d F→∀ a∈F,∃ o,H a=some o
  | _,_,_,.nil,_,z=>nomatch z
  | _,_,_,.cons h hs,b,z=>by
    rcases List.mem_append.mp z with z | z
    · exact RdF.dom h b z
    · exact RdFs.dom hs b z
end
theorem RdFs.len:∀ {v:List V} {d:List PyData} {F:List Addr},RdFs K H v d F→v.length=d.length
  | _,_,_,.nil=>rfl
  | _,_,_,.cons _ t=>by rw [List.length_cons,List.length_cons,RdFs.len t]
theorem RdFs.get:∀ {v:List V} {d:List PyData} {F:List Addr} {i:Nat} {e:PyData},RdFs K H v d F→d[i]? = some e→∃ x G,v[i]? = some x∧RdF K H x e G∧G.Sublist F
  | _,_,_,_,_,.nil,z=>by simp at z
  | _,_,_,0,_,.cons h _,z=>by
    simp at z
    subst z
    exact ⟨_,_,rfl,h,List.sublist_append_left _ _⟩
  | _,_,_,i+1,e,.cons _ t,z=>by
    obtain ⟨x,G,h1,h2,h3⟩:=RdFs.get (i:=i) (e:=e) t (by simpa using z)
    exact ⟨x,G,by simpa using h1,h2,h3.trans (List.sublist_append_right _ _)⟩
theorem RdFs.app:∀ {v w:List V} {d e:List PyData} {F G:List Addr},RdFs K H v d F→RdFs K H w e G→RdFs K H (v++w) (d++e) (F++G)
  | _,_,_,_,_,_,.nil,h=>h
  | _,_,_,_,_,_,.cons a t,h=>by
    rw [List.append_assoc]
    exact .cons a (RdFs.app t h)
theorem RdFs.snoc {v:List V} {d:List PyData} {F G:List Addr} {x:V} {e:PyData} (t:RdFs K H v d F) (h:RdF K H x e G):RdFs K H (v++[x]) (d++[e]) (F++G):=by
  have:=t.app (.cons h .nil)
  rw [List.append_nil] at this
  exact this
end
mutual
def imm:PyData→Bool
  | .list _=>false
  | .dict _=>false
  | .tuple xs=>immAll xs
  | _=>true
def immAll:List PyData→Bool
  | []=>true
  | x::xs=>imm x && immAll xs
end
theorem immAll_iff:∀ {xs:List PyData},immAll xs=true↔∀ x∈xs,imm x=true
  | []=>by simp [immAll]
  | x::xs=>by simp [immAll,immAll_iff (xs:=xs)]
theorem immAll_map {α:Type} {f:α→PyData} (h:∀ a,imm (f a)=true) (l:List α):immAll (l.map f)=true:=immAll_iff.mpr fun x hx=>by
  obtain ⟨a,_,rfl⟩:=List.mem_map.mp hx
  exact h a
theorem imm_word (ns:List Int):imm (wordD ns)=true:=by
  unfold wordD
  rw [imm]
  exact immAll_map (fun _=>by simp [imm]) ns
section
variable {K:PySem.W.Frag} {H H':Hp}
mutual
theorem RdF.imm:∀ {v:V} {d:PyData} {F:List Addr},RdF K H v d F→DL.imm d=true→F=[]
  | _,_,_,.non,_=>rfl
  | _,_,_,.bl b,_=>rfl
  | _,_,_,.int i,_=>rfl
  | _,_,_,.str x,_=>rfl
  | _,_,_,.lst h l hs,k=>by simp [DL.imm] at k
  | _,_,_,.tup h l hs,k=>RdFs.imm hs (by simpa [DL.imm] using k)
  | _,_,_,.dic h e hs,k=>by simp [DL.imm] at k
theorem RdFs.imm:∀ {v:List V} {d:List PyData} {F:List Addr},RdFs K H v d F→immAll d=true→F=[]
  | _,_,_,.nil,_=>rfl
  | _,_,_,.cons h hs,k=>by
    rw [immAll,Bool.and_eq_true] at k
    rw [RdF.imm h k.1,RdFs.imm hs k.2]
    rfl
end
end
inductive Md where
  | pk | sh | tp | ow
  deriving DecidableEq
inductive DV where
  | un
  | dat (m:Md) (d:PyData)
  | drw
  | dT (kvs:List (List Key×PyData))
  | val (v:V)
  | scr (ns:List Int)
  | acc (ds:List PyData)
  | grd (Hc:Hp)
  | tpl (xs:List V)
structure DS where
  sl:List DV
  n:Nat
structure Ent where
  v:Option V
  x:DV
  F:List Addr
def isPk:DV→Bool
  | .dat .pk _=>true
  | _=>false
def isDr:DV→Bool
  | .drw=>true
  | _=>false
def hard:DV→Bool
  | .drw=>true
  | .acc _=>true
  | .dT _=>true
  | .grd _=>true
  | _=>false
def cells (e:Ent):List Addr:=match e.x with
  | .dat .ow _=>e.F
  | .dat .tp _=>e.F.take 1
  | .drw=>e.F
  | .dT _=>e.F
  | .acc _=>e.F.take 1
  | .grd _=>e.F
  | _=>[]
theorem cells_sub (e:Ent):∀ a∈cells e,a∈e.F:=by
  obtain ⟨v,x,F⟩:=e
  intro a h
  cases x with
  | un=>exact nomatch h
  | val _=>exact nomatch h
  | scr _=>exact nomatch h
  | drw=>exact h
  | dT _=>exact h
  | grd _=>exact h
  | tpl _=>exact nomatch h
  | acc _=>exact (List.take_sublist _ _).subset h
  | dat m d =>
    cases m with
    | pk=>exact nomatch h
    | sh=>exact nomatch h
    | tp=>exact (List.take_sublist _ _).subset h
    | ow=>exact h
def SepR (e f:Ent):Prop:=((isPk f.x=false∨hard e.x=true)→∀ a∈cells e,a∉f.F)∧((isPk e.x=false∨hard f.x=true)→∀ a∈cells f,a∉e.F)
theorem SepR.symm {e f:Ent} (h:SepR e f):SepR f e:=⟨h.2,h.1⟩
def EntOk (K:PySem.W.Frag) (H:Hp) (n:Nat) (e:Ent):Prop:=match e.x with
  | .un=>e.F=[]
  | .dat m d=>∃ v,e.v=some v∧RdF K H v d e.F∧(m=.ow→e.F.Nodup)∧(m=.tp→∀ a l,e.F=a::l→a∉l)
  | .drw=>∃ dr c k f,e.v=some (.ref dr)∧e.F=[dr]∧Draw H dr c k f∧0≤k∧k≤(n:Int)
  | .dT kvs=>∃ a ks,e.v=some (.ref a)∧e.F=[a]∧H a=some (.dT ks)∧ks.map (·.1)=kvs.map (·.1)∧RdFs K H (ks.map (·.2)) (kvs.map (·.2)) []
  | .val v=>e.v=some v∧e.F=[]
  | .scr ns=>∃ a,e.v=some (.ref a)∧e.F=[]∧KL K H a (ns.map V.int)∧ns.length≤63
  | .acc ds=>∃ a xs G,e.v=some (.ref a)∧e.F=a::G∧H a=some (.lst xs)∧RdFs K H xs ds G∧ds.length≤sizeLine∧a∉G
  | .grd Hc=>∀ a∈e.F,∃ o,Hc a=some o∧H a=some o
  | .tpl xs=>∃ t,e.v=some (.ref t)∧H t=some (.tup xs)∧e.F=[]
structure At (K:PySem.W.Frag) (H0:Hp) (X:Addr→Prop) (n:Nat) (E:List Ent) (H:Hp):Prop where
  ok:∀ e∈E,EntOk K H n e
  sep:E.Pairwise SepR
  new:∀ e∈E,∀ a∈cells e,H0 a=none∨(X a∧isDr e.x=true)
  same:∀ b o,¬ X b→H0 b=some o→H b=some o
  dom:∀ b o,H0 b=some o→∃ o',H b=some o'
  xd:∀ b,X b→H0 b≠none∧∃ c k f,Draw H b c k f∧0≤k∧k≤(n:Int)
section
variable {K:PySem.W.Frag} {H0 H H':Hp} {X:Addr→Prop} {n n':Nat} {E E' S T:List Ent} {e f:Ent}
theorem At.perm (h:At K H0 X n E H) (p:E.Perm E'):At K H0 X n E' H :=
  ⟨fun e he=>h.ok e (p.mem_iff.mpr he),(p.pairwise_iff fun {a b}=>SepR.symm).mp h.sep,fun e he=>h.new e (p.mem_iff.mpr he),h.same,h.dom,h.xd⟩
theorem At.sub (h:At K H0 X n E H) (p:E'.Sublist E):At K H0 X n E' H :=
  ⟨fun e he=>h.ok e (p.subset he),h.sep.sublist p,fun e he=>h.new e (p.subset he),h.same,h.dom,h.xd⟩
theorem At.drop (h:At K H0 X n (S++e::T) H):At K H0 X n (S++T) H:=h.sub ((List.Sublist.refl S).append (List.sublist_cons_self _ _))
theorem perm_mid:(S++e::T).Perm (e::(S++T)):=List.perm_middle
theorem At.mid (h:At K H0 X n (S++e::T) H):At K H0 X n (e::(S++T)) H:=h.perm perm_mid
theorem At.tomid (h:At K H0 X n (e::(S++T)) H):At K H0 X n (S++e::T) H:=h.perm perm_mid.symm
theorem EntOk.dom (h:EntOk K H n e):∀ a∈e.F,∃ o,H a=some o:=by
  obtain ⟨v,x,F⟩:=e
  intro a ha
  cases x with
  | un=>rw [show F=[] from h] at ha; cases ha
  | val _=>rw [show F=[] from h.2] at ha; cases ha
  | scr _ =>
    obtain ⟨_,_,hF,_⟩:=h
    rw [show F=[] from hF] at ha; cases ha
  | dat m d =>
    obtain ⟨w,_,h,_⟩:=h
    obtain ⟨xs,z⟩:=h.dom a ha
    exact ⟨_,z⟩
  | drw =>
    obtain ⟨dr,c,k,f,_,hF,h,_⟩:=h
    rw [show F=[dr] from hF] at ha
    rw [List.mem_singleton.mp ha]
    exact ⟨_,h⟩
  | grd Hc =>
    obtain ⟨o,_,z⟩:=h a ha
    exact ⟨o,z⟩
  | tpl xs =>
    obtain ⟨_,_,_,hF⟩:=h
    rw [show F=[] from hF] at ha; cases ha
  | dT kvs =>
    obtain ⟨b,ks,_,hF,h,_⟩:=h
    rw [show F=[b] from hF] at ha
    rw [List.mem_singleton.mp ha]
    exact ⟨_,h⟩
  | acc ds =>
    obtain ⟨b,ks,G,_,hF,h,hr,_⟩:=h
    rw [show F=b::G from hF] at ha
    rcases List.mem_cons.mp ha with rfl | ha
    · exact ⟨_,h⟩
    · obtain ⟨xs,z⟩:=hr.dom a ha
      exact ⟨_,z⟩
theorem EntOk.kp (h:EntOk K H n e) (k:Kp e.F H H') (hn:n≤n'):EntOk K H' n' e:=by
  obtain ⟨v,x,F⟩:=e
  cases x with
  | un=>exact h
  | val _=>exact h
  | scr _ =>
    obtain ⟨a,h1,h2,h3,h4⟩:=h
    exact ⟨a,h1,h2,h3.kp k,h4⟩
  | dat m d =>
    obtain ⟨w,h1,h2,h3⟩:=h
    exact ⟨w,h1,h2.kp k,h3⟩
  | drw =>
    obtain ⟨dr,c,kk,f,h1,hF,h2,h3,h4⟩:=h
    have hF':F=[dr]:=hF
    subst hF'
    exact ⟨dr,c,kk,f,h1,rfl,k _ _ h2 (.inl List.mem_cons_self),h3,by omega⟩
  | tpl xs =>
    obtain ⟨t,h1,h2,h3⟩:=h
    exact ⟨t,h1,k _ _ h2 (.inr (.inl ⟨_,rfl⟩)),h3⟩
  | grd Hc =>
    intro a ha
    obtain ⟨o,h1,h2⟩:=h a ha
    exact ⟨o,h1,k _ _ h2 (.inl ha)⟩
  | dT kvs =>
    obtain ⟨b,ks,h1,hF,h2,h3,h4⟩:=h
    have hF':F=[b]:=hF
    subst hF'
    exact ⟨b,ks,h1,rfl,k _ _ h2 (.inl List.mem_cons_self),h3,h4.kp (k.sub fun _ z=>nomatch z)⟩
  | acc ds =>
    obtain ⟨b,ks,G,h1,hF,h2,h3,h4⟩:=h
    have hF':F=b::G:=hF
    subst hF'
    exact ⟨b,ks,G,h1,rfl,k _ _ h2 (.inl List.mem_cons_self),h3.kp (k.sub fun _ z=>List.mem_cons_of_mem _ z),h4⟩
theorem At.grow (h:At K H0 X n E H) (s:Same H H') (hn:n≤n'):At K H0 X n' E H' :=
  ⟨fun e he=>(h.ok e he).kp (Kp.of s) hn,h.sep,h.new,fun b o nx e=>s _ _ (h.same b o nx e),fun b o e=>let ⟨o',q⟩:=h.dom b o e; ⟨o',s _ _ q⟩,fun b hb=>let ⟨z,c,k,f,h1,h2,h3⟩:=h.xd b hb; ⟨z,c,k,f,s _ _ h1,h2,by omega⟩⟩
theorem At.free (h:At K H0 X n E H) {a:Addr} (ha:H a=none):∀ e∈E,a∉e.F:=fun e he z=>by
  obtain ⟨o,q⟩:=(h.ok e he).dom a z
  rw [ha] at q; cases q
theorem At.push (h:At K H0 X n E H) (ok:EntOk K H n e) (sep:∀ f∈E,SepR e f) (new:∀ a∈cells e,H0 a=none∨(X a∧isDr e.x=true)):At K H0 X n (e::E) H :=
  ⟨fun g hg=>by
    rcases List.mem_cons.mp hg with rfl | hg
    · exact ok
    · exact h.ok g hg,List.pairwise_cons.mpr ⟨sep,h.sep⟩,fun g hg=>by
    rcases List.mem_cons.mp hg with rfl | hg
    · exact new
    · exact h.new g hg,h.same,h.dom,h.xd⟩
theorem At.new0 (h:At K H0 X n E H) {p:Addr} (hp:H p=none):H0 p=none:=by
  cases q:H0 p with
  | none=>rfl
  | some o =>
    obtain ⟨o',z⟩:=h.dom p o q
    rw [hp] at z; cases z
theorem sep_nil {v:Option V} {m:Md} {d:PyData}:SepR ⟨v,.dat m d,[]⟩ f:=by
  refine ⟨fun _ a ha=>?_,fun _ a _=>List.not_mem_nil⟩
  have:=cells_sub _ a ha
  cases this
theorem At.pushI (h:At K H0 X n (S++T) H) {v:V} {m:Md} {d:PyData} (r:RdF K H v d []):At K H0 X n (S++⟨some v,.dat m d,[]⟩::T) H :=
  (h.push (e:=⟨some v,.dat m d,[]⟩) ⟨v,rfl,r,fun _=>List.nodup_nil,fun _ a l z=>nomatch z⟩ (fun f _=>sep_nil) (fun a ha=>nomatch cells_sub _ a ha)).tomid
def wk:Md→Md→Bool
  | _,.pk=>true
  | .pk,_=>false
  | _,.sh=>true
  | .sh,_=>false
  | _,.tp=>true
  | .tp,.ow=>false
  | .ow,.ow=>true
theorem cells_wk {v:Option V} {m m':Md} {d:PyData} {F:List Addr} (w:wk m m'=true):∀ a∈cells ⟨v,.dat m' d,F⟩,a∈cells ⟨v,.dat m d,F⟩:=by
  intro a ha
  cases m <;> cases m' <;> first | exact absurd w (by decide) | exact ha | exact absurd ha List.not_mem_nil | exact (List.take_sublist 1 F).subset ha
theorem nodup_top {α:Type} {F:List α} (h:F.Nodup):∀ a l,F=a::l→a∉l:=fun a l e=>by
  subst e
  exact (List.nodup_cons.mp h).1
theorem EntOk.wk {v:Option V} {m m':Md} {d:PyData} {F:List Addr} (w:wk m m'=true) (h:EntOk K H n ⟨v,.dat m d,F⟩):EntOk K H n ⟨v,.dat m' d,F⟩:=by
  obtain ⟨u,h1,h2,h3,h4⟩:=h
  refine ⟨u,h1,h2,fun e=>?_,fun e=>?_⟩
  · subst e
    cases m <;> first | exact absurd w (by decide) | exact h3 rfl
  · subst e
    cases m <;> first | exact absurd w (by decide) | exact h4 rfl | exact nodup_top (h3 rfl)
theorem SepR.wk {v:Option V} {m m':Md} {d:PyData} {F:List Addr} (w:wk m m'=true) (h:SepR ⟨v,.dat m d,F⟩ f):SepR ⟨v,.dat m' d,F⟩ f:=by
  refine ⟨fun hp a ha=>?_,fun hp a ha=>?_⟩
  · rcases hp with hp | hp
    · exact h.1 (.inl hp) a (cells_wk w a ha)
    · cases hp
  · rcases hp with hp | hp
    · refine h.2 (.inl ?_) a ha
      cases m <;> cases m' <;> first | rfl | exact absurd w (by decide) | exact absurd hp (by show ¬ (true=false); decide)
    · exact h.2 (.inr hp) a ha
theorem At.wk {v:Option V} {m m':Md} {d:PyData} {F:List Addr} (w:wk m m'=true) (h:At K H0 X n (⟨v,.dat m d,F⟩::E) H):At K H0 X n (⟨v,.dat m' d,F⟩::E) H:=by
  have hs:=List.pairwise_cons.mp h.sep
  refine (h.sub (List.sublist_cons_self _ _)).push ((h.ok _ List.mem_cons_self).wk w) (fun f hf=>(hs.1 f hf).wk w) fun a ha=>?_
  rcases h.new _ List.mem_cons_self a (cells_wk w a ha) with z | z
  · exact .inl z
  · cases z.2
end
end DL
namespace DL
open PySem L2 Nd
abbrev DE:=DS→(DV→DS→Prop)→Prop
abbrev DT:=DS→(Bool→DS→Prop)→Prop
abbrev DA:=DS→(List DV→DS→Prop)→Prop
structure DEnds where
  nx:DS→Prop
  rt:DV→DS→Prop
  bk:DS→Prop:=fun _=>False
  ct:DS→Prop:=fun _=>False
abbrev DB:=DEnds→DS→Prop
abbrev DG:=DV→DS→(DS→Prop)→Prop
abbrev DGs:=List DV→DS→(DS→Prop)→Prop
def vs (S:List Ent):L2.St:=S.map Ent.v
def Sl (S:List Ent) (δ:DS):Prop:=S.map Ent.x=δ.sl
section
variable (K:PySem.W.Frag)
def LE (de:DE):TE:=fun σ H Q=>∃ (H0:Hp) (X:Addr→Prop) (S T:List Ent) (δ:DS) (P:DV→DS→Prop),vs S=σ∧Sl S δ∧At K H0 X δ.n (S++T) H∧de δ P ∧
  ∀ x δ' v F S' H',vs S'=σ→Sl S' δ'→At K H0 X δ'.n (S'++⟨some v,x,F⟩::T) H'→P x δ'→Q v H'
def LT (dt:DT):TT:=fun σ H Q=>∃ (H0:Hp) (X:Addr→Prop) (S T:List Ent) (δ:DS) (P:Bool→DS→Prop),vs S=σ∧Sl S δ∧At K H0 X δ.n (S++T) H∧dt δ P ∧
  ∀ b δ' S' H',vs S'=σ→Sl S' δ'→At K H0 X δ'.n (S'++T) H'→P b δ'→Q b H'
def LA (da:DA):TA:=fun σ H Q=>∃ (H0:Hp) (X:Addr→Prop) (S T:List Ent) (δ:DS) (P:List DV→DS→Prop),vs S=σ∧Sl S δ∧At K H0 X δ.n (S++T) H∧da δ P ∧
  ∀ xs δ' As us S' H',vs S'=σ→Sl S' δ'→As.map Ent.x=xs→As.map Ent.v=us.map some→At K H0 X δ'.n (S'++(As++T)) H'→P xs δ'→Q us H'
def LS (db:DB):TS:=fun D σ H=>∃ (H0:Hp) (X:Addr→Prop) (S T:List Ent) (δ:DS) (P:DEnds),vs S=σ∧Sl S δ∧(∀ e∈T,isPk e.x=false)∧At K H0 X δ.n (S++T) H∧db P δ ∧
  (∀ δ' S' H',Sl S' δ'→At K H0 X δ'.n (S'++T) H'→P.nx δ'→D.nx (vs S') H') ∧
  (∀ x δ' v F S' H',Sl S' δ'→At K H0 X δ'.n (S'++⟨some v,x,F⟩::T) H'→P.rt x δ'→D.rt v H') ∧
  (∀ δ' S' H',Sl S' δ'→At K H0 X δ'.n (S'++T) H'→P.bk δ'→D.bk (vs S') H') ∧
  (∀ δ' S' H',Sl S' δ'→At K H0 X δ'.n (S'++T) H'→P.ct δ'→D.ct (vs S') H')
def LG (dg:DG):TG:=fun v σ H Q=>∃ (H0:Hp) (X:Addr→Prop) (S T:List Ent) (δ:DS) (x:DV) (F:List Addr) (P:DS→Prop),vs S=σ∧Sl S δ∧At K H0 X δ.n (S++⟨some v,x,F⟩::T) H∧dg x δ P ∧
  ∀ δ' S' H',Sl S' δ'→At K H0 X δ'.n (S'++T) H'→P δ'→Q (vs S') H'
def LGs (dg:DGs):TGs:=fun us σ H Q=>∃ (H0:Hp) (X:Addr→Prop) (S T As:List Ent) (δ:DS) (P:DS→Prop),vs S=σ∧Sl S δ∧As.map Ent.v=us.map some∧At K H0 X δ.n (S++(As++T)) H∧dg (As.map Ent.x) δ P ∧
  ∀ δ' S' H',Sl S' δ'→At K H0 X δ'.n (S'++T) H'→P δ'→Q (vs S') H'
end
abbrev PED (X:Cx) (e:Expr) (de:DE):Prop:=PE X e (LE X.K de)
abbrev PTD (X:Cx) (e:Expr) (dt:DT):Prop:=PT X e (LT X.K dt)
abbrev PWD (X:Cx) (e:Expr) (dt:DT):Prop:=PW X e (LT X.K dt)
abbrev PAD (X:Cx) (es:List Expr) (da:DA):Prop:=PA X es (LA X.K da)
abbrev PSD (X:Cx) (st:Stmt) (db:DB):Prop:=PS X st (LS X.K db)
abbrev PSsD (X:Cx) (st:List Stmt) (db:DB):Prop:=PSs X st (LS X.K db)
abbrev PGD (X:Cx) (tg:Expr) (dg:DG):Prop:=PG X tg (LG X.K dg)
abbrev PGsD (X:Cx) (tg:List Expr) (dg:DGs):Prop:=PGs X tg (LGs X.K dg)
theorem PE.imp {X:Cx} {e:Expr} {t t':TE} (h:PE X e t) (k:∀ σ H Q,t' σ H Q→t σ H Q):PE X e t':=fun pins s σ H Q I q=>h pins s σ H Q I (k σ H Q q)
theorem PT.imp {X:Cx} {e:Expr} {t t':TT} (h:PT X e t) (k:∀ σ H Q,t' σ H Q→t σ H Q):PT X e t':=fun pins s σ H Q I q=>h pins s σ H Q I (k σ H Q q)
theorem PW.imp {X:Cx} {e:Expr} {t t':TT} (h:PW X e t) (k:∀ σ H Q,t' σ H Q→t σ H Q):PW X e t':=fun wh pins s σ H Q I q=>h wh pins s σ H Q I (k σ H Q q)
theorem PA.imp {X:Cx} {e:List Expr} {t t':TA} (h:PA X e t) (k:∀ σ H Q,t' σ H Q→t σ H Q):PA X e t':=fun pos pins s σ H Q I q=>h pos pins s σ H Q I (k σ H Q q)
theorem PG.imp {X:Cx} {e:Expr} {t t':TG} (h:PG X e t) (k:∀ v σ H Q,t' v σ H Q→t v σ H Q):PG X e t':=fun pins s σ H v u Q I r q=>h pins s σ H v u Q I r (k v σ H Q q)
theorem PGs.imp {X:Cx} {e:List Expr} {t t':TGs} (h:PGs X e t) (k:∀ v σ H Q,t' v σ H Q→t v σ H Q):PGs X e t':=fun pins s σ H v u Q I r q=>h pins s σ H v u Q I r (k v σ H Q q)
section
variable {K:PySem.W.Frag} {H:Hp} {v:V} {F:List Addr}
theorem RdF.int_inv {i:Int} (h:RdF K H v (.int i) F):v=.int i∧F=[]:=by cases h; exact ⟨rfl,rfl⟩
theorem RdF.bl_inv {i:Bool} (h:RdF K H v (.bool i) F):v=.bl i∧F=[]:=by cases h; exact ⟨rfl,rfl⟩
theorem RdF.str_inv {i:Str} (h:RdF K H v (.str i) F):v=.str i∧F=[]:=by cases h; exact ⟨rfl,rfl⟩
theorem RdF.list_inv {ds:List PyData} (h:RdF K H v (.list ds) F):∃ a xs G,v=.ref a∧H a=some (.lst xs)∧RdFs K H xs ds G∧F=a::G∧ds.length≤sizeLine:=by
  cases h with
  | lst h l hs=>exact ⟨_,_,_,rfl,h,hs,rfl,l⟩
theorem RdF.tup_inv {ds:List PyData} (h:RdF K H v (.tuple ds) F):∃ a xs,v=.ref a∧H a=some (.tup xs)∧RdFs K H xs ds F∧ds.length≤sizeLine:=by
  cases h with
  | tup h l hs=>exact ⟨_,_,rfl,h,hs,l⟩
end
section
variable {K:PySem.W.Frag} {H0 H H':Hp} {X:Addr→Prop} {n:Nat} {E S T:List Ent} {v:V} {m:Md} {d:PyData} {F:List Addr}
theorem At.told (h:At K H0 X n E H) (he:⟨some v,.dat m d,F⟩∈E):RdF K H v d F:=by
  obtain ⟨w,e1,h1,_⟩:=h.ok _ he
  cases e1
  exact h1
theorem mem_mid {e:Ent}:e∈S++e::T:=List.mem_append_right _ List.mem_cons_self
theorem mem_mid2 {e f:Ent}:f∈S++e::f::T:=List.mem_append_right _ (List.mem_cons_of_mem _ List.mem_cons_self)
theorem At.drop2 {e f:Ent} (h:At K H0 X n (S++e::f::T) H):At K H0 X n (S++T) H:=h.drop.drop
theorem At.dropL {As:List Ent} (h:At K H0 X n (S++(As++T)) H):At K H0 X n (S++T) H:=h.sub ((List.Sublist.refl S).append (List.sublist_append_right As T))
end
def pkOf:Md→Md
  | .ow=>.pk
  | .tp=>.pk
  | m=>m
def dVar (i:Nat):DE:=fun δ P=>match δ.sl[i]? with
  | some (.dat m d)=>P (.dat (pkOf m) d) δ
  | _=>False
def dC (d:PyData):DE:=fun δ P=>P (.dat .ow d) δ
theorem slot_of {S:List Ent} {δ:DS} {i:Nat} {x:DV} (h:Sl S δ) (e:δ.sl[i]? = some x):∃ ent,S[i]? = some ent∧ent.x=x:=by
  unfold Sl at h
  rw [← h,List.getElem?_map] at e
  cases q:S[i]? with
  | none=>rw [q] at e; cases e
  | some ent=>rw [q] at e; exact ⟨ent,rfl,Option.some.inj e⟩
theorem vs_at {S:List Ent} {i:Nat} {e:Ent} (h:S[i]? = some e):(vs S)[i]? = some e.v:=by
  unfold vs
  rw [List.getElem?_map,h]
  rfl
theorem At.look {K:PySem.W.Frag} {H0 H:Hp} {X:Addr→Prop} {n:Nat} {S T:List Ent} {u:Option V} {v:V} {m:Md} {d:PyData} {F:List Addr} (h:At K H0 X n (S++T) H) (he:⟨u,.dat m d,F⟩∈S) (hu:u=some v):At K H0 X n (S++⟨some v,.dat (pkOf m) d,F⟩::T) H:=by
  subst hu
  obtain ⟨S1,S2,rfl⟩:=List.append_of_mem he
  have hp:((S1++⟨some v,.dat m d,F⟩::S2)++T).Perm (⟨some v,.dat m d,F⟩::(S1++(S2++T))):=by
    rw [List.append_assoc,List.cons_append]
    exact List.perm_middle
  have h2:=h.perm hp
  have hs:=List.pairwise_cons.mp h2.sep
  refine (h.push (e:=⟨some v,.dat (pkOf m) d,F⟩) ?_ (fun f hf=>?_) fun a ha=>?_).tomid
  · obtain ⟨w,e1,h1,_⟩:=h2.ok _ List.mem_cons_self
    refine ⟨w,e1,h1,fun z=>?_,fun z=>?_⟩ <;> cases m <;> cases z
  · refine ⟨fun _ a ha=>?_,fun hq a ha=>?_⟩
    · cases m <;> exact nomatch ha
    · rcases List.mem_cons.mp (hp.mem_iff.mp hf) with rfl | hf
      · rcases hq with hq | hq
        · cases m <;> first | cases hq; done | exact nomatch ha
        · cases hq
      · refine (hs.1 f hf).2 ?_ a ha
        rcases hq with hq | hq
        · refine .inl ?_
          cases m <;> first | rfl | exact hq
        · exact .inr hq
  · cases m <;> exact nomatch ha
section
variable {X:Cx} {e:Expr}
theorem dp_var {i:Nat} (h:PE X e (tVar i)):PED X e (dVar i):=by
  refine PE.imp h fun σ H Q h=>?_
  obtain ⟨H0,Y,S,T,δ,P,rfl,hS,hA,hd,k⟩:=h
  unfold dVar at hd
  split at hd
  · rename_i m d e1
    obtain ⟨ent,e2,e3⟩:=slot_of hS e1
    have hm:ent∈S:=List.mem_of_getElem? e2
    obtain ⟨u,x,F⟩:=ent
    subst e3
    obtain ⟨v,hv,_⟩:=hA.ok _ (List.mem_append_left _ hm)
    refine ⟨v,by rw [vs_at e2]; exact congrArg some hv,k _ δ v F S H rfl hS (hA.look hm hv) hd⟩
  · exact hd.elim
theorem dp_con {v:V} {d:PyData} (h:PE X e (tC v)) (r:∀ H,RdF X.K H v d []):PED X e (dC d):=by
  refine PE.imp h fun σ H Q h=>?_
  obtain ⟨H0,Y,S,T,δ,P,rfl,hS,hA,hd,k⟩:=h
  exact k _ δ v [] S H rfl hS (hA.pushI (r H)) hd
theorem dp_int {i j pos}:PED X (.Constant (.int i) j pos) (dC (.int i)):=dp_con pe_int fun _=>.int i
theorem dp_bl {i j pos}:PED X (.Constant (.bool i) j pos) (dC (.bool i)):=dp_con pe_bl fun _=>.bl i
theorem dp_str {i j pos}:PED X (.Constant (.str i) j pos) (dC (.str i)):=dp_con pe_str fun _=>.str i
end
def dImm (de:DE):DE:=fun δ P=>de δ fun x δ'=>match x with
  | .dat _ d=>imm d=true∧P (.dat .ow d) δ'
  | _=>False
theorem dp_imm {X:Cx} {e:Expr} {de:DE} (h:PED X e de):PED X e (dImm de):=by
  refine PE.imp h fun σ H Q h=>?_
  obtain ⟨H0,Y,S,T,δ,P,rfl,hS,hA,hd,k⟩:=h
  refine ⟨H0,Y,S,T,δ,_,rfl,hS,hA,hd,fun x δ' v F S' H' e1 e2 hA' p=>?_⟩
  cases x with
  | dat m d =>
    have r:=hA'.told mem_mid
    obtain rfl:=r.imm p.1
    exact k _ δ' v [] S' H' e1 e2 (hA'.drop.pushI r) p.2
  | _=>exact p.elim
def dTake (i:Nat):DE:=fun δ P=>match δ.sl[i]? with
  | some (.dat m d)=>P (.dat m d) ⟨δ.sl.set i .un,δ.n⟩
  | _=>False
theorem set_perm {α:Type}:∀ {l:List α} {i:Nat} {x y:α},l[i]? = some x→(y::l).Perm (x::l.set i y)
  | [],i,x,y,h=>by simp at h
  | z::l,0,x,y,h=>by
    simp at h
    subst h
    exact List.Perm.swap _ _ _
  | z::l,i+1,x,y,h=>by
    have ih:=set_perm (l:=l) (i:=i) (x:=x) (y:=y) (by simpa using h)
    rw [List.set_cons_succ]
    exact (List.Perm.swap z y l).trans ((ih.cons z).trans (List.Perm.swap x z _))
theorem dp_take {X:Cx} {e:Expr} {i:Nat} (h:PE X e (tVar i)):PED X e (dTake i):=by
  refine PE.imp h fun σ H Q h=>?_
  obtain ⟨H0,Y,S,T,δ,P,rfl,hS,hA,hd,k⟩:=h
  unfold dTake at hd
  split at hd
  · rename_i m d e1
    obtain ⟨ent,e2,e3⟩:=slot_of hS e1
    have hm:ent∈S:=List.mem_of_getElem? e2
    obtain ⟨u,x,F⟩:=ent
    subst e3
    obtain ⟨v,hv,hv2⟩:=hA.ok _ (List.mem_append_left _ hm)
    have hv':u=some v:=hv
    subst hv'
    refine ⟨v,by rw [vs_at e2],k _ _ v F (S.set i ⟨some v,.un,[]⟩) H ?_ ?_ ?_ hd⟩
    · unfold vs
      rw [List.map_set]
      apply List.ext_getElem?
      intro j
      rw [List.getElem?_set]
      split
      · rename_i hij
        subst hij
        rw [List.getElem?_map,e2]
        split
        · rfl
        · rename_i hj
          rw [List.length_map] at hj
          exact absurd (List.getElem?_eq_some_iff.mp e2).1 hj
      · rfl
    · unfold Sl at hS ⊢
      rw [List.map_set,hS]
    · have hp:=hA.push (e:=⟨some v,.un,[]⟩) (show EntOk X.K H δ.n ⟨some v,.un,[]⟩ from rfl) (fun f _=>⟨fun _ a ha=>(nomatch ha),fun _ a _=>List.not_mem_nil⟩) (fun a ha=>(nomatch ha))
      have p1:(⟨some v,.un,[]⟩::(S++T)).Perm ((S.set i ⟨some v,.un,[]⟩)++⟨some v,.dat m d,F⟩::T):=by
        rw [← List.cons_append]
        exact ((set_perm (y:=(⟨some v,.un,[]⟩ : Ent)) e2).append_right T).trans (by rw [List.cons_append]; exact List.perm_middle.symm)
      exact hp.perm p1
  · exact hd.elim
end DL
namespace DL
open PySem L2 Nd
abbrev D2:=DV→DV→(DV→Prop)→Prop
def OpS (K:PySem.W.Frag) (r:R2) (rd:D2):Prop:=∀ (H0:Hp) (X:Addr→Prop) (n:Nat) (S T:List Ent) (x y:DV) (v w:V) (F G:List Addr) (H:Hp) (Q:VK) (P:DV→Prop),
  At K H0 X n (S++⟨some w,y,G⟩::⟨some v,x,F⟩::T) H→rd x y P→(∀ z u F' H',At K H0 X n (S++⟨some u,z,F'⟩::T) H'→P z→Q u H')→r v w H Q
def dOp (rd:D2) (da db:DE):DE:=fun δ P=>da δ fun x δ1=>db δ1 fun y δ2=>rd x y fun z=>P z δ2
theorem op_le {K:PySem.W.Frag} {r:R2} {rd:D2} {da db:DE} (o:OpS K r rd):∀ σ H Q,LE K (dOp rd da db) σ H Q→tOp r (LE K da) (LE K db) σ H Q:=by
  intro σ H Q h
  obtain ⟨H0,Y,S,T,δ,P,rfl,hS,hA,hd,k⟩:=h
  refine ⟨H0,Y,S,T,δ,_,rfl,hS,hA,hd,fun x δ1 v F S1 H1 e1 e2 hA1 p1=>?_⟩
  refine ⟨H0,Y,S1,⟨some v,x,F⟩::T,δ1,_,e1,e2,hA1,p1,fun y δ2 w G S2 H2 e3 e4 hA2 p2=>?_⟩
  exact o H0 Y δ2.n S2 T x y v w F G H2 Q _ hA2 p2 fun z u F' H' hA3 p3=>k z δ2 u F' S2 H' e3 e4 hA3 p3
section
variable {X:Cx} {a b:Expr} {da db:DE} {pos:Pos} {r:R2} {rd:D2}
theorem dp_op {op:Operator} (ho:OpR X (binaryOp op) r) (o:OpS X.K r rd) (ha:PED X a da) (hb:PED X b db):PED X (.BinOp a op b pos) (dOp rd da db):=PE.imp (pe_op ho ha hb) (op_le o)
theorem dp_cmp {op:CmpOp} (ho:OpR X (compareOp op) r) (o:OpS X.K r rd) (ha:PED X a da) (hb:PED X b db) (hm:behindInMarks op b=false):PED X (.Compare a [op] [b] pos) (dOp rd da db):=PE.imp (pe_cmpR ho ha hb hm) (op_le o)
theorem dp_ix (ho:IxR X r) (o:OpS X.K r rd) (ha:PED X a da) (hb:PED X b db) (hs:PlainIx b):PED X (.Subscript a b pos) (dOp rd da db):=PE.imp (pe_ix ho ha hb hs) (op_le o)
end
def rdI (C:Int→Int→Prop) (g:Int→Int→PyData):D2:=fun x y P=>match x,y with
  | .dat _ (.int i),.dat _ (.int j)=>C i j∧P (.dat .ow (g i j))
  | _,_=>False
def rdI0 (g:Int→Int→PyData):D2:=fun x y P=>match x,y with
  | .dat _ (.int i),.dat _ (.int j)=>P (.dat .ow (g i j))
  | _,_=>False
section
variable {K:PySem.W.Frag}
theorem os_I {C:Int→Int→Prop} {g:Int→Int→V} {g':Int→Int→PyData} (h:∀ i j H,RdF K H (g i j) (g' i j) []):OpS K (rI C g) (rdI C g'):=by
  intro H0 X n S T x y v w F G H Q P hA hd k
  unfold rdI at hd
  split at hd
  · obtain ⟨rfl,_⟩:=(hA.told mem_mid2).int_inv
    obtain ⟨rfl,_⟩:=(hA.told mem_mid).int_inv
    exact ⟨_,_,rfl,rfl,hd.1,k _ _ [] H (hA.drop2.pushI (h _ _ H)) hd.2⟩
  · exact hd.elim
theorem os_I0 {g:Int→Int→V} {g':Int→Int→PyData} (h:∀ i j H,RdF K H (g i j) (g' i j) []):OpS K (rI0 g) (rdI0 g'):=by
  intro H0 X n S T x y v w F G H Q P hA hd k
  unfold rdI0 at hd
  split at hd
  · obtain ⟨rfl,_⟩:=(hA.told mem_mid2).int_inv
    obtain ⟨rfl,_⟩:=(hA.told mem_mid).int_inv
    exact ⟨_,_,rfl,rfl,k _ _ [] H (hA.drop2.pushI (h _ _ H)) hd⟩
  · exact hd.elim
end
abbrev rdAdd:D2:=rdI0 fun i j=>.int (i+j)
abbrev rdSub:D2:=rdI0 fun i j=>.int (i - j)
abbrev rdMul:D2:=rdI CMul fun i j=>.int (i * j)
abbrev rdDiv:D2:=rdI CDiv fun i j=>.int (i / j)
abbrev rdMod:D2:=rdI (fun _ j=>0<j) fun i j=>.int (i % j)
abbrev rdLt:D2:=rdI0 fun i j=>.bool (decide (i<j))
abbrev rdGe:D2:=rdI0 fun i j=>.bool (decide (j≤i))
section
variable {X:Cx} {a b:Expr} {da db:DE} {pos:Pos}
theorem dp_add (ha:PED X a da) (hb:PED X b db):PED X (.BinOp a .Add b pos) (dOp rdAdd da db):=dp_op op_add (os_I0 fun _ _ _=>.int _) ha hb
theorem dp_sub (ha:PED X a da) (hb:PED X b db):PED X (.BinOp a .Sub b pos) (dOp rdSub da db):=dp_op op_sub (os_I0 fun _ _ _=>.int _) ha hb
theorem dp_mul (ha:PED X a da) (hb:PED X b db):PED X (.BinOp a .Mult b pos) (dOp rdMul da db):=dp_op op_mul (os_I fun _ _ _=>.int _) ha hb
theorem dp_div (ha:PED X a da) (hb:PED X b db):PED X (.BinOp a .FloorDiv b pos) (dOp rdDiv da db):=dp_op op_fdiv (os_I fun _ _ _=>.int _) ha hb
theorem dp_mod (ha:PED X a da) (hb:PED X b db):PED X (.BinOp a .Mod b pos) (dOp rdMod da db):=dp_op op_mod (os_I fun _ _ _=>.int _) ha hb
end
def rdEq (ne:Bool):D2:=fun x y P=>match x,y with
  | .dat _ d,.dat _ e=>d.depth≤60∧e.depth≤60∧P (.dat .ow (.bool (match ne with | true=>!eqD d e | false=>eqD d e)))
  | _,_=>False
def rdIn (ne:Bool):D2:=fun x y P=>match x,y with
  | .dat _ d,.dat _ (.list es)=>PyData.depthAll es≤60∧d.depth≤60∧P (.dat .ow (.bool (match ne with | true=>!(es.any fun e=>eqD e d) | false=>es.any fun e=>eqD e d)))
  | .dat _ d,.dat _ (.tuple es)=>PyData.depthAll es≤60∧d.depth≤60∧P (.dat .ow (.bool (match ne with | true=>!(es.any fun e=>eqD e d) | false=>es.any fun e=>eqD e d)))
  | _,_=>False
section
variable {K:PySem.W.Frag}
theorem os_eq:OpS K (rEqD K) (rdEq false):=by
  intro H0 X n S T x y v w F G H Q P hA hd k
  unfold rdEq at hd
  split at hd
  · exact ⟨_,_,(hA.told mem_mid2).rd (Nat.le_trans hd.1 (by decide)),(hA.told mem_mid).rd (Nat.le_trans hd.2.1 (by decide)),hd.1,k _ _ [] H (hA.drop2.pushI (.bl _)) hd.2.2⟩
  · exact hd.elim
theorem os_ne:OpS K (rNeD K) (rdEq true):=by
  intro H0 X n S T x y v w F G H Q P hA hd k
  unfold rdEq at hd
  split at hd
  · exact ⟨_,_,(hA.told mem_mid2).rd (Nat.le_trans hd.1 (by decide)),(hA.told mem_mid).rd (Nat.le_trans hd.2.1 (by decide)),hd.1,k _ _ [] H (hA.drop2.pushI (.bl _)) hd.2.2⟩
  · exact hd.elim
theorem os_in {ne:Bool}:OpS K (rInD K ne) (rdIn ne):=by
  intro H0 X n S T x y v w F G H Q P hA hd k
  unfold rdIn at hd
  split at hd
  · obtain ⟨a,xs,G',rfl,hq,hs,_,_⟩:=(hA.told mem_mid).list_inv
    refine ⟨a,xs,_,_,rfl,.inl (SqL.of hq),(hA.told mem_mid2).rd (Nat.le_trans hd.2.1 (by decide)),hs.rd (Nat.le_trans hd.1 (by decide)),hd.1,?_⟩
    cases ne with
    | true=>exact k _ _ [] H (hA.drop2.pushI (.bl _)) hd.2.2
    | false=>exact k _ _ [] H (hA.drop2.pushI (.bl _)) hd.2.2
  · obtain ⟨a,xs,rfl,hq,hs,_⟩:=(hA.told mem_mid).tup_inv
    refine ⟨a,xs,_,_,rfl,.inr (SqT.of hq),(hA.told mem_mid2).rd (Nat.le_trans hd.2.1 (by decide)),hs.rd (Nat.le_trans hd.1 (by decide)),hd.1,?_⟩
    cases ne with
    | true=>exact k _ _ [] H (hA.drop2.pushI (.bl _)) hd.2.2
    | false=>exact k _ _ [] H (hA.drop2.pushI (.bl _)) hd.2.2
  · exact hd.elim
end
section
variable {X:Cx} {a b:Expr} {da db:DE} {pos:Pos}
theorem dp_eq (hu:X.A.units+64<cLine) (ha:PED X a da) (hb:PED X b db):PED X (.Compare a [.Eq] [b] pos) (dOp (rdEq false) da db):=dp_cmp (op_eqD hu) os_eq ha hb (nomark _)
theorem dp_in (hu:X.A.units+64<cLine) (ha:PED X a da) (hb:PED X b db) (hm:behindInMarks .In b=false:=by with_unfolding_all rfl):PED X (.Compare a [.In] [b] pos) (dOp (rdIn false) da db):=dp_cmp (op_inD hu) os_in ha hb hm
end
def mdIn:Md→Md
  | .ow=>.ow
  | .tp=>.sh
  | m=>m
theorem At.part {K:PySem.W.Frag} {H0 H:Hp} {X:Addr→Prop} {n:Nat} {S T:List Ent} {v w:V} {m:Md} {d e:PyData} {F G:List Addr} (h:At K H0 X n (S++⟨some v,.dat m d,F⟩::T) H) (r:RdF K H w e G) (hG:G.Sublist F):At K H0 X n (S++⟨some w,.dat (mdIn m) e,G⟩::T) H:=by
  have h2:=h.mid
  have hs:=List.pairwise_cons.mp h2.sep
  obtain ⟨v',e1,h1,hn,ht⟩:=h2.ok _ List.mem_cons_self
  have cs:∀ a∈cells ⟨some w,.dat (mdIn m) e,G⟩,a∈cells ⟨some v,.dat m d,F⟩:=fun a ha=>by
    cases m with
    | ow=>exact hG.subset ha
    | tp=>exact nomatch ha
    | sh=>exact nomatch ha
    | pk=>exact nomatch ha
  refine (h.drop.push (e:=⟨some w,.dat (mdIn m) e,G⟩) ⟨w,rfl,r,fun z=>?_,fun z=>?_⟩ (fun f hf=>?_) fun a ha=>?_).tomid
  · cases m with
    | ow=>exact (hn rfl).sublist hG
    | _=>cases z
  · cases m <;> cases z
  · refine ⟨fun hp a ha=>(hs.1 f hf).1 ?_ a (cs a ha),fun hp a ha z=>(hs.1 f hf).2 ?_ a ha (hG.subset z)⟩
    · rcases hp with hp | hp
      · exact .inl hp
      · cases hp
    · rcases hp with hp | hp
      · refine .inl ?_
        cases m <;> first | rfl | exact hp
      · exact .inr hp
  · rcases h2.new _ List.mem_cons_self a (cs a ha) with z | z
    · exact .inl z
    · cases z.2
def rdIx:D2:=fun x y P=>match x,y with
  | .dat m (.list ds),.dat _ (.int i)=>∃ d,atI ds i=some d∧P (.dat (mdIn m) d)
  | .dat m (.tuple ds),.dat _ (.int i)=>∃ d,atI ds i=some d∧P (.dat (mdIn m) d)
  | .dat _ (.str z),.dat _ (.int i)=>z.length≤sizeLine∧∃ c,atI z.cps.toList i=some c∧P (.dat .ow (.str ⟨#[c]⟩))
  | _,_=>False
theorem atI_rd {K:PySem.W.Frag} {H:Hp} {xs:List V} {ds:List PyData} {F:List Addr} {i:Int} {d:PyData} (r:RdFs K H xs ds F) (h:atI ds i=some d):∃ x G,atI xs i=some x∧RdF K H x d G∧G.Sublist F:=by
  unfold atI at h ⊢
  rw [r.len]
  cases e:ixN ds.length i with
  | none=>rw [e] at h; cases h
  | some j =>
    rw [e] at h
    exact r.get h
theorem At.swap {K:PySem.W.Frag} {H0 H:Hp} {X:Addr→Prop} {n:Nat} {S T:List Ent} {e f:Ent} (h:At K H0 X n (S++e::f::T) H):At K H0 X n (S++f::e::T) H:=h.perm ((List.Perm.refl S).append (List.Perm.swap f e T))
theorem os_ix {K:PySem.W.Frag}:OpS K (rIx K) rdIx:=by
  intro H0 X n S T x y v w F G H Q P hA hd k
  unfold rdIx at hd
  split at hd
  · obtain ⟨d,hi,p⟩:=hd
    obtain ⟨rfl,_⟩:=(hA.told mem_mid).int_inv
    have r:=hA.told mem_mid2
    have hA':=hA.drop
    obtain ⟨a,xs,G0,rfl,hq,hs,hG,_⟩:=r.list_inv
    obtain ⟨x,G',h1,h2,h3⟩:=atI_rd hs hi
    subst hG
    exact .inl ⟨_,_,_,_,rfl,rfl,SqL.of hq,h1,k _ _ G' H (hA'.part h2 (h3.trans (List.sublist_cons_self _ _))) p⟩
  · obtain ⟨d,hi,p⟩:=hd
    obtain ⟨rfl,_⟩:=(hA.told mem_mid).int_inv
    have r:=hA.told mem_mid2
    have hA':=hA.drop
    obtain ⟨a,xs,rfl,hq,hs,_⟩:=r.tup_inv
    obtain ⟨x,G',h1,h2,h3⟩:=atI_rd hs hi
    exact .inr (.inl ⟨_,_,_,_,rfl,rfl,SqT.of hq,h1,k _ _ G' H (hA'.part h2 h3) p⟩)
  · obtain ⟨hz,c,hi,p⟩:=hd
    obtain ⟨rfl,_⟩:=(hA.told mem_mid).int_inv
    obtain ⟨rfl,_⟩:=(hA.told mem_mid2).str_inv
    exact .inr (.inr ⟨_,_,_,rfl,rfl,hz,hi,k _ _ [] H (hA.drop2.pushI (.str _)) p⟩)
  · exact hd.elim
theorem dp_ixS {X:Cx} {a b:Expr} {da db:DE} {pos:Pos} (ha:PED X a da) (hb:PED X b db) (hs:PlainIx b:=by intro _ _; rfl):PED X (.Subscript a b pos) (dOp rdIx da db):=dp_ix ix_seq os_ix ha hb hs
def mdNew:Md→Md
  | .ow=>.ow
  | .pk=>.pk
  | _=>.tp
def nlist (i:Bool) (m:Md) (ds:List PyData) (P:DV→Prop):Prop:=match i with
  | true=>immAll ds=true∧P (.dat .ow (.list ds))
  | false=>P (.dat (mdNew m) (.list ds))
def ntup (i:Bool) (m:Md) (ds:List PyData) (P:DV→Prop):Prop:=match i with
  | true=>immAll ds=true∧P (.dat .ow (.tuple ds))
  | false=>P (.dat (mdIn m) (.tuple ds))
section
variable {K:PySem.W.Frag} {H0 H:Hp} {X:Addr→Prop} {n:Nat} {S T:List Ent} {v w:V} {m:Md} {d e:PyData} {F G:List Addr} {p:Addr} {xs:List V} {ds:List PyData} {P:DV→Prop} {i:Bool}
theorem At.newI (h:At K H0 X n (S++T) H) (r:RdFs K H xs ds G) (hi:immAll ds=true) (hz:ds.length≤sizeLine) (hp:H p=none) (m:Md):At K H0 X n (S++⟨some (.ref p),.dat m (.list ds),[p]⟩::T) (upd H p (.lst xs)):=by
  obtain rfl:=r.imm hi
  have s1:=same_new hp (.lst xs)
  have h1:=h.grow (n':=n) s1 (Nat.le_refl _)
  refine (h1.push (e:=⟨some (.ref p),.dat m (.list ds),[p]⟩) ⟨_,rfl,.lst upd_same hz (r.kp (Kp.of s1)),fun _=>List.nodup_cons.mpr ⟨List.not_mem_nil,List.nodup_nil⟩,fun _ a l z=>by cases z; exact List.not_mem_nil⟩ (fun f hf=>?_) fun a ha=>?_).tomid
  · have nf:=h.free hp f hf
    refine ⟨fun _ a ha z=>?_,fun _ a ha z=>?_⟩
    · have:=cells_sub _ a ha
      rw [List.mem_singleton.mp this] at z
      exact nf z
    · rw [List.mem_singleton.mp z] at ha
      exact nf (cells_sub _ _ ha)
  · have:=cells_sub _ a ha
    rw [List.mem_singleton.mp this]
    exact .inl (h.new0 hp)
theorem At.newL (h:At K H0 X n (S++⟨some v,.dat m d,F⟩::T) H) (r:RdFs K H xs ds G) (hG:G.Sublist F) (hz:ds.length≤sizeLine) (hp:H p=none) (q:nlist i m ds P):∃ z F',At K H0 X n (S++⟨some (.ref p),z,F'⟩::T) (upd H p (.lst xs))∧P z:=by
  cases i with
  | true=>exact ⟨_,_,h.drop.newI r q.1 hz hp .ow,q.2⟩
  | false =>
    have q:P (.dat (mdNew m) (.list ds)):=q
    refine ⟨_,p::G,?_,q⟩
    have s1:=same_new hp (.lst xs)
    have h2:=h.mid
    have hs:=List.pairwise_cons.mp h2.sep
    obtain ⟨v',e1,_,hn,_⟩:=h2.ok _ List.mem_cons_self
    have h1:=h.drop.grow (n':=n) s1 (Nat.le_refl _)
    have npF:p∉F:=h2.free hp _ List.mem_cons_self
    have npG:p∉G:=fun z=>npF (hG.subset z)
    have cs:∀ a∈cells ⟨some (.ref p),.dat (mdNew m) (.list ds),p::G⟩,a=p∨(a∈cells ⟨some v,.dat m d,F⟩):=fun a ha=>by
      cases m with
      | ow =>
        rcases List.mem_cons.mp ha with z | z
        · exact .inl z
        · exact .inr (hG.subset z)
      | tp=>exact .inl (List.mem_singleton.mp ha)
      | sh=>exact .inl (List.mem_singleton.mp ha)
      | pk=>exact nomatch ha
    refine (h1.push (e:=⟨some (.ref p),.dat (mdNew m) (.list ds),p::G⟩) ⟨_,rfl,.lst upd_same hz (r.kp (Kp.of s1)),fun z=>?_,fun z a l e=>?_⟩ (fun f hf=>?_) fun a ha=>?_).tomid
    · cases m with
      | ow=>exact List.nodup_cons.mpr ⟨npG,(hn rfl).sublist hG⟩
      | _=>cases z
    · cases e
      exact npG
    · have nf:=h2.free hp f (List.mem_cons_of_mem _ hf)
      refine ⟨fun hq a ha z=>?_,fun hq a ha z=>?_⟩
      · rcases cs a ha with rfl | hc
        · exact nf z
        · refine (hs.1 f hf).1 ?_ a hc z
          rcases hq with hq | hq
          · exact .inl hq
          · cases hq
      · rcases List.mem_cons.mp z with rfl | z
        · exact nf (cells_sub _ _ ha)
        · refine (hs.1 f hf).2 ?_ a ha (hG.subset z)
          rcases hq with hq | hq
          · refine .inl ?_
            cases m <;> first | rfl | exact hq
          · exact .inr hq
    · rcases cs a ha with rfl | hc
      · exact .inl (h2.new0 hp)
      · rcases h2.new _ List.mem_cons_self a hc with z | z
        · exact .inl z
        · cases z.2
theorem At.newT (h:At K H0 X n (S++⟨some v,.dat m d,F⟩::T) H) (r:RdFs K H xs ds G) (hG:G.Sublist F) (hz:ds.length≤sizeLine) (hp:H p=none) (q:ntup i m ds P):∃ z F',At K H0 X n (S++⟨some (.ref p),z,F'⟩::T) (upd H p (.tup xs))∧P z:=by
  have s1:=same_new hp (.tup xs)
  have h1:=h.grow (n':=n) s1 (Nat.le_refl _)
  cases i with
  | true =>
    obtain rfl:=r.imm q.1
    exact ⟨_,[],h1.drop.pushI (.tup upd_same hz (r.kp (Kp.of s1))),q.2⟩
  | false=>exact ⟨_,G,h1.part (.tup upd_same hz (r.kp (Kp.of s1))) hG,q⟩
theorem At.oldT {t:Addr} (h:At K H0 X n (S++⟨some v,.dat m d,F⟩::T) H) (r:RdFs K H xs ds G) (hG:G.Sublist F) (hz:ds.length≤sizeLine) (ht:H t=some (.tup xs)) (q:ntup i m ds P):∃ z F',At K H0 X n (S++⟨some (.ref t),z,F'⟩::T) H∧P z:=by
  cases i with
  | true =>
    obtain rfl:=r.imm q.1
    exact ⟨_,[],h.drop.pushI (.tup ht hz r),q.2⟩
  | false=>exact ⟨_,G,h.part (.tup ht hz r) hG,q⟩
end
def dNil:DA:=fun δ P=>P [] δ
def dCons (de:DE) (da:DA):DA:=fun δ P=>de δ fun x δ1=>da δ1 fun xs δ2=>P (x::xs) δ2
section
variable {X:Cx} {e:Expr} {es:List Expr} {de:DE} {da:DA}
theorem dpa_nil:PAD X [] dNil:=by
  refine PA.imp pa_nil fun σ H Q h=>?_
  obtain ⟨H0,Y,S,T,δ,P,rfl,hS,hA,hd,k⟩:=h
  exact k [] δ [] [] S H rfl hS rfl rfl hA hd
theorem dpa_cons (ha:PED X e de) (hr:PAD X es da) (hs:starEach (e::es) X.env=(false,eval e X.env)::starEach es X.env:=by rfl):PAD X (e::es) (dCons de da):=by
  refine PA.imp (pa_cons ha hr hs) fun σ H Q h=>?_
  obtain ⟨H0,Y,S,T,δ,P,rfl,hS,hA,hd,k⟩:=h
  refine ⟨H0,Y,S,T,δ,_,rfl,hS,hA,hd,fun x δ1 v F S1 H1 e1 e2 hA1 p1=>?_⟩
  refine ⟨H0,Y,S1,⟨some v,x,F⟩::T,δ1,_,e1,e2,hA1,p1,fun xs δ2 As us S2 H2 e3 e4 ex eu hA2 p2=>?_⟩
  refine k (x::xs) δ2 (⟨some v,x,F⟩::As) (v::us) S2 H2 e3 e4 (by rw [List.map_cons,ex]) (by rw [List.map_cons,List.map_cons,eu]) (hA2.perm ((List.Perm.refl S2).append ?_)) p2
  exact List.perm_middle
end
def allOw:List DV→Bool
  | []=>true
  | .dat .ow _::xs=>allOw xs
  | _=>false
def noPk:List DV→Bool
  | []=>true
  | .dat .pk _::_=>false
  | .dat _ _::xs=>noPk xs
  | _=>false
def datas:List DV→Option (List PyData)
  | []=>some []
  | .dat _ d::xs=>(datas xs).map (d::·)
  | _=>none
def pkMd (top:Md) (xs:List DV):Md:=if allOw xs=true then .ow else if noPk xs=true then top else .pk
section
variable {K:PySem.W.Frag} {H0 H:Hp} {X:Addr→Prop} {n:Nat} {S T As:List Ent}
theorem datas_rd:∀ {As:List Ent} {us:List V} {ds:List PyData},As.map Ent.v=us.map some→datas (As.map Ent.x)=some ds→(∀ e∈As,EntOk K H n e)→RdFs K H us ds (As.flatMap Ent.F)
  | [],us,ds,e,h,_=>by
    cases us with
    | nil=>cases h; exact .nil
    | cons _ _=>cases e
  | ent::As,us,ds,e,h,ok=>by
    cases us with
    | nil=>cases e
    | cons u us =>
      rw [List.map_cons,List.map_cons] at e
      obtain ⟨e1,e2⟩:=List.cons.inj e
      obtain ⟨v,x,F⟩:=ent
      have e1':v=some u:=e1
      subst e1'
      rw [List.map_cons] at h
      cases x with
      | dat m d =>
        rw [show datas (DV.dat m d::As.map Ent.x)=(datas (As.map Ent.x)).map (d::·) from rfl] at h
        cases q:datas (As.map Ent.x) with
        | none=>rw [q] at h; cases h
        | some es =>
          rw [q] at h
          cases h
          obtain ⟨w,ew,rw',_⟩:=ok _ List.mem_cons_self
          cases ew
          rw [List.flatMap_cons]
          exact .cons rw' (datas_rd e2 q fun f hf=>ok f (List.mem_cons_of_mem _ hf))
      | _=>cases h
theorem allOw_dat:∀ {As:List Ent},allOw (As.map Ent.x)=true→∀ e∈As,∃ d,e.x=.dat .ow d
  | [],_,_,h=>nomatch h
  | ⟨v,x,F⟩::As,h,e,he=>by
    rw [List.map_cons] at h
    have hx:(∃ d,x=.dat .ow d)∧allOw (As.map Ent.x)=true:=by
      cases x with
      | dat m d=>cases m <;> first | exact ⟨⟨d,rfl⟩,h⟩ | cases h
      | _=>cases h
    rcases List.mem_cons.mp he with rfl | he
    · exact hx.1
    · exact allOw_dat hx.2 e he
theorem noPk_dat:∀ {As:List Ent},noPk (As.map Ent.x)=true→∀ e∈As,isPk e.x=false
  | [],_,_,h=>nomatch h
  | ⟨v,x,F⟩::As,h,e,he=>by
    rw [List.map_cons] at h
    have hx:isPk x=false∧noPk (As.map Ent.x)=true:=by
      cases x with
      | dat m d=>cases m <;> first | exact ⟨rfl,h⟩ | cases h
      | _=>cases h
    rcases List.mem_cons.mp he with rfl | he
    · exact hx.1
    · exact noPk_dat hx.2 e he
theorem nodup_flat:∀ {As:List Ent},(∀ e∈As,∃ d,e.x=.dat .ow d)→(∀ e∈As,EntOk K H n e)→As.Pairwise SepR→(As.flatMap Ent.F).Nodup
  | [],_,_,_=>List.nodup_nil
  | ent::As,ho,ok,hs=>by
    rw [List.flatMap_cons]
    have hc:=List.pairwise_cons.mp hs
    obtain ⟨v,x,F⟩:=ent
    obtain ⟨d,hd⟩:=ho _ List.mem_cons_self
    have hd':x=.dat .ow d:=hd
    subst hd'
    obtain ⟨w,_,_,hn,_⟩:=ok _ List.mem_cons_self
    refine List.nodup_append.mpr ⟨hn rfl,nodup_flat (fun e he=>ho e (List.mem_cons_of_mem _ he)) (fun e he=>ok e (List.mem_cons_of_mem _ he)) hc.2,fun a ha b hb z=>?_⟩
    subst z
    obtain ⟨f,hf,hb⟩:=List.mem_flatMap.mp hb
    obtain ⟨d',hd'⟩:=ho f (List.mem_cons_of_mem _ hf)
    exact (hc.1 f hf).1 (.inl (by rw [hd']; rfl)) a ha hb
theorem At.pack {v:V} {d:PyData} {N:List Addr} {H':Hp} {top:Md} (h:At K H0 X n (S++(As++T)) H) (s:Same H H') (hN:∀ a∈N,H a=none) (ndN:N.Nodup) (htop:(top=.tp∧N.length=1)∨(top=.sh∧N=[])) (r:RdF K H' v d (N++As.flatMap Ent.F)):At K H0 X n (S++⟨some v,.dat (pkMd top (As.map Ent.x)) d,N++As.flatMap Ent.F⟩::T) H':=by
  have hp:(S++(As++T)).Perm (As++(S++T)):=by
    rw [← List.append_assoc,← List.append_assoc]
    exact List.perm_append_comm.append_right T
  have h2:=h.perm hp
  have hs:=List.pairwise_append.mp h2.sep
  have h1:=(h.dropL).grow (n':=n) s (Nat.le_refl _)
  have nN:∀ a∈N,∀ f∈As++(S++T),a∉f.F:=fun a ha f hf=>h2.free (hN a ha) f hf
  have nFlat:∀ a∈N,a∉As.flatMap Ent.F:=fun a ha z=>by
    obtain ⟨f,hf,z⟩:=List.mem_flatMap.mp z
    exact nN a ha f (List.mem_append_left _ hf) z
  have cs:∀ a∈cells ⟨some v,.dat (pkMd top (As.map Ent.x)) d,N++As.flatMap Ent.F⟩,a∈N∨(allOw (As.map Ent.x)=true∧∃ f∈As,a∈cells f):=fun a ha=>by
    unfold pkMd at ha
    by_cases hw:allOw (As.map Ent.x)=true
    · rw [if_pos hw] at ha
      rcases List.mem_append.mp ha with z | z
      · exact .inl z
      · obtain ⟨f,hf,z⟩:=List.mem_flatMap.mp z
        obtain ⟨d',hd'⟩:=allOw_dat hw f hf
        refine .inr ⟨hw,f,hf,?_⟩
        unfold cells
        rw [hd']
        exact z
    · rw [if_neg hw] at ha
      by_cases hk:noPk (As.map Ent.x)=true
      · rw [if_pos hk] at ha
        rcases htop with ⟨rfl,h1⟩ | ⟨rfl,rfl⟩
        · match N,h1,ha with
          | [b],_,ha=>exact .inl ha
        · exact nomatch ha
      · rw [if_neg hk] at ha
        exact nomatch ha
  refine (h1.push (e:=⟨some v,.dat (pkMd top (As.map Ent.x)) d,N++As.flatMap Ent.F⟩) ⟨_,rfl,r,fun z=>?_,fun z a l e=>?_⟩ (fun f hf=>?_) fun a ha=>?_).tomid
  · have hw:allOw (As.map Ent.x)=true:=by
      unfold pkMd at z
      by_cases hw:allOw (As.map Ent.x)=true
      · exact hw
      · rw [if_neg hw] at z
        split at z
        · rcases htop with ⟨rfl,_⟩ | ⟨rfl,_⟩ <;> cases z
        · cases z
    refine List.nodup_append.mpr ⟨ndN,nodup_flat (allOw_dat hw) (fun e he=>h2.ok e (List.mem_append_left _ he)) hs.1,fun a ha b hb e=>?_⟩
    subst e
    exact nFlat a ha hb
  · have ht:top=.tp:=by
      unfold pkMd at z
      split at z
      · cases z
      · split at z
        · exact z
        · cases z
    subst ht
    rcases htop with ⟨_,h1⟩ | ⟨h1,_⟩
    · match N,h1,e,nFlat with
      | [b],_,e,nFlat =>
        cases e
        exact nFlat a List.mem_cons_self
    · cases h1
  · have hf':f∈As++(S++T):=List.mem_append_right _ hf
    refine ⟨fun hq a ha z=>?_,fun hq a ha z=>?_⟩
    · rcases cs a ha with hn | ⟨_,g,hg,hc⟩
      · exact nN a hn f hf' z
      · refine (hs.2.2 g hg f hf).1 ?_ a hc z
        rcases hq with hq | hq
        · exact .inl hq
        · cases hq
    · rcases List.mem_append.mp z with z | z
      · exact nN a z f hf' (cells_sub _ _ ha)
      · obtain ⟨g,hg,z⟩:=List.mem_flatMap.mp z
        refine (hs.2.2 g hg f hf).2 ?_ a ha z
        rcases hq with hq | hq
        · refine .inl ?_
          have hq':isPk (.dat (pkMd top (As.map Ent.x)) d)=false:=hq
          unfold pkMd at hq'
          by_cases hw:allOw (As.map Ent.x)=true
          · obtain ⟨d',hd'⟩:=allOw_dat hw g hg
            rw [hd']
            rfl
          · rw [if_neg hw] at hq'
            by_cases hk:noPk (As.map Ent.x)=true
            · exact noPk_dat hk g hg
            · rw [if_neg hk] at hq'
              cases hq'
        · exact .inr hq
  · rcases cs a ha with hn | ⟨_,g,hg,hc⟩
    · exact .inl (h2.new0 (hN a hn))
    · rcases h2.new g (List.mem_append_left _ hg) a hc with z | z
      · exact .inl z
      · obtain ⟨d',hd'⟩:=allOw_dat (by assumption) g hg
        rw [hd'] at z
        cases z.2
end
def dTup (da:DA):DE:=fun δ P=>da δ fun xs δ'=>match datas xs with
  | some ds=>ds.length≤1000∧P (.dat (pkMd .sh xs) (.tuple ds)) δ'
  | none=>False
def dLst (da:DA):DE:=fun δ P=>da δ fun xs δ'=>match datas xs with
  | some ds=>ds.length≤1000∧P (.dat (pkMd .tp xs) (.list ds)) δ'
  | none=>False
section
variable {X:Cx} {es:List Expr} {da:DA} {pos:Pos}
theorem dp_tup {x1} (h:PAD X es da):PED X (.Tuple es x1 pos) (dTup da):=by
  refine PE.imp (pe_tup h) fun σ H Q h=>?_
  obtain ⟨H0,Y,S,T,δ,P,rfl,hS,hA,hd,k⟩:=h
  refine ⟨H0,Y,S,T,δ,_,rfl,hS,hA,hd,fun xs δ' As us S' H' e1 e2 ex eu hA' p=>?_⟩
  cases q:datas xs with
  | none=>rw [q] at p; exact p.elim
  | some ds =>
    rw [q] at p
    subst ex
    have r:=datas_rd eu q fun e he=>hA'.ok e (List.mem_append_right _ (List.mem_append_left _ he))
    have hl:=r.len
    have hz:ds.length≤sizeLine:=sz p.1
    refine ⟨by omega,fun t ht=>?_⟩
    have s1:=same_new ht (.tup us)
    exact k _ δ' _ _ S' _ e1 e2 (hA'.pack (N:=[]) s1 (fun _ z=>nomatch z) List.nodup_nil (.inr ⟨rfl,rfl⟩) (.tup upd_same hz (r.kp (Kp.of s1)))) p.2
theorem dp_lst (h:PAD X es da):PED X (.List es pos) (dLst da):=by
  refine PE.imp (pe_lst h) fun σ H Q h=>?_
  obtain ⟨H0,Y,S,T,δ,P,rfl,hS,hA,hd,k⟩:=h
  refine ⟨H0,Y,S,T,δ,_,rfl,hS,hA,hd,fun xs δ' As us S' H' e1 e2 ex eu hA' p=>?_⟩
  cases q:datas xs with
  | none=>rw [q] at p; exact p.elim
  | some ds =>
    rw [q] at p
    subst ex
    have r:=datas_rd eu q fun e he=>hA'.ok e (List.mem_append_right _ (List.mem_append_left _ he))
    have hl:=r.len
    have hz:ds.length≤sizeLine:=sz p.1
    refine ⟨by omega,fun t ht=>?_⟩
    have s1:=same_new ht (.lst us)
    exact k _ δ' _ _ S' _ e1 e2 (hA'.pack (N:=[t]) s1 (fun a z=>by rw [List.mem_singleton.mp z]; exact ht) (List.nodup_cons.mpr ⟨List.not_mem_nil,List.nodup_nil⟩) (.inl ⟨rfl,rfl⟩) (.lst upd_same hz (r.kp (Kp.of s1)))) p.2
end
end DL
namespace Nd
open PySem PySem.Spec PyProof.Rows L2
section
variable {X:Cx}
def rSlTP:V→Option Int→Option Int→Hp→VK→Prop:=fun x lo hi H Q=>∃ a xs,x=.ref a∧H a=some (.tup xs)∧∀ p H',H' p=some (.tup (cutV xs lo hi))→Same H H'→Q (.ref p) H'
theorem sl_tupP:SlR X rSlTP:=by
  intro pins s σ H x v vl vu lo hi sl Q I rx hs pl pu h
  obtain ⟨a,xs,rfl,hx',q⟩:=h
  have hx:SqT X.K H a xs:=SqT.of hx'
  cases rx
  by_cases hw:HT.sIx xs.length 0 lo=0∧HT.sIx xs.length xs.length hi=xs.length
  · obtain ⟨its,r,ht,hz⟩:=I.tuple hx
    have hlen:its.toArray.size=xs.length:=by rw [List.size_toArray]; exact r.length.symm
    refine ⟨"tuple",_,PyProof.Rows.slot_tuple_getitem.lookup,ht.typeIs,?_⟩
    refine getItem_tuple_whole ht hs pl pu (by rw [hlen]; exact hw) ⟨.ref a,H,I,rfl,q a H ?_ (Same.refl _)⟩
    unfold cutV
    rw [hw.1,hw.2,List.drop_zero,Nat.sub_zero,List.take_length]
    exact hx'
  · exact sl_tup pins s σ H (.ref a) (.ref a) vl vu lo hi sl Q I rfl hs pl pu ⟨a,xs,rfl,hx,hw,fun p np=>q p _ upd_same (same_new np _)⟩
end
end Nd
namespace Nd
open PySem PySem.Spec PyProof.Rows L2
end Nd
namespace Ts
open PySem PyProof.Rows
def le (blt:Keyed→Keyed→Bool) (x y:Keyed):Prop:=blt y x=false
end Ts
namespace Ts
open PySem PyProof.Rows
end Ts
namespace Ts
open PySem PyProof.Rows
abbrev lst (p q out:Array Keyed) (i j:Nat):Array Keyed:=out++q.extract j q.size++p.extract i p.size
end Ts
namespace Ts
open PySem PyProof.Rows
end Ts
namespace Ts
open PySem PyProof.Rows
def X (xs:Array Keyed) (i:Nat):Keyed:=xs[i]?.getD (Value.none,Value.none)
end Ts
namespace Ts
open PySem PyProof.Rows
end Ts
namespace Ts
open PySem PyProof.Rows
variable {blt:Keyed→Keyed→Bool}
end Ts
namespace Ts
open PySem PyProof.Rows L2
end Ts
namespace Ts
open PySem PyProof.Rows L2
end Ts
namespace Ts
open PySem PyProof.Rows L2
end Ts
namespace DL
open PySem L2 Nd
def cutG {α:Type} (xs:List α) (lo hi:Option Int):List α:=(xs.drop (HT.sIx xs.length 0 lo)).take (HT.sIx xs.length xs.length hi - HT.sIx xs.length 0 lo)
theorem cutG_map {α β:Type} (f:α→β) (xs:List α) (lo hi:Option Int):cutG (xs.map f) lo hi=(cutG xs lo hi).map f:=by
  unfold cutG
  rw [List.length_map,List.map_take,List.map_drop]
theorem cutG_sub {α:Type} (xs:List α) (lo hi:Option Int):(cutG xs lo hi).Sublist xs:=(List.take_sublist _ _).trans (List.drop_sublist _ _)
theorem cutG_upto {α:Type} (xs:List α) (k:Nat):cutG xs none (some (k:Int))=xs.take k:=by
  unfold cutG
  rw [HT.sIx_none,HT.sIx_nat,List.drop_zero,Nat.sub_zero]
  by_cases h:k≤xs.length
  · rw [Nat.min_eq_left h]
  · rw [Nat.min_eq_right (by omega),List.take_length,List.take_of_length_le (by omega)]
section
variable {K:PySem.W.Frag} {H:Hp}
theorem RdFs.drop:∀ (n:Nat) {xs:List V} {ds:List PyData} {F:List Addr},RdFs K H xs ds F→∃ G,RdFs K H (xs.drop n) (ds.drop n) G∧G.Sublist F
  | 0,_,_,F,h=>⟨F,h,List.Sublist.refl _⟩
  | n+1,_,_,_,.nil=>⟨[],.nil,List.Sublist.refl _⟩
  | n+1,_,_,_,.cons _ t=>by
    obtain ⟨G,h1,h2⟩:=RdFs.drop n t
    exact ⟨G,h1,h2.trans (List.sublist_append_right _ _)⟩
theorem RdFs.take:∀ (n:Nat) {xs:List V} {ds:List PyData} {F:List Addr},RdFs K H xs ds F→∃ G,RdFs K H (xs.take n) (ds.take n) G∧G.Sublist F
  | 0,_,_,F,h=>⟨[],.nil,List.nil_sublist _⟩
  | n+1,_,_,_,.nil=>⟨[],.nil,List.Sublist.refl _⟩
  | n+1,_,_,_,.cons a t=>by
    obtain ⟨G,h1,h2⟩:=RdFs.take n t
    exact ⟨_,.cons a h1,(List.Sublist.refl _).append h2⟩
theorem RdFs.cut {xs:List V} {ds:List PyData} {F:List Addr} (h:RdFs K H xs ds F) (lo hi:Option Int):∃ G,RdFs K H (cutV xs lo hi) (cutG ds lo hi) G∧G.Sublist F:=by
  unfold cutV cutG
  rw [h.len]
  obtain ⟨G,h1,h2⟩:=h.drop (HT.sIx ds.length 0 lo)
  obtain ⟨G',h3,h4⟩:=h1.take (HT.sIx ds.length ds.length hi - HT.sIx ds.length 0 lo)
  exact ⟨G',h3,h4.trans h2⟩
theorem RdFs.rev:∀ {xs:List V} {ds:List PyData},RdFs K H xs ds []→RdFs K H xs.reverse ds.reverse []:=fun {xs ds} h=>by
  have : ∀ {xs:List V} {ds:List PyData} {F:List Addr},RdFs K H xs ds F→F=[]→RdFs K H xs.reverse ds.reverse []:=by
    intro xs ds F h
    induction xs generalizing ds F with
    | nil=>intro _; cases h; exact .nil
    | cons x xs ih =>
      intro e
      cases h with
      | @cons _ d _ ds F G a t =>
        obtain ⟨rfl,rfl⟩:=List.append_eq_nil_iff.mp e
        rw [List.reverse_cons,List.reverse_cons]
        exact (ih t rfl).snoc a
  exact this h rfl
theorem RdFs.ints:∀ ns:List Int,RdFs K H (ns.map V.int) (ns.map PyData.int) []
  | []=>.nil
  | n::ns=>RdFs.cons (F:=[]) (.int n) (RdFs.ints ns)
theorem RdFs.ints_inv:∀ {ns:List Int} {xs:List V} {F:List Addr},RdFs K H xs (ns.map PyData.int) F→xs=ns.map V.int∧F=[]
  | [],_,_,h=>by cases h; exact ⟨rfl,rfl⟩
  | n::ns,_,_,h=>by
    rw [List.map_cons] at h
    cases h with
    | cons a t =>
      obtain ⟨rfl,rfl⟩:=a.int_inv
      obtain ⟨rfl,rfl⟩:=RdFs.ints_inv t
      exact ⟨rfl,rfl⟩
theorem RdFs.bools_inv:∀ {ns:List Bool} {xs:List V} {F:List Addr},RdFs K H xs (ns.map PyData.bool) F→xs=ns.map V.bl∧F=[]
  | [],_,_,h=>by cases h; exact ⟨rfl,rfl⟩
  | n::ns,_,_,h=>by
    rw [List.map_cons] at h
    cases h with
    | cons a t =>
      obtain ⟨rfl,rfl⟩:=a.bl_inv
      obtain ⟨rfl,rfl⟩:=RdFs.bools_inv t
      exact ⟨rfl,rfl⟩
end
theorem immAll_app {a b:List PyData}:immAll (a++b)=(immAll a && immAll b):=by
  induction a with
  | nil=>simp [immAll]
  | cons x a ih=>simp [immAll,ih,Bool.and_assoc]
theorem immAll_ints (ns:List Int):immAll (ns.map PyData.int)=true:=immAll_map (fun _=>by simp [imm]) ns
def rdCat:D2:=fun x y P=>match x,y with
  | .dat _ (.list ds),.dat _ (.list es)=>immAll ds=true∧immAll es=true∧ds.length+es.length≤1000000∧P (.dat .ow (.list (ds++es)))
  | _,_=>False
def rdRep:D2:=fun x y P=>match x,y with
  | .dat _ (.list ds),.dat _ (.int k)=>immAll ds=true ∧ -1000000≤k∧k≤1000000∧ds.length * k.toNat≤1000000∧P (.dat .ow (.list (List.replicate k.toNat ds).flatten))
  | _,_=>False
section
variable {K:PySem.W.Frag}
theorem os_cat:OpS K rCat rdCat:=by
  intro H0 X n S T x y v w F G H Q P hA hd k
  unfold rdCat at hd
  split at hd
  · obtain ⟨i1,i2,hz,p⟩:=hd
    obtain ⟨b,ys,G1,rfl,hb,rb,_,_⟩:=(hA.told mem_mid).list_inv
    obtain ⟨a,xs,G2,rfl,ha,ra,_,_⟩:=(hA.told mem_mid2).list_inv
    have l1:=ra.len
    have l2:=rb.len
    refine ⟨a,b,xs,ys,rfl,rfl,ha,hb,sz2 (by omega),fun q hq=>?_⟩
    exact k _ _ _ _ (hA.drop2.newI (ra.app rb) (by rw [immAll_app,i1,i2]; rfl) (by rw [List.length_append]; exact sz2 (by omega)) hq .ow) p
  · exact hd.elim
end
section
variable {X:Cx} {a b:Expr} {da db:DE} {pos:Pos}
theorem dp_cat (ha:PED X a da) (hb:PED X b db):PED X (.BinOp a .Add b pos) (dOp rdCat da db):=dp_op op_cat os_cat ha hb
end
abbrev DO:=DS→(Option Int→DS→Prop)→Prop
def LO (K:PySem.W.Frag) (do_:DO):TO:=fun σ H Q=>∃ (H0:Hp) (X:Addr→Prop) (S T:List Ent) (δ:DS) (P:Option Int→DS→Prop),vs S=σ∧Sl S δ∧At K H0 X δ.n (S++T) H∧do_ δ P ∧
  ∀ o δ' S' H',vs S'=σ→Sl S' δ'→At K H0 X δ'.n (S'++T) H'→P o δ'→Q o H'
abbrev POD (X:Cx) (e:Option Expr) (d:DO):Prop:=PO X e (LO X.K d)
theorem PO.imp {X:Cx} {e:Option Expr} {t t':TO} (h:PO X e t) (k:∀ σ H Q,t' σ H Q→t σ H Q):PO X e t':=fun pins s σ H Q I q=>h pins s σ H Q I (k σ H Q q)
def dNoPart:DO:=fun δ P=>P none δ
def dPart (de:DE):DO:=fun δ P=>de δ fun x δ'=>match x with
  | .dat _ (.int i)=>P (some i) δ'
  | _=>False
section
variable {X:Cx} {e:Expr} {de:DE} {lo hi:Option Expr} {dl dh:DO} {pos p2:Pos}
theorem dpo_none:POD X none dNoPart:=by
  refine PO.imp po_none fun σ H Q h=>?_
  obtain ⟨H0,Y,S,T,δ,P,rfl,hS,hA,hd,k⟩:=h
  exact k _ δ S H rfl hS hA hd
theorem dpo_some (h:PED X e de):POD X (some e) (dPart de):=by
  refine PO.imp (po_some h) fun σ H Q h=>?_
  obtain ⟨H0,Y,S,T,δ,P,rfl,hS,hA,hd,k⟩:=h
  refine ⟨H0,Y,S,T,δ,_,rfl,hS,hA,hd,fun x δ' v F S' H' e1 e2 hA' p=>?_⟩
  split at p
  · obtain ⟨rfl,_⟩:=(hA'.told mem_mid).int_inv
    exact ⟨_,rfl,k _ δ' S' H' e1 e2 hA'.drop p⟩
  · exact p.elim
def dSl (i:Bool) (de:DE) (dl dh:DO):DE:=fun δ P=>de δ fun x δ1=>dl δ1 fun l δ2=>dh δ2 fun h δ3=>match x with
  | .dat m (.list ds)=>nlist i m (cutG ds l h) fun z=>P z δ3
  | .dat m (.tuple ds)=>ntup i m (cutG ds l h) fun z=>P z δ3
  | _=>False
def rSlD (K:PySem.W.Frag):V→Option Int→Option Int→Hp→VK→Prop:=fun x lo hi H Q=>rSlL K x lo hi H Q∨rSlTP x lo hi H Q
theorem dp_slice {i:Bool} (he:PED X e de) (hl:POD X lo dl) (hh:POD X hi dh):PED X (.Subscript e (.Slice lo hi none p2) pos) (dSl i de dl dh):=by
  refine PE.imp (pe_slice (r:=rSlD X.K) (sl_list.or sl_tupP) he hl hh) fun σ H Q h=>?_
  obtain ⟨H0,Y,S,T,δ,P,rfl,hS,hA,hd,k⟩:=h
  refine ⟨H0,Y,S,T,δ,_,rfl,hS,hA,hd,fun x δ1 v F S1 H1 e1 e2 hA1 p1=>?_⟩
  refine ⟨H0,Y,S1,⟨some v,x,F⟩::T,δ1,_,e1,e2,hA1,p1,fun l δ2 S2 H2 e3 e4 hA2 p2=>?_⟩
  refine ⟨H0,Y,S2,⟨some v,x,F⟩::T,δ2,_,e3,e4,hA2,p2,fun h δ3 S3 H3 e5 e6 hA3 p3=>?_⟩
  split at p3
  · obtain ⟨a,xs,G,rfl,ha,ra,rfl,hz⟩:=(hA3.told mem_mid).list_inv
    refine .inl ⟨a,xs,rfl,SqL.of ha,fun p hp=>?_⟩
    obtain ⟨G',h1,h2⟩:=ra.cut l h
    obtain ⟨z,F',hA4,p4⟩:=hA3.newL h1 (h2.trans (List.sublist_cons_self _ _)) (Nat.le_trans (cutG_sub _ _ _).length_le hz) hp p3
    exact k z δ3 _ F' S3 _ e5 e6 hA4 p4
  · obtain ⟨a,xs,rfl,ha,ra,hz⟩:=(hA3.told mem_mid).tup_inv
    refine .inr ⟨a,xs,rfl,ha,fun p H' hp s1=>?_⟩
    obtain ⟨G',h1,h2⟩:=ra.cut l h
    obtain ⟨z,F',hA4,p4⟩:=(hA3.grow s1 (Nat.le_refl _)).oldT (h1.kp (Kp.of s1)) h2 (Nat.le_trans (cutG_sub _ _ _).length_le hz) hp p3
    exact k z δ3 _ F' S3 _ e5 e6 hA4 p4
  · exact p3.elim
def dRevL (de:DE):DE:=fun δ P=>de δ fun x δ1=>match x with
  | .dat _ (.list ds)=>immAll ds=true∧P (.dat .ow (.list ds.reverse)) δ1
  | _=>False
theorem immAll_rev {ds:List PyData} (h:immAll ds=true):immAll ds.reverse=true:=immAll_iff.mpr fun x hx=>immAll_iff.mp h x (List.mem_reverse.mp hx)
theorem dp_revL {k:Expr} {tk:TE} (he:PED X e de) (hk:PE X k tk) (htk:∀ σ H Q,Q (.int (-1)) H→tk σ H Q):PED X (.Subscript e (.Slice none none (some k) p2) pos) (dRevL de):=by
  refine PE.imp (pe_revL he hk htk) fun σ H Q h=>?_
  obtain ⟨H0,Y,S,T,δ,P,rfl,hS,hA,hd,kk⟩:=h
  refine ⟨H0,Y,S,T,δ,_,rfl,hS,hA,hd,fun x δ1 v F S1 H1 e1 e2 hA1 p1=>?_⟩
  split at p1
  · obtain ⟨a,xs,G,rfl,ha,ra,rfl,hz⟩:=(hA1.told mem_mid).list_inv
    obtain rfl:=ra.imm p1.1
    refine ⟨a,xs,rfl,SqL.of ha,fun p hp=>?_⟩
    exact kk _ δ1 _ _ S1 _ e1 e2 (hA1.drop.newI ra.rev (immAll_rev p1.1) (by rw [List.length_reverse]; exact hz) hp .ow) p1.2
  · exact p1.elim
end
end DL
namespace NdS
open PySem PyProof.Rows
section
variable {prog:Program} {w:World} {A:Around} {R:Result→Shared→Prop}
theorem upd_loopL {U:List Int} (hU:U.length≤62) {a it l:Addr} (n1:a≠it) (n2:a≠l) (n3:l≠it) {items:Array Value} {ns:List Int} (hI:IntsAre items.toList ns) (hN:Among U ns) (hh:A.in1.handled=none):∀ (k i:Nat) (s:Shared) (es:Array (Int×Value)) (ep:Nat) (t:SetTable),items.size - i=k→i≤items.size→s.heap.IsListIter it l i→s.heap.IsList l items→SetS w s.heap a es ep t→Among U (keys es)→(∀ es' ep' t' h' tk,(∀ b o,b≠a→b≠it→s.heap.get? b=some o→h'.get? b=some o)→SetS w h' a es' ep' t'→(∀ x,x∈keys es'↔x∈keys es∨x∈ns.drop i)→R (.ok (.ret .none)) { s with heap:=h',toks:=tk })→codeAny (model prog w) A (.builtin "set.update.loop" ⟨[.ref a,.ref it],[]⟩) R s:=by
  have len:ns.length=items.size:=by rw [← hI.length,Array.length_toList]
  intro k
  induction k with
  | zero =>
    intro i s es ep t hk hi hit hl S hu hR
    have e:i=items.size:=by omega
    refine codeAny_builtin PyProof.Rows.F.entry_set_update_loop ?_
    rw [Around.under_plainId PyProof.Rows.F.plain_set_update_loop _]
    show wpAny _ A.in1 (pyNext (.ref it) >>= _) _ _ s
    refine wpAny_bind (wpAny_pyNext_list_end hh hit hl (by rw [e]; simp) fun h' x=>?_)
    refine wpAny_pure (hR es ep t h' s.toks (fun b o _ q e=>x b o q e) (S.keep fun o q=>x a o n1 q) fun x=>?_)
    rw [e,← len,List.drop_length]
    simp
  | succ k ih =>
    intro i s es ep t hk hi hit hl S hu hR
    have lt:i<items.size:=by omega
    have lt':i<ns.length:=by omega
    obtain ⟨tk,ev⟩:=IntsAre.int_at hI i items[i] (by simp [lt])
    have eg:ns.getD i 0=ns[i]:=by simp [List.getD,lt']
    rw [eg] at ev
    refine codeAny_builtin PyProof.Rows.F.entry_set_update_loop ?_
    rw [Around.under_plainId PyProof.Rows.F.plain_set_update_loop _]
    show wpAny _ A.in1 (pyNext (.ref it) >>= _) _ _ s
    refine wpAny_bind (wpAny_pyNext_list_item hit hl (x:=items[i]) (by simp [lt]) fun h1 hit1 sb1=>?_)
    rw [ev]
    show wpAny _ A.in1 (holding [Value.int ns[i] tk] (setAdd a (.int ns[i] tk)) >>= _) _ _ _
    refine wpAny_bind (wpAny_holding ?_)
    unfold setAdd
    refine wpAny_holding (wpAny_bind ((intKind prog w).pyHash (k:=ns[i]) (intKind_is _ _ _ _) ?_))
    have S1:SetS w h1 a es ep t:=S.keep fun o q=>(sb1.2 a n1).trans q
    have z:=hu.size S1.nd
    refine add_ok (s:={ s with heap:=h1,toks:=s.toks+1 }) S1 (by omega) fun b es2 ep2 t2 h2 sb2 S2 p2=>?_
    have m2:∀ x,x∈keys es2↔x=ns[i]∨x∈keys es:=fun x=>by rw [p2.mem_iff,mem_ins]
    refine wpAny_pure ⟨plainId_quiet PyProof.Rows.F.plain_set_update_loop _,?_⟩
    refine ih (i+1) { s with heap:=h2,toks:=s.toks+1 } es2 ep2 t2 (by omega) lt ?_ ?_ S2 (fun x hx=>?_) fun es3 ep3 t3 h3 tk3 k3 S3 m3=>?_
    · obtain ⟨o,ho,r⟩:=hit1
      exact ⟨o,(sb2.2 it (Ne.symm n1)).trans ho,r⟩
    · obtain ⟨o,ho,r⟩:=hl
      exact ⟨o,(sb2.2 l (Ne.symm n2)).trans ((sb1.2 l n3).trans ho),r⟩
    · rcases (m2 x).mp hx with q | q
      · rw [q]; exact hN _ (List.getElem_mem lt')
      · exact hu x q
    · refine hR es3 ep3 t3 h3 tk3 (fun b o q1 q2 e=>k3 b o q1 q2 ((sb2.2 b q1).trans ((sb1.2 b q2).trans e))) S3 fun x=>?_
      rw [m3,m2,List.drop_eq_getElem_cons lt',List.mem_cons]
      constructor
      · rintro ((q | q) | q)
        · exact .inr (.inl q)
        · exact .inl q
        · exact .inr (.inr q)
      · rintro (q | q | q)
        · exact .inl (.inr q)
        · exact .inl (.inl q)
        · exact .inr q
end
section
variable {prog:Program} {w:World} {A:Around} {E:Value→Shared→Prop} {s:Shared}
theorem set_lst {U:List Int} (hU:U.length≤62) {l:Addr} {items:Array Value} {ns:List Int} {Q:Value→Shared→Prop} (hh:A.handled=none) (hl:s.heap.IsList l items) (hI:IntsAre items.toList ns) (hN:Among U ns) (h:∀ es ep t h' tk,(∀ b o,s.heap.get? b=some o→h'.get? b=some o)→SetS w h' s.heap.objs.size es ep t→(∀ x,x∈keys es↔x∈ns)→Q (.ref s.heap.objs.size) { s with heap:=h',toks:=tk }):wpAny (model prog w) A (call (.type "set") [.ref l]) Q E s:=by
  obtain ⟨c,tl,hmro⟩:=PySem.F.called_set.mro
  have hmade:=PySem.F.called_set.made
  have hsub:=PySem.F.called_set.sub
  have h1:=PySem.F.called_set.notType
  have h2:=PySem.F.called_set.canCreate
  have hct:=PySem.F.typeCall_set_1 (.ref l)
  refine wpAny_call (codeAny_of_tree (show wpAny _ _ (callAny (.type "set") _) _ _ _ from ?_))
  refine wpAny_pure ⟨Code.quiet_builtin _ (by decide +kernel),codeAny_builtin PySem.F.entry_type_call ?_⟩
  rw [Around.under_plain (weight_type_call_type "set" [.ref l] []) rfl]
  repeat (any_goals (first | assumption | wp_step))
  refine codeAny_mono (new_code (.ref l) (E:=E) (Q:=fun v s1=>v=.ref s.heap.objs.size∧s1={ s with heap:=s.heap.push (setObj #[] 0 (.fresh 0 0 (!bt w))) }) ⟨rfl,rfl⟩) fun r s1 hr=>?_
  rcases r with e | (_ | _ | _ | v)
  · exact hr
  · exact hr.elim
  · exact hr.elim
  · exact hr.elim
  obtain ⟨rfl,rfl⟩:=hr
  have S0:=fresh_set (w:=w) (h:=s.heap)
  have T0:Shared.TypeIs { s with heap:=s.heap.push (setObj #[] 0 (.fresh 0 0 (!bt w))) } (.ref s.heap.objs.size) "set" := ⟨_,S0.obj,rfl⟩
  have hli:=PySem.F.called_set.init.lookup
  have hbi:=PySem.F.called_set.init.bind (.ref s.heap.objs.size)
  repeat (any_goals (first | assumption | wp_step))
  refine codeAny_mono (codeAny_call_builtin (R:=wants (fun r s2=>r=.none∧∃ es ep t h' tk,s2={ s with heap:=h',toks:=tk }∧(∀ b o,s.heap.get? b=some o→h'.get? b=some o)∧SetS w h' s.heap.objs.size es ep t∧∀ x,x∈keys es↔x∈ns) E)
    PySem.F.called_set.init.plain PySem.F.entry_set_init (check_set_init_1 T0 ?_)) fun r s2 hr=>?_
  · obtain ⟨⟨oc,od,odt,osl⟩,ho,hc,n,hd⟩:=id hl
    have hc':oc=.type "list" := hc
    have hd':odt=.seq items n:=hd
    subst hc' hd'
    have ho':=Heap.get?_push_of_some (setObj #[] 0 (.fresh 0 0 (!bt w))) ho
    have hl1:(s.heap.push (setObj #[] 0 (.fresh 0 0 (!bt w)))).IsList l items:=⟨_,ho',rfl,n,rfl⟩
    have f1:=PySem.F.sub_list_set
    have f2:=PySem.F.sub_list_frozenset
    have f3:(Value.type "list" == Value.type "dict")=false:=by decide
    have lt:=Heap.lt_size ho
    unfold Builtin.«set.__init__» noKeywords Builtin.Frozenset.updateFrom
    generalize hPI:pyIter=PI
    wp_walk
    subst hPI
    refine wpAny_pyIter_list hl1 (wpAny_bind (wpAny_runValue ?_))
    have sz:(s.heap.push (setObj #[] 0 (.fresh 0 0 (!bt w)))).objs.size=s.heap.objs.size+1:=Heap.size_push _ _
    have g1:((s.heap.push (setObj #[] 0 (.fresh 0 0 (!bt w)))).push { cls:=.type "list_iterator",data:=.fields #[.ref l,.int 0 0] }).get? (s.heap.push (setObj #[] 0 (.fresh 0 0 (!bt w)))).objs.size=some { cls:=.type "list_iterator",data:=.fields #[.ref l,.int 0 0] }:=Heap.get?_push_size _ rfl
    refine upd_loopL hU (by rw [sz]; exact Nat.ne_of_lt (Nat.lt_succ_self _)) (Nat.ne_of_gt lt) (by rw [sz]; exact Nat.ne_of_lt (Nat.lt_succ_of_lt lt)) hI hN (by simp [hh]) (items.size - 0) 0 _ #[] 0 (.fresh 0 0 (!bt w)) rfl (Nat.zero_le _) ⟨_,g1,rfl,rfl⟩ ⟨_,Heap.get?_push_of_some _ ho',rfl,n,rfl⟩
      (S0.keep fun o q=>Heap.get?_push_of_some _ q) (fun x hx=>by simp at hx) fun es ep t h' tk k' S' m'=>?_
    refine wpAny_pure (wpAny_pure ⟨rfl,es,ep,t,h',tk,rfl,fun b o e=>?_,S',fun x=>?_⟩)
    · have lb:=Heap.lt_size e
      exact k' b o (Nat.ne_of_lt lb) (by rw [sz]; exact Nat.ne_of_lt (Nat.lt_succ_of_lt lb)) (Heap.get?_push_of_some _ (Heap.get?_push_of_some _ e))
    · rw [m',List.drop_zero]
      simp
  · rcases r with e | (_ | _ | _ | v)
    · exact hr
    · exact hr.elim
    · exact hr.elim
    · exact hr.elim
    obtain ⟨rfl,es,ep,t,h',tk,rfl,k',S',m'⟩:=hr
    repeat (any_goals (first | assumption | wp_step))
    exact h es ep t h' tk k' S' m'
end
end NdS
namespace Nd
open PySem PySem.Spec PyProof.Rows L2 NdS
def rSetL (w:World) (K:PySem.W.Frag):List V→Hp→VK→Prop:=fun xs H Q=>∃ (a:Addr) (ns U:List Int),xs=[.ref a]∧SqL K H a (ns.map V.int)∧U.length≤62∧Among U ns∧∀ p,H p=none→Q (.ref p) (upd H p (SetO w p ns))
theorem call_setL {X:Cx} (hc:X.calm=true):CallR X (.type "set") (rSetL X.w X.K):=by
  intro pins s σ H xs us Q I r h
  obtain ⟨a,ns,U,rfl,hs,hU,hN,q⟩:=h
  obtain ⟨u,rfl,ru⟩:=vals1 r
  cases ru
  obtain ⟨its,rv,pl,_⟩:=I.list hs
  refine set_lst hU (I.ok.hd hc) pl.isList (by simpa using intsAre_of rv) hN fun es ep t h' tk k S m=>?_
  exact ⟨.ref s.heap.objs.size,_,I.laid k (Nat.le_refl _) (setO_ok ⟨es,ep,t,S,m⟩),rfl,q _ (I.hok.fresh (Nat.le_refl _))⟩
end Nd
namespace DL
open PySem L2 Nd
def ins1 (x:Int):List Int→List Int
  | []=>[x]
  | y::l=>if x<y then x::y::l else if x=y then y::l else y::ins1 x l
def sset (ns:List Int):List Int:=ns.foldr ins1 []
theorem mem_ins1 {x z:Int}:∀ {l:List Int},z∈ins1 x l↔z=x∨z∈l
  | []=>by simp [ins1]
  | y::l=>by
    unfold ins1
    split
    · simp
    · split
      · rename_i h1 h2
        subst h2
        simp
      · simp only [List.mem_cons,mem_ins1 (l:=l)]
        constructor
        · rintro (h | h | h) <;> simp [h]
        · rintro (h | h | h) <;> simp [h]
theorem ins1_rise {x:Int}:∀ {l:List Int},l.Pairwise (· < ·)→(ins1 x l).Pairwise (· < ·)
  | [],_=>List.pairwise_singleton _ _
  | y::l,h=>by
    obtain ⟨h1,h2⟩:=List.pairwise_cons.mp h
    unfold ins1
    split
    · rename_i hx
      refine List.pairwise_cons.mpr ⟨fun z hz=>?_,h⟩
      rcases List.mem_cons.mp hz with rfl | hz
      · exact hx
      · exact Int.lt_trans hx (h1 z hz)
    · split
      · exact h
      · refine List.pairwise_cons.mpr ⟨fun z hz=>?_,ins1_rise h2⟩
        rcases mem_ins1.mp hz with rfl | hz
        · omega
        · exact h1 z hz
theorem sset_rise:∀ ns:List Int,(sset ns).Pairwise (· < ·)
  | []=>List.Pairwise.nil
  | n::ns=>ins1_rise (sset_rise ns)
theorem mem_sset {x:Int}:∀ {ns:List Int},x∈sset ns↔x∈ns
  | []=>Iff.rfl
  | n::ns=>by
    rw [show sset (n::ns)=ins1 n (sset ns) from rfl,mem_ins1,mem_sset (ns:=ns),List.mem_cons]
theorem sset_eq {l ns:List Int} (h:l.Pairwise (· < ·)) (m:∀ x,x∈l↔x∈ns):l=sset ns:=rising_eq h (sset_rise ns) fun x=>(m x).trans mem_sset.symm
abbrev DC:=List DV→(DV→Prop)→Prop
def CallS (K:PySem.W.Frag) (r:List V→Hp→VK→Prop) (rd:DC):Prop:=∀ (H0:Hp) (X:Addr→Prop) (n:Nat) (S T As:List Ent) (us:List V) (H:Hp) (Q:VK) (P:DV→Prop),
  As.map Ent.v=us.map some→At K H0 X n (S++(As++T)) H→rd (As.map Ent.x) P→(∀ z u F' H',At K H0 X n (S++⟨some u,z,F'⟩::T) H'→P z→Q u H')→r us H Q
def dCB (rd:DC) (da:DA):DE:=fun δ P=>da δ fun xs δ1=>rd xs fun z=>P z δ1
section
variable {X:Cx} {x:Str} {p pos:Pos} {e:Expr} {es:List Expr} {da:DA} {id T:String} {r:List V→Hp→VK→Prop} {rd:DC}
theorem cb_le {K:PySem.W.Frag} (o:CallS K r rd):∀ σ H Q,LE K (dCB rd da) σ H Q→tCB r (LA K da) σ H Q:=by
  intro σ H Q h
  obtain ⟨H0,Y,S,T,δ,P,rfl,hS,hA,hd,k⟩:=h
  refine ⟨H0,Y,S,T,δ,_,rfl,hS,hA,hd,fun xs δ' As us S' H' e1 e2 ex eu hA' p=>?_⟩
  subst ex
  exact o H0 Y δ'.n S' T As us H' Q _ eu hA' p fun z u F' H'' hA3 p3=>k z δ' u F' S' H'' e1 e2 hA3 p3
theorem dp_callB (hc:CallR X (.builtin id) r) (o:CallS X.K r rd) (hg:Gl X x) (hm:X.mg x=none) (hv:bootBuiltins x=some (.builtin id)) (ha:PAD X (e::es) da) (hn:x ≠ "__name__" := by decide) (hdb:(x == ("__debug__" : Str))=false:=by decide) (he:starEach (e::es) X.env=(false,eval e X.env)::starEach es X.env:=by rfl) (hpl:(backTo pos (starEach es X.env)).any (·.1)=false:=by rfl):PED X (.Call (.Name x p) (e::es) [] pos) (dCB rd da) :=
  PE.imp (pe_callB hc hg hm hv ha hn hdb he hpl) (cb_le o)
theorem dp_callTy (hc:CallR X (.type T) r) (o:CallS X.K r rd) (hg:Gl X x) (hm:X.mg x=none) (hv:bootBuiltins x=some (.type T)) (ha:PAD X (e::es) da) (hn:x ≠ "__name__" := by decide) (hdb:(x == ("__debug__" : Str))=false:=by decide) (he:starEach (e::es) X.env=(false,eval e X.env)::starEach es X.env:=by rfl) (hpl:(backTo pos (starEach es X.env)).any (·.1)=false:=by rfl):PED X (.Call (.Name x p) (e::es) [] pos) (dCB rd da) :=
  PE.imp (pe_callTy hc hg hm hv ha hn hdb he hpl) (cb_le o)
end
theorem map1 {α β:Type} {f:α→β} {l:List α} {x:β} (h:l.map f=[x]):∃ a,l=[a]∧f a=x:=by
  cases l with
  | nil=>cases h
  | cons a t =>
    obtain ⟨h1,h2⟩:=List.cons.inj h
    exact ⟨a,by rw [List.map_eq_nil_iff.mp h2],h1⟩
theorem map2 {α β:Type} {f:α→β} {l:List α} {x y:β} (h:l.map f=[x,y]):∃ a b,l=[a,b]∧f a=x∧f b=y:=by
  cases l with
  | nil=>cases h
  | cons a t =>
    obtain ⟨h1,h2⟩:=List.cons.inj h
    obtain ⟨b,rfl,h3⟩:=map1 h2
    exact ⟨a,b,rfl,h1,h3⟩
theorem one_arg {K:PySem.W.Frag} {H0 H:Hp} {X:Addr→Prop} {n:Nat} {S T As:List Ent} {us:List V} {x:DV} (eu:As.map Ent.v=us.map some) (hA:At K H0 X n (S++(As++T)) H) (ex:As.map Ent.x=[x]):∃ v F,us=[v]∧At K H0 X n (S++⟨some v,x,F⟩::T) H:=by
  obtain ⟨⟨v,y,F⟩,rfl,h1⟩:=map1 ex
  obtain ⟨u,rfl,h2⟩:=map1 eu.symm
  have h1':y=x:=h1
  have h2':some u=v:=h2
  subst h1' h2'
  exact ⟨u,F,rfl,hA⟩
theorem two_args {K:PySem.W.Frag} {H0 H:Hp} {X:Addr→Prop} {n:Nat} {S T As:List Ent} {us:List V} {x y:DV} (eu:As.map Ent.v=us.map some) (hA:At K H0 X n (S++(As++T)) H) (ex:As.map Ent.x=[x,y]):∃ v F w G,us=[v,w]∧At K H0 X n (S++⟨some v,x,F⟩::⟨some w,y,G⟩::T) H:=by
  obtain ⟨⟨v,x',F⟩,⟨w,y',G⟩,rfl,h1,h2⟩:=map2 ex
  obtain ⟨u,u',rfl,h3,h4⟩:=map2 eu.symm
  have h1':x'=x:=h1
  have h2':y'=y:=h2
  have h3':some u=v:=h3
  have h4':some u'=w:=h4
  subst h1' h2' h3' h4'
  exact ⟨u,F,u',G,rfl,hA⟩
def rdLen:DC:=fun xs P=>match xs with
  | [.dat _ (.list ds)]=>P (.dat .ow (.int ds.length))
  | [.dat _ (.tuple ds)]=>P (.dat .ow (.int ds.length))
  | [.dat _ (.str z)]=>z.length≤1000000∧P (.dat .ow (.int z.length))
  | _=>False
def rdList (i:Bool):DC:=fun xs P=>match xs with
  | [.dat m (.list ds)]=>nlist i m ds P
  | [.dat m (.tuple ds)]=>nlist i m ds P
  | _=>False
def rdTuple (i:Bool):DC:=fun xs P=>match xs with
  | [.dat m (.list ds)]=>ntup i m ds P
  | [.dat m (.tuple ds)]=>P (.dat m (.tuple ds))
  | _=>False
def rdInt:DC:=fun xs P=>match xs with
  | [.dat _ (.int i)]=>P (.dat .ow (.int i))
  | [.dat _ (.bool b)]=>P (.dat .ow (.int (if b=true then 1 else 0)))
  | _=>False
def rdMax2:DC:=fun xs P=>match xs with
  | [.dat _ (.int i),.dat _ (.int j)]=>P (.dat .ow (.int (if j > i then j else i)))
  | _=>False
def rdMin2:DC:=fun xs P=>match xs with
  | [.dat _ (.int i),.dat _ (.int j)]=>P (.dat .ow (.int (if j<i then j else i)))
  | _=>False
def rdMinL:DC:=fun xs P=>match xs with
  | [.dat _ (.list ds)]=>∃ ns:List Int,ds=ns.map PyData.int∧ns≠[]∧∀ M∈ns,(∀ x∈ns,M≤x)→P (.dat .ow (.int M))
  | _=>False
def rdAll:DC:=fun xs P=>match xs with
  | [.dat _ (.list ds)]=>∃ bs:List Bool,ds=bs.map PyData.bool∧P (.dat .ow (.bool (bs.all id)))
  | _=>False
def tyD:PyData→String
  | .none => "NoneType"
  | .bool _ => "bool"
  | .int _ => "int"
  | .str _ => "str"
  | .list _ => "list"
  | .tuple _ => "tuple"
  | .dict _ => "dict"
def isiD (d:PyData) (n:String):Bool:=tyD d == n || (tyD d == "bool" && n == "int")
def rdIsi:DC:=fun xs P=>match xs with
  | [.dat _ d,.val (.ty n)]=>(n = "int" ∨ n = "bool" ∨ n = "str" ∨ n = "list" ∨ n = "tuple")∧P (.dat .ow (.bool (isiD d n)))
  | _=>False
def rdStr:DC:=fun xs P=>match xs with
  | [.dat _ d]=>(∃ b,b≤400∧Fits b d∧(b+12) * nodes d≤sizeLine)∧d.depth≤90∧P (.dat .ow (.str (textOf d)))
  | _=>False
section
variable {K:PySem.W.Frag}
theorem cs_len:CallS K (fun xs H Q=>∃ x n,xs=[x]∧LenV K x H n∧Q (.int n) H) rdLen:=by
  intro H0 X n S T As us H Q P eu hA hd k
  unfold rdLen at hd
  split at hd
  · rename_i ex
    obtain ⟨v,F,rfl,hA⟩:=one_arg eu hA ex
    obtain ⟨a,xs,G,rfl,ha,ra,_,_⟩:=(hA.told mem_mid).list_inv
    exact ⟨_,_,rfl,.inl ⟨xs,SqL.of ha,ra.len.symm⟩,k _ _ [] H (hA.drop.pushI (.int _)) hd⟩
  · rename_i ex
    obtain ⟨v,F,rfl,hA⟩:=one_arg eu hA ex
    obtain ⟨a,xs,rfl,ha,ra,_⟩:=(hA.told mem_mid).tup_inv
    exact ⟨_,_,rfl,.inr ⟨xs,SqT.of ha,ra.len.symm⟩,k _ _ [] H (hA.drop.pushI (.int _)) hd⟩
  · rename_i ex
    obtain ⟨v,F,rfl,hA⟩:=one_arg eu hA ex
    obtain ⟨rfl,_⟩:=(hA.told mem_mid).str_inv
    exact ⟨_,_,rfl,⟨sz2 hd.1,rfl⟩,k _ _ [] H (hA.drop.pushI (.int _)) hd.2⟩
  · exact hd.elim
theorem cs_tuple {i:Bool}:CallS K (rTupC K) (rdTuple i):=by
  intro H0 X n S T As us H Q P eu hA hd k
  unfold rdTuple at hd
  split at hd
  · rename_i ex
    obtain ⟨v,F,rfl,hA⟩:=one_arg eu hA ex
    obtain ⟨a,xs,G,rfl,ha,ra,rfl,hz⟩:=(hA.told mem_mid).list_inv
    refine ⟨a,xs,rfl,.inl ⟨SqL.of ha,fun l hl=>?_⟩⟩
    obtain ⟨z,F',h1,h2⟩:=hA.newT ra (List.sublist_cons_self _ _) hz hl hd
    exact k _ _ _ _ h1 h2
  · rename_i ex
    obtain ⟨v,F,rfl,hA⟩:=one_arg eu hA ex
    obtain ⟨a,xs,rfl,ha,ra,hz⟩:=(hA.told mem_mid).tup_inv
    exact ⟨a,xs,rfl,.inr ⟨SqT.of ha,k _ _ F H hA hd⟩⟩
  · exact hd.elim
theorem cs_int:CallS K (fun xs H Q=>(∃ i,xs=[V.int i]∧Q (.int i) H)∨∃ k,xs=[V.bl k]∧Q (.int (if k then 1 else 0)) H) rdInt:=by
  intro H0 X n S T As us H Q P eu hA hd k
  unfold rdInt at hd
  split at hd
  · rename_i ex
    obtain ⟨v,F,rfl,hA⟩:=one_arg eu hA ex
    obtain ⟨rfl,_⟩:=(hA.told mem_mid).int_inv
    exact .inl ⟨_,rfl,k _ _ [] H (hA.drop.pushI (.int _)) hd⟩
  · rename_i ex
    obtain ⟨v,F,rfl,hA⟩:=one_arg eu hA ex
    obtain ⟨rfl,_⟩:=(hA.told mem_mid).bl_inv
    exact .inr ⟨_,rfl,k _ _ [] H (hA.drop.pushI (.int _)) hd⟩
  · exact hd.elim
theorem cs_min2:CallS K (fun xs H Q=>∃ i j,xs=[V.int i,V.int j]∧Q (.int (if j<i then j else i)) H) rdMin2:=by
  intro H0 X n S T As us H Q P eu hA hd k
  unfold rdMin2 at hd
  split at hd
  · rename_i ex
    obtain ⟨v,F,w,G,rfl,hA⟩:=two_args eu hA ex
    obtain ⟨rfl,_⟩:=(hA.told mem_mid).int_inv
    obtain ⟨rfl,_⟩:=(hA.told mem_mid2).int_inv
    exact ⟨_,_,rfl,k _ _ [] H (hA.drop2.pushI (.int _)) hd⟩
  · exact hd.elim
theorem cs_all:CallS K (fun xs H Q=>∃ (p:Addr) (bs:List Bool),xs=[.ref p]∧SqL K H p (bs.map V.bl)∧Q (.bl (bs.all id)) H) rdAll:=by
  intro H0 X n S T As us H Q P eu hA hd k
  unfold rdAll at hd
  split at hd
  · rename_i ex
    obtain ⟨v,F,rfl,hA⟩:=one_arg eu hA ex
    obtain ⟨bs,rfl,h1⟩:=hd
    obtain ⟨a,xs,G,rfl,ha,ra,rfl,hz⟩:=(hA.told mem_mid).list_inv
    obtain ⟨rfl,_⟩:=ra.bools_inv
    exact ⟨a,bs,rfl,SqL.of ha,k _ _ [] H (hA.drop.pushI (.bl _)) h1⟩
  · exact hd.elim
theorem kit_sub {T n:String} {b:Bool} (h1:(Value.type T == Value.type n)=false) (h2:PySem.W.kitMeta n=true) (h3:(fastBuiltinMro T).map (fun x=>x.contains (Value.type n))=some b):PySem.W.kitOne K (.type T) (.type n)=some b:=kit_bb h1 h2 h3
theorem kit_isi {d:PyData} {n:String} (hn:n = "int" ∨ n = "bool" ∨ n = "str" ∨ n = "list" ∨ n = "tuple"):PySem.W.kitOne K (.type (tyD d)) (.type n)=some (isiD d n):=by
  have main:∀ T:String,(T = "NoneType" ∨ T = "bool" ∨ T = "int" ∨ T = "str" ∨ T = "list" ∨ T = "tuple" ∨ T = "dict")→PySem.W.kitOne K (.type T) (.type n)=some (T == n || (T == "bool" && n == "int")):=by
    intro T hT
    rcases hT with rfl | rfl | rfl | rfl | rfl | rfl | rfl <;> rcases hn with rfl | rfl | rfl | rfl | rfl <;> first | exact kit_eq | exact kit_sub (by decide +kernel) (by decide +kernel) (by decide +kernel)
  unfold isiD
  refine main _ ?_
  cases d <;> simp [tyD]
theorem cs_isi:CallS K (rIs K) rdIsi:=by
  intro H0 X n S T As us H Q P eu hA hd k
  unfold rdIsi at hd
  split at hd
  · rename_i ex
    obtain ⟨v,F,w,G,rfl,hA⟩:=two_args eu hA ex
    have hw:w=.ty _:=Option.some.inj (hA.ok _ mem_mid2).1
    subst hw
    have r:=hA.told mem_mid
    refine ⟨v,_,.type (tyD _),_,rfl,?_,kit_isi hd.1,k _ _ [] H (hA.drop2.pushI (.bl _)) hd.2⟩
    · cases r with
      | non=>exact .non
      | bl b=>exact .bl b
      | int i=>exact .int i
      | str x=>exact .str x
      | lst h l hs=>exact .lst h
      | tup h l hs=>exact .tup h
      | dic h e hs=>exact .dT h
  · exact hd.elim
theorem cs_str:CallS K (rStr K) rdStr:=by
  intro H0 X n S T As us H Q P eu hA hd k
  unfold rdStr at hd
  split at hd
  · rename_i ex
    obtain ⟨v,F,rfl,hA⟩:=one_arg eu hA ex
    exact ⟨_,_,rfl,⟨(hA.told mem_mid).rd hd.2.1,hd.1,hd.2.1⟩,k _ _ [] H (hA.drop.pushI (.str _)) hd.2.2⟩
  · exact hd.elim
end
def dV (v:V):DE:=fun δ P=>P (.val v) δ
section
variable {X:Cx} {e:Expr}
theorem dp_val {v:V} (h:PE X e (tC v)):PED X e (dV v):=by
  refine PE.imp h fun σ H Q h=>?_
  obtain ⟨H0,Y,S,T,δ,P,rfl,hS,hA,hd,k⟩:=h
  exact k _ δ v [] S H rfl hS ((hA.push (e:=⟨some v,.val v,[]⟩) ⟨rfl,rfl⟩ (fun f _=>⟨fun _ a ha=>(nomatch ha),fun _ a _=>List.not_mem_nil⟩) (fun a ha=>(nomatch ha))).tomid) hd
theorem dp_ty {x:Str} {n:String} {pos:Pos} (hg:Gl X x) (hm:X.mg x=none) (hv:bootBuiltins x=some (.type n)) (hn:x ≠ "__name__" := by decide) (hd:(x == ("__debug__" : Str))=false:=by decide):PED X (.Name x pos) (dV (.ty n)):=dp_val (pe_bltn hg hm hv rfl hn hd)
end
def dSS (da:DA):DE:=fun δ P=>da δ fun xs δ1=>match xs with
  | [.dat _ (.list ds)]=>∃ ns:List Int,ds=ns.map PyData.int∧(∀ x∈ns,0≤x∧x<60)∧P (.dat .ow (.list ((sset ns).map PyData.int))) δ1
  | [.dat _ (.tuple ds)]=>∃ ns:List Int,ds=ns.map PyData.int∧(∀ x∈ns,0≤x∧x<60)∧P (.dat .ow (.list ((sset ns).map PyData.int))) δ1
  | _=>False
theorem sset_len {ns:List Int} (h:∀ x∈ns,0≤x∧x<60):(sset ns).length≤60 :=
  Nat.le_trans (NdS.len_leI ((sset_rise ns).imp fun {x y} h=>Int.ne_of_lt h) fun e he=>mem_U60 (h e (mem_sset.mp he)).1 (h e (mem_sset.mp he)).2) (by decide)
section
variable {X:Cx} {x y:Str} {p p2 pos pos2:Pos} {e:Expr} {da:DA}
def rSetB (w:World) (K:PySem.W.Frag):List V→Hp→VK→Prop:=fun xs H Q=>Nd.rSetL w K xs H Q∨rSet w K xs H Q
theorem call_setB (hc:X.calm=true):CallR X (.type "set") (rSetB X.w X.K):=(call_setL hc).or (call_set hc)
theorem dp_ss (hc:X.calm=true) (hg:Gl X "sorted") (hm:X.mg "sorted" = none) (hg2:Gl X "set") (hm2:X.mg "set" = none) (ha:PAD X [e] da) (he:starEach [e] X.env=[(false,eval e X.env)]:=by rfl) (he2:starEach [.Call (.Name "set" p2) [e] [] pos2] X.env=[(false,eval (.Call (.Name "set" p2) [e] [] pos2) X.env)]:=by rfl):PED X (.Call (.Name "sorted" p) [.Call (.Name "set" p2) [e] [] pos2] [] pos) (dSS da):=by
  refine PE.imp (pe_callB (call_sortedS hc) hg hm (by decide +kernel) (pa_cons (pe_callTy (call_setB hc) hg2 hm2 (by decide +kernel) ha (by decide) (by decide) he rfl) pa_nil he2) (by decide) (by decide) he2 rfl) fun σ H Q h=>?_
  obtain ⟨H0,Y,S,T,δ,P,rfl,hS,hA,hd,k⟩:=h
  refine ⟨H0,Y,S,T,δ,_,rfl,hS,hA,hd,fun xs δ' As us S' H' e1 e2 ex eu hA' p=>?_⟩
  have fin:∀ (ns:List Int) (F:List Addr) (v:V) (z:DV),At X.K H0 Y δ'.n (S'++⟨some v,z,F⟩::T) H'→(∀ x∈ns,0≤x∧x<60)→P (.dat .ow (.list ((sset ns).map PyData.int))) δ'→∀ q,H' q=none →
      tNil (vs S) (upd H' q (SetO X.w q ns)) fun xs H2=>rSorted X.w (V.ref q::xs) H2 Q:=by
    intro ns F v z hA' hb pp q hq
    refine ⟨q,ns,rfl,upd_same,fun r us nr nd pw mem=>?_⟩
    rw [sset_eq (strict_of nd pw) mem]
    have s1:=same_new hq (SetO X.w q ns)
    refine k _ δ' _ _ S' _ e1 e2 ((hA'.drop.grow s1 (Nat.le_refl _)).newI (RdFs.ints _) (immAll_ints _) (by rw [List.length_map]; exact sz (by have:=sset_len hb; omega)) nr .ow) pp
  split at p
  · obtain ⟨v,F,rfl,hA2⟩:=one_arg eu hA' ex
    obtain ⟨ns,rfl,hb,pp⟩:=p
    obtain ⟨a,xs,G,rfl,ha,ra,rfl,hz⟩:=(hA2.told mem_mid).list_inv
    obtain ⟨rfl,_⟩:=ra.ints_inv
    exact .inl ⟨a,ns,U60,rfl,SqL.of ha,by decide,fun x hx=>mem_U60 (hb x hx).1 (hb x hx).2,fin ns _ _ _ hA2 hb pp⟩
  · obtain ⟨v,F,rfl,hA2⟩:=one_arg eu hA' ex
    obtain ⟨ns,rfl,hb,pp⟩:=p
    obtain ⟨a,xs,rfl,ha,ra,hz⟩:=(hA2.told mem_mid).tup_inv
    obtain ⟨rfl,_⟩:=ra.ints_inv
    exact .inr ⟨a,ns,U60,rfl,SqT.of ha,by decide,fun x hx=>mem_U60 (hb x hx).1 (hb x hx).2,fin ns _ _ _ hA2 hb pp⟩
  · exact p.elim
end
end DL
namespace Nd
open PySem PySem.Spec PyProof.Rows L2
def Itz (K:PySem.W.Frag) (a b:Addr):It :=
  ⟨fun i H=>∃ xs ys x y,SqL K H a xs∧SqL K H b ys∧xs[i]? = some x∧ys[i]? = some y,
   fun i H x H'=>∃ p u v,x=.ref p∧H p=none∧H'=upd H p (.tup [u,v])∧(∀ xs,SqL K H a xs→xs[i]? = some u)∧∀ ys,SqL K H b ys→ys[i]? = some v,
   fun i H=>∃ xs ys,SqL K H a xs∧SqL K H b ys∧(xs.length≤i∨ys.length≤i)⟩
theorem turn_zip {P:Program} {w:World} {K:PySem.W.Frag} {elts:List Expr} {k:Nat} {pos:Pos} (a b z TI TO i1 i2:Addr) (D:ZipApart z TI TO i1 i2 a b):Turn P w K (.Tuple elts k pos) (Itz K a b) [z,TI,TO,i1,i2] z (fun i h=>IsZip h z TI TO .none∧IsPair h TI (.ref i1) (.ref i2)∧(∃ u v,IsPair h TO u v)∧h.IsListIter i1 a i∧h.IsListIter i2 b i) where
  mem:=List.mem_cons_self
  obj:=fun i h st c hc=>by
    obtain ⟨hz,hTI,⟨u,v,hTO⟩,⟨o1,e1,c1,d1⟩,⟨o2,e2,c2,d2⟩⟩:=st
    simp only [List.mem_cons,List.not_mem_nil,or_false] at hc
    rcases hc with rfl | rfl | rfl | rfl | rfl
    · exact ⟨_,hz,fun v z=>by cases z⟩
    · exact ⟨_,hTI,fun v z=>by cases z⟩
    · exact ⟨_,hTO,fun v z=>by cases z⟩
    · exact ⟨o1,e1,fun v z=>by rw [d1] at z; cases z⟩
    · exact ⟨o2,e2,fun v z=>by rw [d2] at z; cases z⟩
  keep:=fun i h h' st kp=>by
    obtain ⟨hz,hTI,⟨u,v,hTO⟩,h1,h2⟩:=st
    exact ⟨kp z (by simp) _ hz,kp TI (by simp) _ hTI,⟨u,v,kp TO (by simp) _ hTO⟩,h1.at fun o q=>kp i1 (by simp) o q,h2.at fun o q=>kp i2 (by simp) o q⟩
  item:=by
    intro X hP hw hK hc i pins s σ H E I hf st hg
    subst hP hw hK
    obtain ⟨xs,ys,x,y,hq1,hq2,hx,hy⟩:=hg
    obtain ⟨its1,rv1,p1,hz1⟩:=I.list hq1
    obtain ⟨its2,rv2,p2,hz2⟩:=I.list hq2
    obtain ⟨u1,hu1,ru1⟩:=rv1.get hx
    obtain ⟨u2,hu2,ru2⟩:=rv2.get hy
    obtain ⟨hz,hTI,⟨o1,o2,hTO⟩,hi1,hi2⟩:=st
    have zl:z<s.heap.objs.size:=Heap.lt_size hz
    have TIl:TI<s.heap.objs.size:=Heap.lt_size hTI
    have TOl:TO<s.heap.objs.size:=Heap.lt_size hTO
    have i1l:i1<s.heap.objs.size:=by obtain ⟨_,q,_⟩:=hi1; exact Heap.lt_size q
    have i2l:i2<s.heap.objs.size:=by obtain ⟨_,q,_⟩:=hi2; exact Heap.lt_size q
    refine wpAny_pyNext_zip_item D hz hTI hTO hi1 hi2 p1.isList p2.isList (x:=u1) (y:=u2) (by simpa using hu1) (by simpa using hu2) fun h1 a1 a2 a3 a4 a5 a6 hk=>⟨_,rfl,wpAny_letOwnedTupleGo_zip a1 fun h2 he2 hs2=>?_⟩
    have hs2':Heap.SameBut z h1 h2:=hs2
    have I1:Inv X pins σ (upd H s.heap.objs.size (.tup [x,y])) { s with heap:=s.heap.push { cls:=.type "tuple",data:=.seq #[u1,u2] } } :=
      I.laid (t':=s.toks) (fun b o q=>Heap.get?_push_of_some _ q) (Nat.le_refl _) ⟨by show 2≤sizeLine; decide,[u1,u2],.cons ru1 (.cons ru2 .nil),_,Heap.get?_push_size _ rfl,rfl,0,rfl⟩
    have nT:∀ c∈[z,TI,TO,i1,i2],c≠s.heap.objs.size:=fun c hc=>by
      simp only [List.mem_cons,List.not_mem_nil,or_false] at hc
      rcases hc with rfl | rfl | rfl | rfl | rfl <;> exact Nat.ne_of_lt (by assumption)
    have fr:∀ c∈[z,TI,TO,i1,i2],(upd H s.heap.objs.size (.tup [x,y])) c=none:=fun c hc=>by rw [upd_ne (nT c hc)]; exact (hf c hc).1
    refine ⟨.ref s.heap.objs.size,_,turnedL (fp:=[z,TI,TO,i1,i2]) (s:={ s with heap:=s.heap.push { cls:=.type "tuple",data:=.seq #[u1,u2] } }) (h':=h2) (t':=s.toks) I1 (fun c o hc q=>?_) (fun c hc=>⟨fr c hc,(hf c hc).2⟩),rfl,⟨_,x,y,rfl,I.hok.fresh (Nat.le_refl _),rfl,(fun zs hzs=>by rw [I.list_inj hzs hq1]; exact hx),fun zs hzs=>by rw [I.list_inj hzs hq2]; exact hy⟩,⟨he2,?_,⟨u1,u2,?_⟩,?_,?_⟩,fr⟩
    · simp only [List.mem_cons,List.not_mem_nil,or_false,not_or] at hc
      refine (hs2'.2 c hc.1).trans ?_
      by_cases hbT:c=s.heap.objs.size
      · subst hbT
        have q':=(Heap.get?_push_size s.heap (o:={ cls:=.type "tuple",data:=.seq #[u1,u2] }) rfl).symm.trans q
        rw [show h1.get? s.heap.objs.size=_ from a5]
        exact q'
      · refine hk c o hc.1 hc.2.2.1 hc.2.2.2.1 hc.2.2.2.2 ?_
        have q0:(s.heap.push { cls:=.type "tuple",data:=.seq #[u1,u2] }).get? c=some o:=q
        rcases Heap.get?_push_cases q0 with zz | zz
        · exact absurd zz.1 hbT
        · exact zz
    · exact (hs2'.2 TI D.TIz).trans (hk TI _ D.TIz D.TITO D.TIi1 D.TIi2 hTI)
    · exact (hs2'.2 TO D.TOz).trans a2
    · exact a3.at fun o q=>(hs2'.2 i1 D.i1z).trans q
    · exact a4.at fun o q=>(hs2'.2 i2 D.i2z).trans q
  done:=by
    intro X hP hw hK hc i pins s σ H E I hf st hg
    subst hP hw hK
    obtain ⟨xs,ys,hq1,hq2,hx⟩:=hg
    obtain ⟨its1,rv1,p1,hz1⟩:=I.list hq1
    obtain ⟨its2,rv2,p2,hz2⟩:=I.list hq2
    obtain ⟨hz,hTI,⟨o1,o2,hTO⟩,hi1,hi2⟩:=st
    have hl1:=rv1.length
    have hl2:=rv2.length
    refine wpAny_pyNext_zip_end (I.ok.hd hc) D hz hTI hTO hi1 hi2 p1.isList p2.isList ?_ fun h1 hk=>⟨rfl,turnedL (fp:=[z,TI,TO,i1,i2]) (t':=s.toks) I (fun c o hc q=>?_) hf⟩
    · rcases hx with h | h
      · exact .inl (by simp; omega)
      · exact .inr (by simp; omega)
    · simp only [List.mem_cons,List.not_mem_nil,or_false,not_or] at hc
      exact hk c o hc.1 hc.2.2.1 hc.2.2.2.1 hc.2.2.2.2 q
  self:=fun _ _ _ _ _ st h=>wpAny_pyIter_zip st.1 h
theorem zip_apart (I l1 l2:Nat) (h1:l1<I) (h2:l2<I):ZipApart (I+4) (I+2) (I+3) I (I+1) l1 l2:=by
  constructor <;> (intro e; have e':(_:Nat)=_:=e; omega)
section
variable {X:Cx}
def iZip (K:PySem.W.Frag) (ta:TA):TI:=fun σ H R=>ta σ H fun vs H1=>∃ a b,vs=[.ref a,.ref b]∧(∃ xs,SqL K H1 a xs)∧(∃ ys,SqL K H1 b ys)∧R (Itz K a b) H1
theorem pi_zip {elts:List Expr} {k:Nat} {tp:Pos} {a b:Expr} {ta:TA} {p pos:Pos} (hg:Gl X "zip") (hm:X.mg "zip" = none) (ha:PA X [a,b] ta) (hs:starEach [a,b] X.env=(false,eval a X.env)::starEach [b] X.env:=by rfl) (hp:(backTo pos (starEach [b] X.env)).any (·.1)=false:=by rfl):PI X (.Tuple elts k tp) (.Call (.Name "zip" p) [a,b] [] pos) (iZip X.K ta):=by
  intro pins s σ H R I h
  refine Call_ (ld_blt I hg hm (u:=.type "zip") (by decide +kernel) (PyProof.Rows.callWith_type1 (thn (ha pos pins s σ H _ I h) fun us s1 ⟨vs,H1,I1,r1,q1⟩=>?_) hs hp))
  obtain ⟨l1,l2,e,⟨xs,hq1⟩,⟨ys,hq2⟩,q⟩:=q1
  subst e
  obtain ⟨u1,u2,rfl,ru1,ru2⟩:=vals2 r1
  cases ru1
  cases ru2
  obtain ⟨its1,rv1,pl1,hz1⟩:=I1.list hq1
  obtain ⟨its2,rv2,pl2,hz2⟩:=I1.list hq2
  have hlt1:l1<s1.heap.objs.size:=let ⟨o,q,_⟩:=pl1.isList; Heap.lt_size q
  have hlt2:l2<s1.heap.objs.size:=let ⟨o,q,_⟩:=pl2.isList; Heap.lt_size q
  refine call_zip_2 pl1.isList pl2.isList fun h2 hz hTI hTO hi1 hi2 hsz hk=>wpAny_pyIter_zip hz ?_
  have fr1:∀ n,FpOk X pins H1 (s1.heap.objs.size+n):=fun n=>I1.fpOk (Nat.le_add_right _ _) (I1.hok.fresh (Nat.le_add_right _ _))
  have fr:∀ c∈[s1.heap.objs.size+4,s1.heap.objs.size+2,s1.heap.objs.size+3,s1.heap.objs.size,s1.heap.objs.size+1],FpOk X pins H1 c:=fun c hc=>by
    simp only [List.mem_cons,List.not_mem_nil,or_false] at hc
    rcases hc with rfl | rfl | rfl | rfl | rfl
    · exact fr1 4
    · exact fr1 2
    · exact fr1 3
    · exact fr1 0
    · exact fr1 1
  exact ⟨s1.heap.objs.size+4,_,_,_,H1,rfl,I1.kept (t':=s1.toks) hk,turn_zip l1 l2 _ _ _ _ _ (zip_apart _ _ _ hlt1 hlt2),⟨hz,hTI,⟨_,_,hTO⟩,hi1,hi2⟩,fr,q⟩
end
end Nd
namespace Nd
open PySem PySem.Spec PyProof.Rows L2
open AutoSeq1 (wpAny_loadPart')
end Nd
namespace DL
open PySem L2 Nd
def dB (de:DE):DT:=fun δ P=>de δ fun x δ'=>match x with
  | .dat _ (.bool b)=>P b δ'
  | _=>False
def dNotT (dt:DT):DT:=fun δ P=>dt δ fun b δ'=>P (!b) δ'
def dAndT (dt du:DT):DT:=fun δ P=>dt δ fun b δ'=>match b with
  | true=>du δ' P
  | false=>P false δ'
def dOrT (dt du:DT):DT:=fun δ P=>dt δ fun b δ'=>match b with
  | true=>P true δ'
  | false=>du δ' P
def dNot (de:DE):DE:=fun δ P=>de δ fun x δ'=>match x with
  | .dat _ (.bool b)=>P (.dat .ow (.bool (!b))) δ'
  | _=>False
def dAnd (da db:DE):DE:=fun δ P=>da δ fun x δ'=>match x with
  | .dat _ (.bool true)=>db δ' P
  | .dat _ (.bool false)=>P (.dat .ow (.bool false)) δ'
  | _=>False
def dNeg (de:DE):DE:=fun δ P=>de δ fun x δ'=>match x with
  | .dat _ (.int i)=>P (.dat .ow (.int (-i))) δ'
  | _=>False
section
variable {K:PySem.W.Frag} {de:DE}
theorem b_le:∀ σ H Q,LT K (dB de) σ H Q→LE K de σ H fun x H'=>∃ k,x=.bl k∧Q k H':=by
  intro σ H Q h
  obtain ⟨H0,Y,S,T,δ,P,rfl,hS,hA,hd,k⟩:=h
  refine ⟨H0,Y,S,T,δ,_,rfl,hS,hA,hd,fun x δ1 v F S1 H1 e1 e2 hA1 p1=>?_⟩
  split at p1
  · obtain ⟨rfl,_⟩:=(hA1.told mem_mid).bl_inv
    exact ⟨_,rfl,k _ δ1 S1 H1 e1 e2 hA1.drop p1⟩
  · exact p1.elim
end
section
variable {X:Cx} {a b c e:Expr} {da db de:DE} {dt du:DT} {pos:Pos} {rest:List Expr}
theorem dt_val (h:PED X e de) (he:∀ whole,isTrue e X.env whole=(do let v ← whole; standAt e.pos; holding [v] (truthy v)):=by intro _; rfl):PTD X e (dB de):=PT.imp (pt_val h he) b_le
theorem dt_cmp {op:CmpOp} {r:R2} {rd:D2} (ho:OpR X (compareOp op) r) (o:OpS X.K r rd) (ha:PED X a da) (hb:PED X b db) (hm:behindInMarks op b=false):PTD X (.Compare a [op] [b] pos) (dB (dOp rd da db)):=by
  refine PT.imp (pt_cmpR ho ha hb hm) fun σ H Q h=>?_
  exact op_le o _ _ _ (b_le σ H Q h)
theorem dt_lt (ha:PED X a da) (hb:PED X b db):PTD X (.Compare a [.Lt] [b] pos) (dB (dOp rdLt da db)):=dt_cmp op_lt (os_I0 fun _ _ _=>.bl _) ha hb (nomark _)
theorem dt_ge (ha:PED X a da) (hb:PED X b db):PTD X (.Compare a [.GtE] [b] pos) (dB (dOp rdGe da db)):=dt_cmp op_ge (os_I0 fun _ _ _=>.bl _) ha hb (nomark _)
theorem dt_eq (hu:X.A.units+64<cLine) (ha:PED X a da) (hb:PED X b db):PTD X (.Compare a [.Eq] [b] pos) (dB (dOp (rdEq false) da db)):=dt_cmp (op_eqD hu) os_eq ha hb (nomark _)
theorem dt_ne (hu:X.A.units+64<cLine) (ha:PED X a da) (hb:PED X b db):PTD X (.Compare a [.NotEq] [b] pos) (dB (dOp (rdEq true) da db)):=dt_cmp (op_neD hu) os_ne ha hb (nomark _)
theorem dt_notIn (hu:X.A.units+64<cLine) (ha:PED X a da) (hb:PED X b db) (hm:behindInMarks .NotIn b=false:=by with_unfolding_all rfl):PTD X (.Compare a [.NotIn] [b] pos) (dB (dOp (rdIn true) da db)):=dt_cmp (op_notInD hu) os_in ha hb hm
theorem dt_not (h:PTD X a dt):PTD X (.UnaryOp .Not a pos) (dNotT dt):=by
  refine PT.imp (pt_not h) fun σ H Q h=>?_
  obtain ⟨H0,Y,S,T,δ,P,rfl,hS,hA,hd,k⟩:=h
  exact ⟨H0,Y,S,T,δ,_,rfl,hS,hA,hd,fun b δ' S' H' e1 e2 hA' p=>k _ δ' S' H' e1 e2 hA' p⟩
theorem dw_and1 (h:PTD X a dt):PWD X (.BoolOp .And [a] pos) dt:=pw_and1 h
theorem dw_or1 (h:PTD X a dt):PWD X (.BoolOp .Or [a] pos) dt:=pw_or1 h
theorem dw_and (h:PTD X a dt) (hb:PWD X (.BoolOp .And (b::rest) pos) du):PWD X (.BoolOp .And (a::b::rest) pos) (dAndT dt du):=by
  refine PW.imp (pw_and h hb) fun σ H Q h=>?_
  obtain ⟨H0,Y,S,T,δ,P,rfl,hS,hA,hd,k⟩:=h
  refine ⟨H0,Y,S,T,δ,_,rfl,hS,hA,hd,fun b δ' S' H' e1 e2 hA' p=>?_⟩
  cases b with
  | true=>exact iteT ⟨H0,Y,S',T,δ',P,e1,e2,hA',p,k⟩
  | false=>exact iteF (k _ δ' S' H' e1 e2 hA' p)
theorem dw_or (h:PTD X a dt) (hb:PWD X (.BoolOp .Or (b::rest) pos) du):PWD X (.BoolOp .Or (a::b::rest) pos) (dOrT dt du):=by
  refine PW.imp (pw_or h hb) fun σ H Q h=>?_
  obtain ⟨H0,Y,S,T,δ,P,rfl,hS,hA,hd,k⟩:=h
  refine ⟨H0,Y,S,T,δ,_,rfl,hS,hA,hd,fun b δ' S' H' e1 e2 hA' p=>?_⟩
  cases b with
  | true=>exact iteT (k _ δ' S' H' e1 e2 hA' p)
  | false=>exact iteF ⟨H0,Y,S',T,δ',P,e1,e2,hA',p,k⟩
theorem dt_w (h:PWD X a dt):PTD X a dt:=PW.pt h
theorem dp_one {op} (h:PED X a da):PED X (.BoolOp op [a] pos) da:=pe_one h
theorem dp_and (h:PED X a da) (hb:PED X (.BoolOp .And (b::rest) pos) db):PED X (.BoolOp .And (a::b::rest) pos) (dAnd da db):=by
  refine PE.imp (pe_and h hb) fun σ H Q h=>?_
  obtain ⟨H0,Y,S,T,δ,P,rfl,hS,hA,hd,k⟩:=h
  refine ⟨H0,Y,S,T,δ,_,rfl,hS,hA,hd,fun x δ1 v F S1 H1 e1 e2 hA1 p1=>?_⟩
  split at p1
  · obtain ⟨rfl,_⟩:=(hA1.told mem_mid).bl_inv
    exact ⟨_,rfl,iteT ⟨H0,Y,S1,T,δ1,P,e1,e2,hA1.drop,p1,k⟩⟩
  · obtain ⟨rfl,_⟩:=(hA1.told mem_mid).bl_inv
    exact ⟨_,rfl,iteF (k _ δ1 _ [] S1 H1 e1 e2 (hA1.drop.pushI (.bl _)) p1)⟩
  · exact p1.elim
theorem dp_not (h:PED X a da):PED X (.UnaryOp .Not a pos) (dNot da):=by
  refine PE.imp (pe_not h) fun σ H Q h=>?_
  obtain ⟨H0,Y,S,T,δ,P,rfl,hS,hA,hd,k⟩:=h
  refine ⟨H0,Y,S,T,δ,_,rfl,hS,hA,hd,fun x δ1 v F S1 H1 e1 e2 hA1 p1=>?_⟩
  split at p1
  · obtain ⟨rfl,_⟩:=(hA1.told mem_mid).bl_inv
    exact ⟨_,rfl,k _ δ1 _ [] S1 H1 e1 e2 (hA1.drop.pushI (.bl _)) p1⟩
  · exact p1.elim
theorem dp_neg (h:PED X a da):PED X (.UnaryOp .USub a pos) (dNeg da):=by
  refine PE.imp (pe_un un_neg h) fun σ H Q h=>?_
  obtain ⟨H0,Y,S,T,δ,P,rfl,hS,hA,hd,k⟩:=h
  refine ⟨H0,Y,S,T,δ,_,rfl,hS,hA,hd,fun x δ1 v F S1 H1 e1 e2 hA1 p1=>?_⟩
  split at p1
  · obtain ⟨rfl,_⟩:=(hA1.told mem_mid).int_inv
    exact ⟨_,rfl,k _ δ1 _ [] S1 H1 e1 e2 (hA1.drop.pushI (.int _)) p1⟩
  · exact p1.elim
end
theorem PS.impD {X:Cx} {st:Stmt} {t t':TS} (h:PS X st t) (k:∀ D σ H,t' D σ H→t D σ H):PS X st t':=fun pins s σ H D I q=>h pins s σ H D I (k D σ H q)
theorem PSs.impD {X:Cx} {st:List Stmt} {t t':TS} (h:PSs X st t) (k:∀ D σ H,t' D σ H→t D σ H):PSs X st t':=fun pins s σ H D I q=>h pins s σ H D I (k D σ H q)
def dSkip:DB:=fun D δ=>D.nx δ
def dSeq (t u:DB):DB:=fun D δ=>t { D with nx:=fun δ'=>u D δ' } δ
def dRet (de:DE):DB:=fun D δ=>de δ D.rt
def dIf (dt:DT) (t u:DB):DB:=fun D δ=>dt δ fun b δ'=>match b with
  | true=>t D δ'
  | false=>u D δ'
def dAsg (de:DE) (dg:DG):DB:=fun D δ=>de δ fun x δ'=>dg x δ' D.nx
section
variable {X:Cx} {st:Stmt} {e tg c:Expr} {t u:DB} {rest:List Stmt} {de:DE} {dg:DG} {dt:DT} {pos:Pos}
theorem ds_nil:PSsD X [] dSkip:=by
  refine PSs.impD pss_nil fun D σ H h=>?_
  obtain ⟨H0,Y,S,T,δ,P,rfl,hS,hT,hA,hd,k1,k2,k3,k4⟩:=h
  exact k1 δ S H hS hA hd
theorem ds_cons (h1:PSD X st t) (h2:PSsD X rest u):PSsD X (st::rest) (dSeq t u):=by
  refine PSs.impD (pss_cons h1 h2) fun D σ H h=>?_
  obtain ⟨H0,Y,S,T,δ,P,rfl,hS,hT,hA,hd,k1,k2,k3,k4⟩:=h
  exact ⟨H0,Y,S,T,δ,_,rfl,hS,hT,hA,hd,fun δ' S' H' e2 hA' p=>⟨H0,Y,S',T,δ',P,rfl,e2,hT,hA',p,k1,k2,k3,k4⟩,k2,k3,k4⟩
theorem ds_one (h1:PSD X st t):PSsD X [st] t:=pss_one h1
theorem ds_ret (he:PED X e de):PSD X (.Return (some e) pos) (dRet de):=by
  refine PS.impD (ps_ret he) fun D σ H h=>?_
  obtain ⟨H0,Y,S,T,δ,P,rfl,hS,hT,hA,hd,k1,k2,k3,k4⟩:=h
  exact ⟨H0,Y,S,T,δ,_,rfl,hS,hA,hd,fun x δ' v F S' H' e1 e2 hA' p=>k2 x δ' v F S' H' e2 hA' p⟩
theorem ds_if {a b:List Stmt} (hc:PTD X c dt) (ha:PSsD X a t) (hb:PSsD X b u):PSD X (.If c a b pos) (dIf dt t u):=by
  refine PS.impD (ps_if hc ha hb) fun D σ H h=>?_
  obtain ⟨H0,Y,S,T,δ,P,rfl,hS,hT,hA,hd,k1,k2,k3,k4⟩:=h
  refine ⟨H0,Y,S,T,δ,_,rfl,hS,hA,hd,fun b δ' S' H' e1 e2 hA' p=>?_⟩
  cases b with
  | true=>exact iteT ⟨H0,Y,S',T,δ',P,e1,e2,hT,hA',p,k1,k2,k3,k4⟩
  | false=>exact iteF ⟨H0,Y,S',T,δ',P,e1,e2,hT,hA',p,k1,k2,k3,k4⟩
theorem asg_le {K:PySem.W.Frag} {te:TE} {g:TG} (h1:∀ σ H Q,LE K de σ H Q→te σ H Q) (h2:∀ v σ H Q,LG K dg v σ H Q→g v σ H Q):∀ D σ H,LS K (dAsg de dg) D σ H→tAsg te g D σ H:=by
  intro D σ H h
  obtain ⟨H0,Y,S,T,δ,P,rfl,hS,hT,hA,hd,k1,k2,k3,k4⟩:=h
  refine h1 _ _ _ ⟨H0,Y,S,T,δ,_,rfl,hS,hA,hd,fun x δ' v F S' H' e1 e2 hA' p=>?_⟩
  exact h2 _ _ _ _ ⟨H0,Y,S',T,δ',x,F,P.nx,e1,e2,hA',p,fun δ2 S2 H2 e3 hA2 q=>k1 δ2 S2 H2 e3 hA2 q⟩
theorem ds_asg (he:PED X e de) (hg:PGD X tg dg) (hs:swapsWithSole [tg] e pos.line X.env=pure false:=by rfl) (hw:swappedStores [tg] e X.env=pure none:=by rfl) (h1:(assignEach [tg] X.env).map (·.2)=[assign tg X.env]:=by rfl):PSD X (.Assign [tg] e pos) (dAsg de dg):=PS.impD (ps_asg he hg hs hw h1) (asg_le (fun _ _ _ h=>h) fun _ _ _ _ h=>h)
end
def dgName (i:Nat):DG:=fun x δ P=>match x with
  | .dat .pk _=>False
  | .dat _ d=>P ⟨δ.sl.set i (.dat .sh d),δ.n⟩
  | .val v=>P ⟨δ.sl.set i (.val v),δ.n⟩
  | .drw=>P ⟨δ.sl.set i .drw,δ.n⟩
  | .dT kvs=>P ⟨δ.sl.set i (.dT kvs),δ.n⟩
  | _=>False
def dgOwn (i:Nat):DG:=fun x δ P=>match x with
  | .dat .ow d=>P ⟨δ.sl.set i (.dat .ow d),δ.n⟩
  | .dat .tp d=>P ⟨δ.sl.set i (.dat .tp d),δ.n⟩
  | _=>False
theorem At.store {K:PySem.W.Frag} {H0 H:Hp} {X:Addr→Prop} {n:Nat} {S T:List Ent} {e:Ent} {i:Nat} (h:At K H0 X n (S++e::T) H):At K H0 X n (S.set i e++T) H:=by
  by_cases hi:i<S.length
  · have hx:S[i]? = some S[i]:=by simp [hi]
    have p:(S++e::T).Perm (S[i]::(S.set i e++T)):=by
      refine List.perm_middle.trans ?_
      rw [← List.cons_append,← List.cons_append]
      exact (set_perm hx).append_right T
    exact (h.perm p).sub (List.sublist_cons_self _ _)
  · rw [List.set_eq_of_length_le (by omega)]
    exact h.drop
theorem vs_set {S:List Ent} {i:Nat} {v:V} {x:DV} {F:List Addr}:vs (S.set i ⟨some v,x,F⟩)=(vs S).set i (some v):=by
  unfold vs
  rw [List.map_set]
theorem sl_set {S:List Ent} {δ:DS} {i n:Nat} {v:V} {x:DV} {F:List Addr} (h:Sl S δ):Sl (S.set i ⟨some v,x,F⟩) ⟨δ.sl.set i x,n⟩:=by
  unfold Sl at h ⊢
  rw [List.map_set,h]
theorem name_le {K:PySem.W.Frag} {i:Nat}:∀ v σ H Q,LG K (dgName i) v σ H Q→gName i v σ H Q:=by
  intro v σ H Q h
  obtain ⟨H0,Y,S,T,δ,x,F,P,rfl,hS,hA,hd,k⟩:=h
  show Q ((vs S).set i (some v)) H
  have fin:∀ y,At K H0 Y δ.n (S++⟨some v,y,F⟩::T) H→P ⟨δ.sl.set i y,δ.n⟩→Q ((vs S).set i (some v)) H:=fun y hA' p=>by
    rw [← vs_set (x:=y) (F:=F)]
    exact k _ _ H (sl_set hS) hA'.store p
  unfold dgName at hd
  split at hd
  · exact hd.elim
  · rename_i m d hm
    refine fin _ ?_ hd
    refine (hA.mid.wk ?_).tomid
    cases m <;> first | rfl | exact (hm rfl).elim
  · exact fin _ hA hd
  · exact fin _ hA hd
  · exact fin _ hA hd
  · exact hd.elim
theorem own_le {K:PySem.W.Frag} {i:Nat}:∀ v σ H Q,LG K (dgOwn i) v σ H Q→gName i v σ H Q:=by
  intro v σ H Q h
  obtain ⟨H0,Y,S,T,δ,x,F,P,rfl,hS,hA,hd,k⟩:=h
  show Q ((vs S).set i (some v)) H
  have fin:∀ y,At K H0 Y δ.n (S++⟨some v,y,F⟩::T) H→P ⟨δ.sl.set i y,δ.n⟩→Q ((vs S).set i (some v)) H:=fun y hA' p=>by
    rw [← vs_set (x:=y) (F:=F)]
    exact k _ _ H (sl_set hS) hA'.store p
  unfold dgOwn at hd
  split at hd
  · exact fin _ hA hd
  · exact fin _ hA hd
  · exact hd.elim
section
variable {X:Cx} {pos:Pos}
theorem dg_name {i:Nat} {x:Str} (hN:X.N.Nodup) (hi:X.N[i]? = some x) (hx:Loc X.env.scope x) (hf:X.fn x=true∨X.env.scope.names.lookup x=some .local:=by first | exact .inl rfl | exact .inr rfl | assumption):PGD X (.Name x pos) (dgName i):=PG.imp (pg_name hN hi hx hf) name_le
theorem ds_set {i:Nat} {x:Str} {e:Expr} {de:DE} {pos':Pos} (hN:X.N.Nodup) (hi:X.N[i]? = some x) (hx:Loc X.env.scope x) (he:PED X e de) (hs:swapsWith e (some (.Name x pos')) pos.line X.env=pure false:=by rfl) (hf:X.fn x=true∨X.env.scope.names.lookup x=some .local:=by first | exact .inl rfl | exact .inr rfl | assumption):PSD X (.Assign [.Name x pos'] e pos) (dAsg de (dgName i)):=PS.impD (ps_set hN hi hx he hs hf) (asg_le (fun _ _ _ h=>h) name_le)
theorem ds_setO {i:Nat} {x:Str} {e:Expr} {de:DE} {pos':Pos} (hN:X.N.Nodup) (hi:X.N[i]? = some x) (hx:Loc X.env.scope x) (he:PED X e de) (hs:swapsWith e (some (.Name x pos')) pos.line X.env=pure false:=by rfl) (hf:X.fn x=true∨X.env.scope.names.lookup x=some .local:=by first | exact .inl rfl | exact .inr rfl | assumption):PSD X (.Assign [.Name x pos'] e pos) (dAsg de (dgOwn i)):=PS.impD (ps_set hN hi hx he hs hf) (asg_le (fun _ _ _ h=>h) own_le)
end
def dgsNil:DGs:=fun xs δ P=>match xs with
  | []=>P δ
  | _=>False
def dgsCons (g:DG) (gs:DGs):DGs:=fun xs δ P=>match xs with
  | x::r=>g x δ fun δ'=>gs r δ' P
  | []=>False
def dgTup (n:Nat) (gs:DGs):DG:=fun x δ P=>match x with
  | .dat m (.tuple ds)=>ds.length=n∧gs (ds.map fun d=>.dat (mdIn m) d) δ P
  | _=>False
theorem At.unpack {K:PySem.W.Frag} {H0 H:Hp} {X:Addr→Prop} {n:Nat} {m:Md}:∀ {us:List V} {ds:List PyData} {F:List Addr} {E:List Ent},RdFs K H us ds F→(m=.ow→F.Nodup)→(∀ f∈E,SepR ⟨none,.dat (mdIn m) .none,F⟩ f)→(∀ a∈cells ⟨none,.dat (mdIn m) .none,F⟩,H0 a=none)→At K H0 X n E H→∃ As:List Ent,As.map Ent.v=us.map some∧As.map Ent.x=ds.map (fun d=>.dat (mdIn m) d)∧(∀ e∈As,∀ a∈e.F,a∈F)∧At K H0 X n (As++E) H
  | _,_,_,_,.nil,_,_,_,h=>⟨[],rfl,rfl,fun _ z=>(nomatch z),h⟩
  | _,_,_,E,.cons (x:=x) (d:=d) (F:=F1) (G:=G1) a t,hn,hs,hnew,h=>by
    have cs:∀ {G:List Addr} {u:Option V} {d':PyData},(∀ b∈G,b∈F1++G1)→∀ b∈cells ⟨u,.dat (mdIn m) d',G⟩,b∈cells ⟨none,.dat (mdIn m) .none,F1++G1⟩:=fun {G u d'} hG b hb=>by
      cases m with
      | ow=>exact hG b hb
      | _=>exact nomatch hb
    have sub:∀ {G:List Addr} {u:Option V} {d':PyData} {f:Ent},(∀ b∈G,b∈F1++G1)→SepR ⟨none,.dat (mdIn m) .none,F1++G1⟩ f→SepR ⟨u,.dat (mdIn m) d',G⟩ f:=fun {G u d' f} hG q=>by
      refine ⟨fun hp b hb=>q.1 ?_ b (cs hG b hb),fun hp b hb z=>q.2 ?_ b hb (hG b z)⟩
      · rcases hp with hp | hp
        · exact .inl hp
        · cases hp
      · rcases hp with hp | hp
        · refine .inl ?_
          cases m <;> exact hp
        · exact .inr hp
    obtain ⟨As,h1,h2,h3,h4⟩:=At.unpack (m:=m) t (fun z=>(List.nodup_append.mp (hn z)).2.1) (fun f hf=>sub (fun b hb=>List.mem_append_right _ hb) (hs f hf)) (fun b hb=>hnew b (cs (fun b hb=>List.mem_append_right _ hb) b hb)) h
    refine ⟨⟨some x,.dat (mdIn m) d,F1⟩::As,by rw [List.map_cons,List.map_cons,h1],by rw [List.map_cons,List.map_cons,h2],fun e he b hb=>?_,?_⟩
    · rcases List.mem_cons.mp he with rfl | he
      · exact List.mem_append_left _ hb
      · exact List.mem_append_right _ (h3 e he b hb)
    · refine h4.push ⟨x,rfl,a,fun z=>?_,fun z=>?_⟩ (fun f hf=>?_) fun b hb=>.inl (hnew b (cs (fun b hb=>List.mem_append_left _ hb) b hb))
      · cases m with
        | ow=>exact (List.nodup_append.mp (hn rfl)).1
        | _=>cases z
      · cases m <;> cases z
      · rcases List.mem_append.mp hf with hf | hf
        · have hx:f.x∈As.map Ent.x:=List.mem_map.mpr ⟨f,hf,rfl⟩
          rw [h2] at hx
          obtain ⟨d',_,ed⟩:=List.mem_map.mp hx
          refine ⟨fun hp b hb z=>?_,fun hp b hb z=>?_⟩
          · cases m with
            | ow=>exact (List.nodup_append.mp (hn rfl)).2.2 b hb b (h3 f hf b z) rfl
            | _=>exact nomatch hb
          · cases m with
            | ow=>exact (List.nodup_append.mp (hn rfl)).2.2 b z b (h3 f hf b (cells_sub _ _ hb)) rfl
            | _ =>
              unfold cells at hb
              rw [← ed] at hb
              exact nomatch hb
        · exact sub (fun b hb=>List.mem_append_left _ hb) (hs f hf)
section
variable {X:Cx} {pos:Pos}
theorem dgs_nil:PGsD X [] dgsNil:=by
  refine PGs.imp pgs_nil fun us σ H Q h=>?_
  obtain ⟨H0,Y,S,T,As,δ,P,rfl,hS,eu,hA,hd,k⟩:=h
  match As,hA,hd,eu with
  | [],hA,hd,eu =>
    cases us with
    | nil=>exact ⟨rfl,k δ S H hS hA hd⟩
    | cons _ _=>cases eu
  | _::_,hA,hd,eu=>exact hd.elim
theorem dgs_cons {e:Expr} {es:List Expr} {g:DG} {gs:DGs} (h1:PGD X e g) (h2:PGsD X es gs) (hs:(assignEach (e::es) X.env).map (·.2)=assign e X.env::(assignEach es X.env).map (·.2):=by rfl):PGsD X (e::es) (dgsCons g gs):=by
  refine PGs.imp (pgs_cons h1 h2 hs) fun us σ H Q h=>?_
  obtain ⟨H0,Y,S,T,As,δ,P,rfl,hS,eu,hA,hd,k⟩:=h
  match As,hA,hd,eu with
  | [],hA,hd,eu=>exact hd.elim
  | ⟨v,x,F⟩::As,hA,hd,eu =>
    cases us with
    | nil=>cases eu
    | cons u us =>
      rw [List.map_cons,List.map_cons] at eu
      obtain ⟨e1,e2⟩:=List.cons.inj eu
      have e1':v=some u:=e1
      subst e1'
      refine ⟨u,us,rfl,H0,Y,S,As++T,δ,x,F,_,rfl,hS,hA,hd,fun δ' S' H' e3 hA' p=>?_⟩
      exact ⟨H0,Y,S',T,As,δ',P,rfl,e3,e2,hA',p,k⟩
theorem dg_tup {es:List Expr} {kk:Nat} {gs:DGs} {n:Nat} (hc:X.calm=true) (h:PGsD X es gs) (hn:(assignEach es X.env).length=n:=by rfl) (hst:(assignEach es X.env).findIdx? (·.1)=none:=by rfl):PGD X (.Tuple es kk pos) (dgTup n gs):=by
  refine PG.imp (pg_tup hc h hn hst) fun v σ H Q h=>?_
  obtain ⟨H0,Y,S,T,δ,x,F,P,rfl,hS,hA,hd,k⟩:=h
  unfold dgTup at hd
  split at hd
  · rename_i m ds
    obtain ⟨a,xs,rfl,ha,ra,hz⟩:=(hA.told mem_mid).tup_inv
    have hm:=hA.mid
    have hp:=List.pairwise_cons.mp hm.sep
    obtain ⟨w,_,_,hnd,_⟩:=hm.ok _ List.mem_cons_self
    have cs:∀ b∈cells ⟨none,.dat (mdIn m) .none,F⟩,b∈cells ⟨some (.ref a),.dat m (.tuple ds),F⟩:=fun b hb=>by
      cases m with
      | ow=>exact hb
      | _=>exact nomatch hb
    obtain ⟨As,h1,h2,h3,h4⟩:=At.unpack (m:=m) (E:=S++T) ra hnd (fun f hf=>by
      refine ⟨fun hq b hb=>(hp.1 f hf).1 ?_ b (cs b hb),fun hq b hb=>(hp.1 f hf).2 ?_ b hb⟩
      · rcases hq with hq | hq
        · exact .inl hq
        · cases hq
      · rcases hq with hq | hq
        · refine .inl ?_
          cases m <;> first | rfl | exact hq
        · exact .inr hq) (fun b hb=>by
      rcases hm.new _ List.mem_cons_self b (cs b hb) with z | z
      · exact z
      · cases z.2) hA.drop
    refine ⟨a,xs,rfl,SqT.of ha,by rw [ra.len]; exact hd.1,H0,Y,S,T,As,δ,P,rfl,hS,h1,h4.perm ?_,by rw [h2]; exact hd.2,k⟩
    rw [← List.append_assoc,← List.append_assoc]
    exact List.perm_append_comm.append_right T
  · exact hd.elim
end
end DL
namespace DL
open PySem L2 Nd
theorem sep_of {K:PySem.W.Frag} {H0 H:Hp} {X:Addr→Prop} {n:Nat} {E:List Ent} (h:At K H0 X n E H):∀ {e f:Ent},e∈E→f∈E→e=f∨SepR e f:=by
  have main:∀ {E:List Ent},E.Pairwise SepR→∀ {e f:Ent},e∈E→f∈E→e=f∨SepR e f:=by
    intro E
    induction E with
    | nil=>intro _ e f he; cases he
    | cons g E ih =>
      intro hp e f he hf
      have hc:=List.pairwise_cons.mp hp
      rcases List.mem_cons.mp he with he | he
      · subst he
        rcases List.mem_cons.mp hf with hf | hf
        · exact .inl hf.symm
        · exact .inr (hc.1 f hf)
      · rcases List.mem_cons.mp hf with hf | hf
        · rw [hf]
          exact .inr (hc.1 e he).symm
        · exact ih hc.2 he hf
  intro e f he hf
  exact main h.sep he hf
abbrev DI:=DS→(Md→List PyData→DS→Prop)→Prop
structure IterOk (K:PySem.W.Frag) (J:It) (hid:List Ent) (m:Md) (ds:List PyData):Prop where
  md:m=.sh∨m=.pk
  hd:∀ e∈hid,cells e=[]
  np:m=.sh→∀ e∈hid,isPk e.x=false
  go:∀ H n i,(∀ e∈hid,EntOk K H n e)→i<ds.length→J.go i H
  yld:∀ H n i x H',(∀ e∈hid,EntOk K H n e)→i<ds.length→J.yld i H x H'→Same H H'∧∃ d F,ds[i]? = some d∧RdF K H' x d F∧∀ a∈F,∃ e∈hid,a∈e.F
  stop:∀ H n,(∀ e∈hid,EntOk K H n e)→J.stop ds.length H
def LI (K:PySem.W.Frag) (di:DI):TI:=fun σ H R=>∃ (H0:Hp) (X:Addr→Prop) (S T:List Ent) (δ:DS) (P:Md→List PyData→DS→Prop),vs S=σ∧Sl S δ∧At K H0 X δ.n (S++T) H∧di δ P ∧
  ∀ m ds δ' J hid S' H',vs S'=σ→Sl S' δ'→At K H0 X δ'.n (S'++(hid++T)) H'→IterOk K J hid m ds→ds.length≤sizeLine→P m ds δ'→R J H'
abbrev PID (X:Cx) (tg iter:Expr) (di:DI):Prop:=PI X tg iter (LI X.K di)
theorem PI.imp {X:Cx} {tg e:Expr} {t t':TI} (h:PI X tg e t) (k:∀ σ H Q,t' σ H Q→t σ H Q):PI X tg e t':=fun pins s σ H Q I q=>h pins s σ H Q I (k σ H Q q)
def mdIt:Md→Md
  | .pk=>.pk
  | _=>.sh
theorem mdIt_wk (m:Md):wk m (mdIt m)=true:=by cases m <;> rfl
theorem At.item {K:PySem.W.Frag} {H0 H H':Hp} {X:Addr→Prop} {n:Nat} {S T hid:List Ent} {m:Md} {v:V} {d:PyData} {F:List Addr} (h:At K H0 X n (S++(hid++T)) H) (s:Same H H') (r:RdF K H' v d F) (hF:∀ a∈F,∃ e∈hid,a∈e.F) (md:m=.sh∨m=.pk) (hh:∀ e∈hid,cells e=[]) (np:m=.sh→∀ e∈hid,isPk e.x=false):At K H0 X n (S++⟨some v,.dat m d,F⟩::(hid++T)) H':=by
  have h1:=h.grow (n':=n) s (Nat.le_refl _)
  have c0:∀ a,a∉cells ⟨some v,.dat m d,F⟩:=fun a ha=>by
    rcases md with rfl | rfl <;> exact nomatch ha
  refine (h1.push (e:=⟨some v,.dat m d,F⟩) ⟨v,rfl,r,fun z=>?_,fun z=>?_⟩ (fun f hf=>⟨fun _ a ha=>absurd ha (c0 a),fun hq a ha z=>?_⟩) fun a ha=>absurd ha (c0 a)).tomid
  · rcases md with rfl | rfl <;> cases z
  · rcases md with rfl | rfl <;> cases z
  · obtain ⟨e,he,ze⟩:=hF a z
    have he':e∈S++(hid++T):=List.mem_append_right _ (List.mem_append_left _ he)
    rcases sep_of h he' hf with rfl | q
    · rw [hh e he] at ha
      cases ha
    · refine q.2 ?_ a ha ze
      rcases hq with hq | hq
      · refine .inl (np ?_ e he)
        rcases md with rfl | rfl
        · rfl
        · cases hq
      · exact .inr hq
def diSeq (de:DE):DI:=fun δ P=>de δ fun x δ'=>match x with
  | .dat m (.list ds)=>P (mdIt m) ds δ'
  | .dat m (.tuple ds)=>P (mdIt m) ds δ'
  | _=>False
def diRange1 (da:DA):DI:=fun δ P=>da δ fun xs δ'=>match xs with
  | [.dat _ (.int j)]=>-1000000≤j∧j≤1000000∧P .sh ((List.range j.toNat).map fun i:Nat=>.int i) δ'
  | _=>False
def diEnum (da:DA):DI:=fun δ P=>da δ fun xs δ'=>match xs with
  | [.dat m (.list ds)]=>P (mdIt m) (ds.zipIdx.map fun p=>.tuple [.int p.2,p.1]) δ'
  | _=>False
def diEnumT (da:DA):DI:=fun δ P=>da δ fun xs δ'=>match xs with
  | [.dat m (.tuple ds)]=>P (mdIt m) (ds.zipIdx.map fun p=>.tuple [.int p.2,p.1]) δ'
  | _=>False
def mdZip:Md→Md→Md
  | .pk,_=>.pk
  | _,.pk=>.pk
  | _,_=>.sh
def diZip (da:DA):DI:=fun δ P=>da δ fun xs δ'=>match xs with
  | [.dat m (.list ds),.dat m' (.list es)]=>P (mdZip m m') ((ds.zip es).map fun p=>.tuple [p.1,p.2]) δ'
  | _=>False
section
variable {K:PySem.W.Frag}
theorem told_of {H:Hp} {n:Nat} {v:V} {m:Md} {d:PyData} {F:List Addr} {hid:List Ent} (h:∀ e∈hid,EntOk K H n e) (he:⟨some v,.dat m d,F⟩∈hid):RdF K H v d F:=by
  obtain ⟨w,e1,h1,_⟩:=h _ he
  cases e1
  exact h1
theorem cells_it {v:Option V} {m:Md} {d:PyData} {F:List Addr}:cells ⟨v,.dat (mdIt m) d,F⟩=[]:=by cases m <;> rfl
theorem hid_it {v:Option V} {m:Md} {d:PyData} {F:List Addr}:∀ e∈[(⟨v,.dat (mdIt m) d,F⟩ : Ent)],cells e=[]:=fun e he=>by
  rw [List.mem_singleton.mp he]
  exact cells_it
theorem np_it {v:Option V} {m:Md} {d:PyData} {F:List Addr}:mdIt m=.sh→∀ e∈[(⟨v,.dat (mdIt m) d,F⟩ : Ent)],isPk e.x=false:=fun z e he=>by
  rw [List.mem_singleton.mp he]
  show isPk (.dat (mdIt m) d)=false
  rw [z]
  rfl
theorem mdIt_or (m:Md):mdIt m=.sh∨mdIt m=.pk:=by cases m <;> simp [mdIt]
theorem iter_list {a:Addr} {m:Md} {ds:List PyData} {F:List Addr}:IterOk K (Itl K a) [⟨some (.ref a),.dat (mdIt m) (.list ds),F⟩] (mdIt m) ds where
  md:=mdIt_or m
  hd:=hid_it
  np:=np_it
  go:=fun H n i h hi=>by
    obtain ⟨b,xs,G,e,hb,rb,_,_⟩:=(told_of h List.mem_cons_self).list_inv
    cases e
    have hl:=rb.len
    exact ⟨xs,xs[i],SqL.of hb,by simp [show i<xs.length by omega]⟩
  yld:=fun H n i x H' h hi y=>by
    obtain ⟨b,xs,G,e,hb,rb,rfl,_⟩:=(told_of h List.mem_cons_self).list_inv
    cases e
    obtain ⟨rfl,y⟩:=y
    have hx:=y xs (SqL.of hb)
    obtain ⟨x',F',h1,h2,h3⟩:=rb.get (i:=i) (e:=ds[i]) (by simp [hi])
    rw [hx] at h1
    cases h1
    exact ⟨Same.refl _,ds[i],F',by simp [hi],h2,fun c hc=>⟨_,List.mem_cons_self,List.mem_cons_of_mem _ (h3.subset hc)⟩⟩
  stop:=fun H n h=>by
    obtain ⟨b,xs,G,e,hb,rb,_,_⟩:=(told_of h List.mem_cons_self).list_inv
    cases e
    exact ⟨xs,SqL.of hb,by rw [rb.len]; exact Nat.le_refl _⟩
theorem iter_tup {a:Addr} {m:Md} {ds:List PyData} {F:List Addr}:IterOk K (Itt K a) [⟨some (.ref a),.dat (mdIt m) (.tuple ds),F⟩] (mdIt m) ds where
  md:=mdIt_or m
  hd:=hid_it
  np:=np_it
  go:=fun H n i h hi=>by
    obtain ⟨b,xs,e,hb,rb,_⟩:=(told_of h List.mem_cons_self).tup_inv
    cases e
    have hl:=rb.len
    exact ⟨xs,xs[i],SqT.of hb,by simp [show i<xs.length by omega]⟩
  yld:=fun H n i x H' h hi y=>by
    obtain ⟨b,xs,e,hb,rb,_⟩:=(told_of h List.mem_cons_self).tup_inv
    cases e
    obtain ⟨rfl,y⟩:=y
    have hx:=y xs (SqT.of hb)
    obtain ⟨x',F',h1,h2,h3⟩:=rb.get (i:=i) (e:=ds[i]) (by simp [hi])
    rw [hx] at h1
    cases h1
    exact ⟨Same.refl _,ds[i],F',by simp [hi],h2,fun c hc=>⟨_,List.mem_cons_self,h3.subset hc⟩⟩
  stop:=fun H n h=>by
    obtain ⟨b,xs,e,hb,rb,_⟩:=(told_of h List.mem_cons_self).tup_inv
    cases e
    exact ⟨xs,SqT.of hb,by rw [rb.len]; exact Nat.le_refl _⟩
theorem iter_range {lo:Int} {n:Nat}:IterOk K (Itr lo n) [] .sh ((List.range n).map fun i:Nat=>.int (lo+i)) where
  md:=.inl rfl
  hd:=fun _ z=>nomatch z
  np:=fun _ _ z=>nomatch z
  go:=fun H k i h hi=>by
    show i<n
    simpa using hi
  yld:=fun H k i x H' h hi y=>by
    obtain ⟨rfl,rfl⟩:=y
    rw [List.length_map,List.length_range] at hi
    exact ⟨Same.refl _,.int (lo+i),[],by simp [hi],.int _,fun _ z=>nomatch z⟩
  stop:=fun H k h=>by simp [Itr]
theorem iter_enum {a:Addr} {m:Md} {ds:List PyData} {F:List Addr}:IterOk K (Ite K a) [⟨some (.ref a),.dat (mdIt m) (.list ds),F⟩] (mdIt m) (ds.zipIdx.map fun p=>.tuple [.int p.2,p.1]) where
  md:=mdIt_or m
  hd:=hid_it
  np:=np_it
  go:=fun H n i h hi=>by
    obtain ⟨b,xs,G,e,hb,rb,_,_⟩:=(told_of h List.mem_cons_self).list_inv
    cases e
    have hl:=rb.len
    rw [List.length_map,List.length_zipIdx] at hi
    exact ⟨xs,xs[i],SqL.of hb,by simp [show i<xs.length by omega]⟩
  yld:=fun H n i x H' h hi y=>by
    obtain ⟨b,xs,G,e,hb,rb,rfl,_⟩:=(told_of h List.mem_cons_self).list_inv
    cases e
    rw [List.length_map,List.length_zipIdx] at hi
    obtain ⟨t,z,rfl,nt,rfl,y⟩:=y
    have hx:=y xs (SqL.of hb)
    obtain ⟨x',F',h1,h2,h3⟩:=rb.get (i:=i) (e:=ds[i]) (by simp [hi])
    rw [hx] at h1
    cases h1
    have s1:=same_new nt (.tup [.int i,z])
    refine ⟨s1,.tuple [.int i,ds[i]],F',by simp [hi],.tup upd_same (by simp [sizeLine_eq]) ?_,fun c hc=>⟨_,List.mem_cons_self,List.mem_cons_of_mem _ (h3.subset hc)⟩⟩
    have:=RdFs.cons (F:=[]) (.int (i:Int)) (RdFs.cons (h2.kp (Kp.of s1)) RdFs.nil)
    rw [List.append_nil] at this
    exact this
  stop:=fun H n h=>by
    obtain ⟨b,xs,G,e,hb,rb,_,_⟩:=(told_of h List.mem_cons_self).list_inv
    cases e
    exact ⟨xs,SqL.of hb,by rw [List.length_map,List.length_zipIdx,rb.len]; exact Nat.le_refl _⟩
theorem iter_zip {a b:Addr} {m m':Md} {ds es:List PyData} {F G:List Addr}:IterOk K (Itz K a b) [⟨some (.ref a),.dat (mdIt m) (.list ds),F⟩,⟨some (.ref b),.dat (mdIt m') (.list es),G⟩] (mdZip m m') ((ds.zip es).map fun p=>.tuple [p.1,p.2]) where
  md:=by cases m <;> cases m' <;> simp [mdZip]
  hd:=fun e he=>by
    rcases List.mem_cons.mp he with rfl | he
    · exact cells_it
    · rw [List.mem_singleton.mp he]
      exact cells_it
  np:=fun z e he=>by
    rcases List.mem_cons.mp he with rfl | he
    · cases m <;> cases m' <;> first | rfl | cases z
    · rw [List.mem_singleton.mp he]
      cases m <;> cases m' <;> first | rfl | cases z
  go:=fun H n i h hi=>by
    obtain ⟨b1,xs,G1,e1,hb1,rb1,_,_⟩:=(told_of h List.mem_cons_self).list_inv
    obtain ⟨b2,ys,G2,e2,hb2,rb2,_,_⟩:=(told_of h (List.mem_cons_of_mem _ List.mem_cons_self)).list_inv
    cases e1
    cases e2
    have l1:=rb1.len
    have l2:=rb2.len
    rw [List.length_map,List.length_zip] at hi
    exact ⟨xs,ys,xs[i],ys[i],SqL.of hb1,SqL.of hb2,by simp [show i<xs.length by omega],by simp [show i<ys.length by omega]⟩
  yld:=fun H n i x H' h hi y=>by
    obtain ⟨b1,xs,G1,e1,hb1,rb1,rfl,_⟩:=(told_of h List.mem_cons_self).list_inv
    obtain ⟨b2,ys,G2,e2,hb2,rb2,rfl,_⟩:=(told_of h (List.mem_cons_of_mem _ List.mem_cons_self)).list_inv
    cases e1
    cases e2
    rw [List.length_map,List.length_zip] at hi
    obtain ⟨t,u,v,rfl,nt,rfl,y1,y2⟩:=y
    have hx1:=y1 xs (SqL.of hb1)
    have hx2:=y2 ys (SqL.of hb2)
    obtain ⟨x1,F1,h11,h12,h13⟩:=rb1.get (i:=i) (e:=ds[i]) (by simp [show i<ds.length by omega])
    obtain ⟨x2,F2,h21,h22,h23⟩:=rb2.get (i:=i) (e:=es[i]) (by simp [show i<es.length by omega])
    rw [hx1] at h11
    cases h11
    rw [hx2] at h21
    cases h21
    have s1:=same_new nt (.tup [u,v])
    refine ⟨s1,.tuple [ds[i],es[i]],F1++F2,?_,.tup upd_same (by simp [sizeLine_eq]) ?_,fun c hc=>?_⟩
    · rw [List.getElem?_map,show (ds.zip es)[i]? = some (ds[i],es[i]) from List.getElem?_zip_eq_some.mpr ⟨by simp [show i<ds.length by omega],by simp [show i<es.length by omega]⟩]
      rfl
    · have:=RdFs.cons (h12.kp (Kp.of s1)) (RdFs.cons (h22.kp (Kp.of s1)) RdFs.nil)
      rw [List.append_nil] at this
      exact this
    · rcases List.mem_append.mp hc with hc | hc
      · exact ⟨_,List.mem_cons_self,List.mem_cons_of_mem _ (h13.subset hc)⟩
      · exact ⟨_,List.mem_cons_of_mem _ List.mem_cons_self,List.mem_cons_of_mem _ (h23.subset hc)⟩
  stop:=fun H n h=>by
    obtain ⟨b1,xs,G1,e1,hb1,rb1,_,_⟩:=(told_of h List.mem_cons_self).list_inv
    obtain ⟨b2,ys,G2,e2,hb2,rb2,_,_⟩:=(told_of h (List.mem_cons_of_mem _ List.mem_cons_self)).list_inv
    cases e1
    cases e2
    have l1:=rb1.len
    have l2:=rb2.len
    refine ⟨xs,ys,SqL.of hb1,SqL.of hb2,?_⟩
    rw [List.length_map,List.length_zip]
    omega
end
section
variable {X:Cx} {tg e:Expr} {de:DE} {di:DI}
def dL (de:DE):DI:=fun δ P=>de δ fun x δ'=>match x with
  | .dat m (.list ds)=>P (mdIt m) ds δ'
  | _=>False
def dTp (de:DE):DI:=fun δ P=>de δ fun x δ'=>match x with
  | .dat m (.tuple ds)=>P (mdIt m) ds δ'
  | _=>False
theorem dil (h:PED X e de):PID X tg e (dL de):=by
  refine PI.imp (pi_list h) fun σ H R h=>?_
  obtain ⟨H0,Y,S,T,δ,P,rfl,hS,hA,hd,k⟩:=h
  refine ⟨H0,Y,S,T,δ,_,rfl,hS,hA,hd,fun x δ1 v F S1 H1 e1 e2 hA1 p1=>?_⟩
  split at p1
  · obtain ⟨a,xs,G,rfl,ha,ra,rfl,hz⟩:=(hA1.told mem_mid).list_inv
    exact ⟨a,rfl,⟨xs,SqL.of ha⟩,k _ _ δ1 _ [_] S1 H1 e1 e2 ((hA1.mid.wk (mdIt_wk _)).tomid) iter_list hz p1⟩
  · exact p1.elim
theorem dit (h:PED X e de):PID X tg e (dTp de):=by
  refine PI.imp (pi_tup h) fun σ H R h=>?_
  obtain ⟨H0,Y,S,T,δ,P,rfl,hS,hA,hd,k⟩:=h
  refine ⟨H0,Y,S,T,δ,_,rfl,hS,hA,hd,fun x δ1 v F S1 H1 e1 e2 hA1 p1=>?_⟩
  split at p1
  · obtain ⟨a,xs,rfl,ha,ra,hz⟩:=(hA1.told mem_mid).tup_inv
    exact ⟨a,rfl,⟨xs,SqT.of ha⟩,k _ _ δ1 _ [_] S1 H1 e1 e2 ((hA1.mid.wk (mdIt_wk _)).tomid) iter_tup hz p1⟩
  · exact p1.elim
variable {es:List Expr} {da:DA} {a b:Expr} {p pos tp:Pos} {elts:List Expr} {kt:Nat}
theorem di_range1 (hg:Gl X "range") (hm:X.mg "range" = none) (ha:PAD X [a] da) (hs:starEach [a] X.env=[(false,eval a X.env)]:=by rfl):PID X tg (.Call (.Name "range" p) [a] [] pos) (diRange1 da):=by
  refine PI.imp (pi_range1 hg hm ha hs) fun σ H R h=>?_
  obtain ⟨H0,Y,S,T,δ,P,rfl,hS,hA,hd,k⟩:=h
  refine ⟨H0,Y,S,T,δ,_,rfl,hS,hA,hd,fun xs δ' As us S' H' e1 e2 ex eu hA' p=>?_⟩
  split at p
  · obtain ⟨v,F,rfl,hA2⟩:=one_arg eu hA' ex
    obtain ⟨rfl,_⟩:=(hA2.told mem_mid).int_inv
    obtain ⟨j0,j1,pp⟩:=p
    refine ⟨_,rfl,by omega,by omega,k _ _ δ' _ [] S' H' e1 e2 hA2.drop iter_range (by rw [List.length_map,List.length_range]; exact sz2 (by omega)) ?_⟩
    simpa using pp
  · exact p.elim
theorem di_enum (hg:Gl X "enumerate") (hm:X.mg "enumerate" = none) (ha:PAD X [a] da) (hs:starEach [a] X.env=[(false,eval a X.env)]:=by rfl):PID X (.Tuple elts kt tp) (.Call (.Name "enumerate" p) [a] [] pos) (diEnum da):=by
  refine PI.imp (pi_enum hg hm ha hs) fun σ H R h=>?_
  obtain ⟨H0,Y,S,T,δ,P,rfl,hS,hA,hd,k⟩:=h
  refine ⟨H0,Y,S,T,δ,_,rfl,hS,hA,hd,fun xs δ' As us S' H' e1 e2 ex eu hA' p=>?_⟩
  split at p
  · obtain ⟨v,F,rfl,hA2⟩:=one_arg eu hA' ex
    obtain ⟨a,xs,G,rfl,ha,ra,rfl,hz⟩:=(hA2.told mem_mid).list_inv
    exact ⟨a,rfl,⟨xs,SqL.of ha⟩,k _ _ δ' _ [_] S' H' e1 e2 ((hA2.mid.wk (mdIt_wk _)).tomid) iter_enum (by rw [List.length_map,List.length_zipIdx]; exact hz) p⟩
  · exact p.elim
theorem di_zip (hg:Gl X "zip") (hm:X.mg "zip" = none) (ha:PAD X [a,b] da) (hs:starEach [a,b] X.env=(false,eval a X.env)::starEach [b] X.env:=by rfl) (hp:(backTo pos (starEach [b] X.env)).any (·.1)=false:=by rfl):PID X (.Tuple elts kt tp) (.Call (.Name "zip" p) [a,b] [] pos) (diZip da):=by
  refine PI.imp (pi_zip hg hm ha hs hp) fun σ H R h=>?_
  obtain ⟨H0,Y,S,T,δ,P,rfl,hS,hA,hd,k⟩:=h
  refine ⟨H0,Y,S,T,δ,_,rfl,hS,hA,hd,fun xs δ' As us S' H' e1 e2 ex eu hA' p=>?_⟩
  split at p
  · obtain ⟨v,F,w,G,rfl,hA2⟩:=two_args eu hA' ex
    obtain ⟨a,xs,G1,rfl,ha,ra,rfl,hz⟩:=(hA2.told mem_mid).list_inv
    obtain ⟨b,ys,G2,rfl,hb,rb,rfl,hz2⟩:=(hA2.told mem_mid2).list_inv
    refine ⟨a,b,rfl,⟨xs,SqL.of ha⟩,⟨ys,SqL.of hb⟩,k _ _ δ' _ [_,_] S' H' e1 e2 (((((hA2.mid.wk (mdIt_wk _)).tomid).swap.mid.wk (mdIt_wk _)).tomid).swap) iter_zip (by rw [List.length_map,List.length_zip]; omega) p⟩
  · exact p.elim
end
def dFor (di:DI) (dg:DG) (db:DB):DB:=fun D δ=>di δ fun m ds δ1=>m=.sh∧∃ I:Nat→DS→Prop,I 0 δ1 ∧
  (∀ i d δ',ds[i]? = some d→I i δ'→dg (.dat .sh d) δ' fun δ2=>db { D with nx:=I (i+1),ct:=I (i+1),bk:=D.nx } δ2)∧∀ δ',I ds.length δ'→D.nx δ'
section
variable {X:Cx} {tg iter:Expr} {di:DI} {dg:DG} {db:DB} {body:List Stmt} {pos:Pos}
theorem At.dropH {K:PySem.W.Frag} {H0 H:Hp} {X:Addr→Prop} {n:Nat} {S T hid:List Ent} {e:Ent} (h:At K H0 X n (S++e::(hid++T)) H):At K H0 X n (S++e::T) H:=h.sub ((List.Sublist.refl S).append ((List.sublist_append_right hid T).cons₂ e))
theorem ds_for (hp:PassesOwn (model X.prog X.w) X.A X.env X.xe) (hc:X.calm=true) (hi:PID X tg iter di) (hg:PGD X tg dg) (hb:PSsD X body db) (hs:∀ x,foldedSetIterable iter X.env x=pure x:=by intro _; rfl):PSD X (.For tg iter body [] pos) (dFor di dg db):=by
  refine PS.impD (ps_for hp hc hi hg hb hs) fun D σ H h=>?_
  obtain ⟨H0,Y,S,T,δ,P,rfl,hS,hT,hA,hd,k1,k2,k3,k4⟩:=h
  refine ⟨H0,Y,S,T,δ,_,rfl,hS,hA,hd,fun m ds δ1 J hid S1 H1 e1 e2 hA1 it hz p1=>?_⟩
  obtain ⟨rfl,I,h0,hs,hf⟩:=p1
  rw [← e1]
  have hT':∀ e∈hid++T,isPk e.x=false:=fun e he=>by
    rcases List.mem_append.mp he with he | he
    · exact it.np rfl e he
    · exact hT e he
  refine ⟨fun i q σ H=>q=ds.length - i∧i≤ds.length∧∃ S δ,vs S=σ∧Sl S δ∧At X.K H0 Y δ.n (S++(hid++T)) H∧I i δ,⟨ds.length,by simp,Nat.zero_le _,S1,δ1,rfl,e2,hA1,h0⟩,?_⟩
  rintro i q σ H ⟨rfl,hi,S2,δ2,rfl,e3,hA2,hI⟩
  have hid_ok:∀ e∈hid,EntOk X.K H δ2.n e:=fun e he=>hA2.ok e (List.mem_append_right _ (List.mem_append_left _ he))
  by_cases hlt:i<ds.length
  · refine .inr ⟨it.go H δ2.n i hid_ok hlt,fun σ' H'=>∃ S δ,vs S=σ'∧Sl S δ∧At X.K H0 Y δ.n (S++(hid++T)) H'∧I (i+1) δ,fun σ' H' q=>⟨ds.length - (i+1),by omega,rfl,hlt,q⟩,fun x H' y=>?_⟩
    obtain ⟨s1,d,F,h1,h2,h3⟩:=it.yld H δ2.n i x H' hid_ok hlt y
    refine ⟨H0,Y,S2,hid++T,δ2,.dat .sh d,F,_,rfl,e3,hA2.item s1 h2 h3 it.md it.hd it.np,hs i d δ2 h1 hI,fun δ3 S3 H3 e4 hA3 p3=>?_⟩
    refine ⟨H0,Y,S3,hid++T,δ3,_,rfl,e4,hT',hA3,p3,fun δ4 S4 H4 e5 hA4 p4=>⟨S4,δ4,rfl,e5,hA4,p4⟩,fun x δ4 v F S4 H4 e5 hA4 p4=>k2 x δ4 v F S4 H4 e5 hA4.dropH p4,
      fun δ4 S4 H4 e5 hA4 p4=>k1 δ4 S4 H4 e5 hA4.dropL p4,fun δ4 S4 H4 e5 hA4 p4=>⟨S4,δ4,rfl,e5,hA4,p4⟩⟩
  · have e:i=ds.length:=by omega
    subst e
    exact .inl ⟨it.stop H δ2.n hid_ok,k1 δ2 S2 H e3 hA2.dropL (hf δ2 hI)⟩
end
end DL
namespace Nd
open PySem PySem.Spec PyProof.Rows L2
end Nd
namespace Nd
open PySem PySem.Spec PyProof.Rows L2
section
variable {X:Cx}
theorem ps_setC2 {elt iter:Expr} {x x2 y0:Str} {px px2 pt py pos spos:Pos} {kt:Nat} {i0:Nat} {ifs:List Expr} {scope:Scope} {cl:List (Str×Addr)} {ys:List Str} {js:List Nat} {wi:TI} {tc:TT} {te:TE} (hN:X.N.Nodup) (hi0:X.N[i0]? = some y0) (hy0:X.env.scope.names.lookup y0=some .local) (C:CompScope X scope cl x ys js) (own2:OwnN scope x2) (nd2:(x::x2::ys).Nodup) (hc:X.calm=true) (hi:PI X (.Tuple [.Name x px,.Name x2 px2] kt pt) iter wi) (ht:∀ fp s H,PTs (cxComp X scope cl (x::x2::ys) fp s H) ifs tc) (he:∀ fp s H,PE (cxComp X scope cl (x::x2::ys) fp s H) elt te) (hs:∀ x,foldedSetIterable iter X.env x=pure x:=by intro _; rfl) (hsw:swapsWith (.ListComp elt [⟨.Tuple [.Name x px,.Name x2 px2] kt pt,iter,ifs,0⟩] scope pos) (some (.Name y0 py)) spos.line X.env=pure true:=by rfl):PS X (.Assign [.Name y0 py] (.ListComp elt [⟨.Tuple [.Name x px,.Name x2 px2] kt pt,iter,ifs,0⟩] scope pos) spos) (tAsg (tComp2 X.K wi js tc te) (gName i0)):=by
  intro pins s σ H De I h
  have h:tComp2 X.K wi js tc te σ H fun v H1=>De.nx (σ.set i0 (some v)) H1:=h
  rw [exec_Assign_Name_used _ _ _ _ hsw]
  refine wpAny_bind (wpAny_standAt (wpAny_bind ?_))
  show wpAny _ X.A (do let _ ← comprehension (.ListComp elt [⟨.Tuple [.Name x px,.Name x2 px2] kt pt,iter,ifs,0⟩] scope pos) scope X.env _ (newList []) false (eval iter X.env) (some (assign (.Name y0 py) X.env))) _ _ s
  refine wpAny_bind (wpAny_mono (wpAny_comprehension_free (use:=some (assign (.Name y0 py) X.env)) (Q:=fun _ s'=>SP X pins De .next s') rfl hs C.clos C.kind C.locs (thn (hi pins s σ H _ I h) fun v s1 h1=>thn h1 fun itv s2 h2=>?_)) (fun _ s' hq=>wpAny_pure (wpAny_pure hq)) fun _ _ e=>e)
  obtain ⟨it,fp,tn,J,H2,e,I2,T,st2,f2,q2⟩:=h2
  subst e
  have fD:H2 s2.heap.objs.size=none:=I2.hok.fresh (Nat.le_refl _)
  obtain ⟨W,⟨m0,w0⟩,turn⟩:=q2 s2.heap.objs.size fD
  refine wpAny_newObj_type ?_
  have I3:Inv X pins σ (upd H2 s2.heap.objs.size (.lst [])) { s2 with heap:=s2.heap.push { cls:=.type "list",dict:=none,data:=.seq ([]:List Value).toArray } } :=
    I2.laid (t':=s2.toks) (fun b u q=>Heap.get?_push_of_some _ q) (Nat.le_refl _) ⟨Nat.zero_le _,[],0,.nil,Heap.get?_push_size _ rfl⟩
  have nfp:∀ b∈fp,b≠s2.heap.objs.size:=fun b hb z=>by
    obtain ⟨o,q,_⟩:=T.obj _ _ st2 b hb
    have:=Heap.lt_size q
    rw [z] at this
    exact absurd this (Nat.lt_irrefl _)
  have f3:∀ b∈fp,FpOk X pins (upd H2 s2.heap.objs.size (.lst [])) b:=fun b hb=>⟨by rw [upd_ne (nfp b hb)]; exact (f2 b hb).1,(f2 b hb).2⟩
  generalize hS3:({ s2 with heap:=s2.heap.push { cls:=.type "list",dict:=none,data:=.seq ([]:List Value).toArray } }:Shared)=s3 at I3
  have st3:tn 0 s3.heap:=T.keep 0 _ _ st2 fun b hb o q=>by rw [← hS3]; exact Heap.get?_push_of_some _ q
  have o3:∀ b∈fp,∃ o,s3.heap.get? b=some o:=fun b hb=>let ⟨o,q,_⟩:=T.obj _ _ st3 b hb; ⟨o,q⟩
  show wpAny _ _ (newFunctionEnv scope X.env.globals cl [] X.env.qual none .none (some X.env)) _ _ _
  refine new_block C fun h4 hns4 keep4 new4=>?_
  have I4:∀ tk,Inv (cxComp X scope cl (x::x2::ys) fp s3 (upd H2 s2.heap.objs.size (.lst []))) [] (none::none::frees σ js) (upd H2 s2.heap.objs.size (.lst [])) { s3 with heap:=h4,toks:=tk }:=fun tk=>comp_start (pre:=[x,x2]) C I3 f3 o3 hns4 keep4 new4
  have st4:tn 0 h4:=T.keep 0 _ _ st3 fun b hb o q=>keep4 b o q
  generalize hX':cxComp X scope cl (x::x2::ys) fp s3 (upd H2 s2.heap.objs.size (.lst []))=X' at I4
  have eP:X'.prog=X.prog:=by rw [← hX']; rfl
  have eW:X'.w=X.w:=by rw [← hX']; rfl
  have eK:X'.K=X.K:=by rw [← hX']; rfl
  have eA:X'.A=X.A:=by rw [← hX']; rfl
  have eC:X'.calm=true:=by rw [← hX']; exact hc
  have stat:∀ {H':Hp},(∀ b∈fp,H' b=none)→∀ b∈fp,FpOk X' [] H' b:=fun {H'} hn b hb=>by
    have ok:=(I4 0).ok
    have hex:b∈X'.ex:=by rw [← hX']; exact hb
    exact ⟨hn b hb,(ok.exf b hex).1,ok.exfs b hex,.inl hex,(ok.exf b hex).2,fun p hp=>by rw [← hX'] at hp; cases (show p∈([]:List (Addr×Obj)) from hp)⟩
  have loop:∀ s5:Shared,s5={ s3 with heap:=h4,toks:=s3.toks+([]:List (Str×Value)).length } →
      codeAny (model X.prog X.w) X.A (.compLoop (.ListComp elt [⟨.Tuple [.Name x px,.Name x2 px2] kt pt,iter,ifs,0⟩] scope pos) 0 (.ref it) (.ref s2.heap.objs.size) (compEnvC scope (cellsFrom (s3.heap.objs.size+1) scope.names cl) s3.heap.objs.size X.env))
        (compPost (model X.prog X.w) X.A X.xe (some (assign (.Name y0 py) X.env)) (fun _ s'=>SP X pins De .next s') (.ref s2.heap.objs.size) s3.heap.objs.size) s5:=by
    rintro s5 rfl
    refine comp_turns (fun n s'=>∃ i o o2 H',Inv X' [] (o::o2::frees σ js) H' s'∧tn i s'.heap∧(∀ b∈fp,H' b=none)∧W i n H') ?_ m0
      ⟨0,none,none,_,I4 _,st4,fun b hb=>(f3 b hb).1,w0⟩
    rintro n s6 ⟨i,o,o2,H6,I6,st6,fr6,w6⟩
    rcases turn i n H6 w6 with ⟨stop,qn⟩ | ⟨go,step⟩
    · have hd:=T.done X' eP eW eK eC i [] s6 _ H6 (fun _ _=>False) I6 (stat fr6) st6 stop
      rw [eA] at hd
      refine thn hd fun r s7 ⟨hr,I7⟩=>?_
      subst hr
      obtain ⟨m7,hn7,_⟩:=I7.loc
      have hn7':s7.heap.Ns s3.heap.objs.size m7:=by rw [← hX'] at hn7; exact hn7
      have I7f:H6 s3.heap.objs.size=none:=by have:=I7.free; rw [← hX'] at this; exact this
      have b7:Un (frs X.stack) fp (upd H2 s2.heap.objs.size (.lst [])) H6 s3.heap s7.heap:=by have:=I7.base; rw [← hX'] at this; exact this
      have os7:s7.os=s3.os:=by have:=I7.os; rw [← hX'] at this; exact this
      have hok7:HOk X.prog X.w H6 s7.heap:=by have:=I7.hok; rw [eP,eW] at this; exact this
      have J7:Inv X pins σ H6 s7:=I3.call' (s':=s7) (ch:=fp) os7 b7 hok7 I7.bare (fun b hb=>⟨(f3 b hb).2.2.2.1,(f3 b hb).2.1,(f3 b hb).2.2.2.2.1,(f3 b hb).2.2.2.2.2⟩)
      have fC:FpOk X pins H6 s3.heap.objs.size:=I3.fpOk (Nat.le_refl _) I7f
      obtain ⟨oC,esC,epC,hoC,rC⟩:=id hn7'
      have J8:Inv X (pins++[(s3.heap.objs.size,oC)]) σ H6 s7:=J7.pins_of fun p hp=>by
        rcases List.mem_append.mp hp with z | z
        · have q:=J7.pin p (List.mem_append_right _ z)
          exact q
        · rw [List.mem_singleton.mp z]
          exact ⟨hoC,I7f,fC.2.1,fC.2.2.1,fun v hv=>by rw [rC.1] at hv; cases hv⟩
      refine thn (pg_name (X:=X) (i:=i0) (x:=y0) (pos:=py) hN hi0 (.inl hy0) (.inr hy0) (pins++[(s3.heap.objs.size,oC)]) s7 σ H6 (.ref s2.heap.objs.size) (.ref s2.heap.objs.size) (fun σ' H'=>σ'=σ.set i0 (some (.ref s2.heap.objs.size))∧H'=H6) J8 rfl ⟨rfl,rfl⟩) fun _ s9 ⟨σ9,H9,I9,e9,e9'⟩=>?_
      subst e9 e9'
      have hoC9:=(I9.pin (s3.heap.objs.size,oC) (List.mem_append_right _ (List.mem_append_right _ List.mem_cons_self))).1
      have I9':Inv X pins (σ.set i0 (some (.ref s2.heap.objs.size))) H9 s9:=I9.pins_of fun p hp=>I9.pin p (List.mem_append_right _ (List.mem_append_left _ hp))
      refine ⟨m7,hn7'.at fun o e=>by rw [hoC] at e; cases e; exact hoC9,fun h10 hs10=>?_⟩
      exact ⟨_,H9,turnedL (t':=s9.toks) (fp:=[s3.heap.objs.size]) I9' (fun b o hb e=>(hs10.2 b (fun z=>hb (by rw [z]; exact List.mem_cons_self))).trans e) (fun b hb=>by rw [List.mem_singleton.mp hb]; exact fC),qn⟩
    · have hit:=T.item X' eP eW eK eC i [] s6 _ H6 (fun _ _=>False) I6 (stat fr6) st6 go
      rw [eA] at hit
      refine thn hit fun r s7 ⟨u,hr,h7⟩=>?_
      subst hr
      refine thn h7 fun _ s8 ⟨y,H8,I8,r8,y8,st8,fr8⟩=>?_
      have I8':=I8.pinned (stat fr8) (T.obj _ _ st8)
      obtain ⟨tp,w1,w2,ey,hsq,N1,N2,hN1,hN2,hst⟩:=step y H8 y8
      have again:∀ {H9:Hp} {s9:Shared} {m':Nat},Inv X' ([]++pinsAt fp s8.heap) (some w1::some w2::frees σ js) H9 s9→m'<n→W (i+1) m' H9→∃ m,m<n∧∃ i o o2 H',Inv X' [] (o::o2::frees σ js) H' s9∧tn i s9.heap∧(∀ b∈fp,H' b=none)∧W i m H':=fun {H9 s9 m'} I9 hm w9=>by
        refine ⟨m',hm,i+1,some w1,some w2,H9,I9.unpinned,T.keep _ _ _ st8 fun b hb o e=>(I9.pin (b,o) (List.mem_append_right _ (List.mem_append_right _ (mem_pinsAt hb e)))).1,fun b hb=>?_,w9⟩
        obtain ⟨o,e,_⟩:=T.obj _ _ st8 b hb
        exact (I9.pin (b,o) (List.mem_append_right _ (List.mem_append_right _ (mem_pinsAt hb e)))).2.1
      subst hX'
      have g1:PG (cxComp X scope cl (x::x2::ys) fp s3 (upd H2 s2.heap.objs.size (.lst []))) (.Tuple [.Name x px,.Name x2 px2] kt pt) (gTup X.K 2 (gCons (gName 0) (gCons (gName 1) gNil))) :=
        pg_tup (X:=cxComp X scope cl (x::x2::ys) fp s3 (upd H2 s2.heap.objs.size (.lst []))) hc (pgs_cons (pg_name (i:=0) (x:=x) nd2 rfl (own_loc C.own) (own_fn C.own)) (pgs_cons (pg_name (i:=1) (x:=x2) nd2 rfl (own_loc own2) (own_fn own2)) pgs_nil))
      refine thn (g1 _ s8 _ H8 y u (fun σ' H'=>σ'=some w1::some w2::frees σ js∧H'=H8) I8' r8 ⟨tp,[w1,w2],ey,hsq,rfl,_,_,rfl,_,_,rfl,rfl,rfl,rfl⟩) fun _ s9 ⟨σ9,H9,I9,e9,e9'⟩=>?_
      subst e9 e9'
      refine thn (ht fp s3 _ _ s9 _ _ _ I9 hst) fun ok s10 ⟨H10,I10,q10⟩=>?_
      cases ok with
      | false =>
        rw [if_neg Bool.false_ne_true] at q10 ⊢
        obtain ⟨m',hm,w10⟩:=hN1 _ q10
        exact again I10 hm w10
      | true =>
        rw [if_pos rfl] at q10 ⊢
        refine thn (he fp s3 _ _ s10 _ _ _ I10 q10) fun z s11 ⟨vz,H11,I11,r11,q11⟩=>?_
        obtain ⟨acc,ha,hz,m',hm,w11⟩:=hN2 _ _ q11
        refine thn (mt_append _ s11 _ H11 (.ref s2.heap.objs.size) [vz] (.ref s2.heap.objs.size) [z] (fun _ H'=>H'=upd H11 s2.heap.objs.size (.lst (acc++[vz]))) I11 rfl (.cons r11 .nil) ⟨_,acc,vz,rfl,rfl,ha,hz,rfl⟩) fun _ s12 ⟨_,H12,I12,_,e12⟩=>?_
        subst e12
        exact again I12 hm w11
  exact codeAny_compStart_list (loop _ rfl) (T.self X.A 0 _ _ _ st4 (loop _ rfl))
end
end Nd
namespace DL
open PySem L2 Nd
def al (e:Ent):Ent:=match e.x with
  | .dat m d=>⟨e.v,.dat (pkOf m) d,e.F⟩
  | .val _=>e
  | .scr _=>e
  | _=>⟨e.v,.un,[]⟩
def alD:DV→DV
  | .dat m d=>.dat (pkOf m) d
  | .val v=>.val v
  | .scr ns=>.scr ns
  | _=>.un
def frAt (S:List Ent) (j:Nat):Ent:=match S[j]? with
  | some e=>al e
  | none=>⟨none,.un,[]⟩
def frE (S:List Ent) (js:List Nat):List Ent:=js.map (frAt S)
def frD1 (sl:List DV) (j:Nat):DV:=match sl[j]? with
  | some x=>alD x
  | none=>.un
def frD (sl:List DV) (js:List Nat):List DV:=js.map (frD1 sl)
theorem al_v (e:Ent):(al e).v=e.v:=by
  obtain ⟨v,x,F⟩:=e
  cases x <;> rfl
theorem al_x (e:Ent):(al e).x=alD e.x:=by
  obtain ⟨v,x,F⟩:=e
  cases x <;> rfl
theorem vs_fr (S:List Ent) (js:List Nat):vs (frE S js)=frees (vs S) js:=by
  unfold vs frE frees
  rw [List.map_map]
  refine List.map_congr_left fun j _=>?_
  rw [List.getElem?_map]
  simp only [Function.comp,frAt]
  cases S[j]? with
  | none=>rfl
  | some e=>exact al_v e
theorem sl_fr {S:List Ent} {δ:DS} (h:Sl S δ) (js:List Nat):(frE S js).map Ent.x=frD δ.sl js:=by
  unfold Sl at h
  unfold frE frD
  rw [List.map_map]
  refine List.map_congr_left fun j _=>?_
  simp only [Function.comp,frAt,frD1]
  rw [← h,List.getElem?_map]
  cases S[j]? with
  | none=>rfl
  | some e=>exact al_x e
section
variable {K:PySem.W.Frag} {H0 H H':Hp} {X:Addr→Prop} {n:Nat} {E S T:List Ent}
theorem cells_al (e:Ent):cells (al e)=[]:=by
  obtain ⟨v,x,F⟩:=e
  cases x with
  | dat m d=>cases m <;> rfl
  | _=>rfl
theorem At.view1 (h:At K H0 X n E H) {e:Ent} (he:e∈E):At K H0 X n (al e::E) H:=by
  refine h.push ?_ (fun f hf=>⟨fun _ a ha=>(by rw [cells_al] at ha; cases ha),fun hq a ha z=>?_⟩) fun a ha=>(by rw [cells_al] at ha; cases ha)
  · have:=h.ok e he
    obtain ⟨v,x,F⟩:=e
    cases x with
    | dat m d =>
      obtain ⟨w,h1,h2,_⟩:=this
      exact ⟨w,h1,h2,fun z=>(by cases m <;> cases z),fun z=>(by cases m <;> cases z)⟩
    | val v=>exact this
    | scr ns=>exact this
    | _=>exact (rfl:([]:List Addr)=[])
  · obtain ⟨v,x,F⟩:=e
    cases x with
    | dat m d =>
      rcases sep_of h he hf with rfl | q
      · rcases hq with hq | hq
        · cases m <;> first | cases hq; done | exact nomatch ha
        · cases hq
      · refine q.2 ?_ a ha z
        rcases hq with hq | hq
        · refine .inl ?_
          cases m <;> first | rfl | exact hq
        · exact .inr hq
    | val v =>
      rw [show F=[] from (h.ok _ he).2] at z
      cases z
    | scr ns =>
      obtain ⟨_,_,hF,_⟩:=h.ok _ he
      rw [show F=[] from hF] at z
      cases z
    | _=>exact nomatch z
theorem At.blank (h:At K H0 X n E H) {v:Option V}:At K H0 X n (⟨v,.un,[]⟩::E) H :=
  h.push (rfl:([]:List Addr)=[]) (fun f _=>⟨fun _ a ha=>(nomatch ha),fun _ a _=>List.not_mem_nil⟩) (fun a ha=>(nomatch ha))
theorem At.view (h:At K H0 X n E H) (hS:∀ e∈S,e∈E):∀ js:List Nat,At K H0 X n (frE S js++E) H
  | []=>h
  | j::js=>by
    have ih:=At.view h hS js
    show At K H0 X n (frAt S j::(frE S js++E)) H
    unfold frAt
    cases e:S[j]? with
    | none=>exact ih.blank
    | some x=>exact ih.view1 (List.mem_append_right _ (hS x (List.mem_of_getElem? e)))
theorem At.accNew (h:At K H0 X n E H) {D:Addr} (hD:H D=Option.none):At K H0 X n (⟨some (.ref D),.acc [],[D]⟩::E) (upd H D (.lst [])):=by
  have s1:=same_new hD (.lst [])
  refine (h.grow (n':=n) s1 (Nat.le_refl _)).push ⟨D,[],[],rfl,rfl,upd_same,.nil,Nat.zero_le _,List.not_mem_nil⟩ (fun f hf=>?_) fun a ha=>?_
  · have nf:=h.free hD f hf
    refine ⟨fun _ a ha z=>?_,fun _ a ha z=>?_⟩
    · rw [List.mem_singleton.mp ha] at z
      exact nf z
    · rw [List.mem_singleton.mp z] at ha
      exact nf (cells_sub _ _ ha)
  · rw [List.mem_singleton.mp ha]
    exact .inl (h.new0 hD)
theorem At.accPutG {D:Addr} {ds:List PyData} {v:V} {m:Md} {e:PyData} {F G:List Addr} (h:At K H0 X n (⟨some (.ref D),.acc ds,D::G⟩::⟨some v,.dat m e,F⟩::E) H) (hm:m≠.pk) (hz:ds.length+1≤sizeLine):∃ xs,H D=some (.lst xs)∧xs.length=ds.length∧At K H0 X n (⟨some (.ref D),.acc (ds++[e]),D::(G++F)⟩::E) (upd H D (.lst (xs++[v]))):=by
  obtain ⟨a,xs,G',e1,e0,ha,ra,_,nG⟩:=h.ok _ List.mem_cons_self
  have e1':some (V.ref D)=some (V.ref a):=e1
  cases e1'
  have e0':D::G=D::G':=e0
  cases e0'
  have r:RdF K H v e F:=h.told (List.mem_cons_of_mem _ List.mem_cons_self)
  have hs:=List.pairwise_cons.mp h.sep
  have hs2:=List.pairwise_cons.mp hs.2
  have h1:=(h.sub (List.sublist_cons_self _ _)).sub (List.sublist_cons_self _ _)
  have npk:isPk (.dat m e)=false:=by cases m <;> first | rfl | exact absurd rfl hm
  have nF:D∉F:=(hs.1 _ List.mem_cons_self).1 (.inr rfl) D List.mem_cons_self
  have kp:∀ {F:List Addr},D∉F→Kp F H (upd H D (.lst (xs++[v]))):=fun {F} hF b o q z=>by
    have : b≠D:=by
      rintro rfl
      rw [ha] at q
      cases q
      rcases z with z | z
      · exact hF z
      · rcases z with ⟨_,z⟩ | ⟨_,_,z⟩ <;> cases z
    rw [upd_ne this]
    exact q
  have nD:H0 D=Option.none:=by
    rcases h.new _ List.mem_cons_self D List.mem_cons_self with z | z
    · exact z
    · cases z.2
  refine ⟨xs,ha,ra.len,?_⟩
  refine ⟨fun f hf=>?_,?_,fun f hf=>?_,fun b o nx q=>?_,fun b o q=>?_,fun b hb=>?_⟩
  rotate_right
  · obtain ⟨z,c,k,f,h1,h2⟩:=h.xd b hb
    refine ⟨z,c,k,f,(upd_ne ?_).trans h1,h2⟩
    rintro rfl
    exact z nD
  · rcases List.mem_cons.mp hf with rfl | hf
    · exact ⟨D,xs++[v],G++F,rfl,rfl,upd_same,(ra.kp (kp nG)).snoc (r.kp (kp nF)),by rw [List.length_append]; exact hz,fun z=>(List.mem_append.mp z).elim nG nF⟩
    · exact (h1.ok f hf).kp (kp ((hs.1 f (List.mem_cons_of_mem _ hf)).1 (.inr rfl) D List.mem_cons_self)) (Nat.le_refl _)
  · refine List.pairwise_cons.mpr ⟨fun f hf=>⟨fun hq a ha'=>(hs.1 f (List.mem_cons_of_mem _ hf)).1 (.inr rfl) a ha',fun hq a ha' z=>?_⟩,hs2.2⟩
    have z1:=(hs.1 f (List.mem_cons_of_mem _ hf)).2 (.inl rfl) a ha'
    rcases List.mem_cons.mp z with z | z
    · exact z1 (z▸List.mem_cons_self)
    · rcases List.mem_append.mp z with z | z
      · exact z1 (List.mem_cons_of_mem _ z)
      · exact (hs2.1 f hf).2 (.inl npk) a ha' z
  · rcases List.mem_cons.mp hf with rfl | hf
    · intro a ha'
      rw [List.mem_singleton.mp ha']
      exact .inl nD
    · exact h1.new f hf
  · rw [upd_ne (ne_of_none q nD)]
    exact h.same b o nx q
  · rw [upd_ne (ne_of_none q nD)]
    exact h.dom b o q
theorem At.accPut {D:Addr} {ds:List PyData} {v:V} {e:PyData} (h:At K H0 X n (⟨some (.ref D),.acc ds,[D]⟩::E) H) (r:RdF K H v e []) (hz:ds.length+1≤sizeLine):∃ xs,H D=some (.lst xs)∧xs.length=ds.length∧At K H0 X n (⟨some (.ref D),.acc (ds++[e]),[D]⟩::E) (upd H D (.lst (xs++[v]))) :=
  At.accPutG (m:=.ow) (At.pushI (S:=[⟨some (.ref D),.acc ds,[D]⟩]) h r) (by decide) hz
def accMd:Bool→Md
  | true=>.ow
  | false=>.tp
theorem At.accGetG {D:Addr} {ds:List PyData} {b:Bool} {G:List Addr} (h:At K H0 X n (⟨some (.ref D),.acc ds,D::G⟩::E) H) (hb:b=true→G=[]):At K H0 X n (⟨some (.ref D),.dat (accMd b) (.list ds),D::G⟩::E) H:=by
  obtain ⟨a,xs,G',e1,e0,ha,ra,hz,nG⟩:=h.ok _ List.mem_cons_self
  have e1':some (V.ref D)=some (V.ref a):=e1
  cases e1'
  have e0':D::G=D::G':=e0
  cases e0'
  have hs:=List.pairwise_cons.mp h.sep
  have cs:∀ a∈cells ⟨some (.ref D),.dat (accMd b) (.list ds),D::G⟩,a=D:=fun a ha'=>by
    cases b with
    | true=>rw [hb rfl] at ha'; exact List.mem_singleton.mp ha'
    | false=>exact List.mem_singleton.mp ha'
  refine (h.sub (List.sublist_cons_self _ _)).push ⟨_,rfl,.lst ha hz ra,fun z=>?_,fun _ a l e=>?_⟩ (fun f hf=>⟨fun hq a ha'=>?_,fun hq a ha'=>(hs.1 f hf).2 (.inl rfl) a ha'⟩) fun a ha'=>?_
  · cases b with
    | true=>rw [hb rfl]; exact List.nodup_cons.mpr ⟨List.not_mem_nil,List.nodup_nil⟩
    | false=>cases z
  · have e:D::G=a::l:=e
    cases e
    exact nG
  · rw [cs a ha']
    exact (hs.1 f hf).1 (.inr rfl) D List.mem_cons_self
  · rw [cs a ha']
    rcases h.new _ List.mem_cons_self D List.mem_cons_self with z | z
    · exact .inl z
    · cases z.2
end
def dNoTest:DT:=fun δ P=>P true δ
def itemOk (b:Bool) (m:Md) (e:PyData):Prop:=match b with
  | true=>imm e=true
  | false=>m≠.pk
def compStepG (b:Bool) (dc:DT) (de:DE) (δ:DS) (yes:PyData→Nat→Prop) (no:Nat→Prop):Prop:=dc δ fun c δ2=>match c with
  | true=>de δ2 fun y δ3=>match y with
    | .dat m e=>itemOk b m e∧yes e δ3.n
    | _=>False
  | false=>no δ2.n
def dCompG (b:Bool) (di:DI) (js:List Nat) (dc:DT) (de:DE):DE:=fun δ P=>di δ fun m ds δ1=>∃ I:Nat→List PyData→Nat→Prop,I 0 [] δ1.n ∧
  (∀ i d acc n,ds[i]? = some d→I i acc n→compStepG b dc de ⟨.dat m d::frD δ1.sl js,n⟩ (fun e n'=>I (i+1) (acc++[e]) n') (fun n'=>I (i+1) acc n')) ∧
  ∀ acc n,I ds.length acc n→P (.dat (accMd b) (.list acc)) ⟨δ1.sl,n⟩
def dCompG2 (b:Bool) (di:DI) (js:List Nat) (dc:DT) (de:DE):DE:=fun δ P=>di δ fun m ds δ1=>∃ I:Nat→List PyData→Nat→Prop,I 0 [] δ1.n ∧
  (∀ i d acc n,ds[i]? = some d→I i acc n→∃ d1 d2,d=.tuple [d1,d2]∧compStepG b dc de ⟨.dat m d1::.dat m d2::frD δ1.sl js,n⟩ (fun e n'=>I (i+1) (acc++[e]) n') (fun n'=>I (i+1) acc n')) ∧
  ∀ acc n,I ds.length acc n→P (.dat (accMd b) (.list acc)) ⟨δ1.sl,n⟩
def compStep:DT→DE→DS→(PyData→Nat→Prop)→(Nat→Prop)→Prop:=compStepG true
def dComp:DI→List Nat→DT→DE→DE:=dCompG true
def dComp2:DI→List Nat→DT→DE→DE:=dCompG2 true
section
variable {K:PySem.W.Frag} {H0 H H':Hp} {Y:Addr→Prop} {n:Nat} {E S T:List Ent}
theorem step_leG {b:Bool} {dc:DT} {de:DE} {δ:DS} {yes:PyData→Nat→Prop} {no:Nat→Prop} {D:Addr} {G:List Addr} {acc:List PyData} {N1:Hp→Prop} {N2:VK} (hS:Sl S δ) (hb:b=true→G=[]) (hA:At K H0 Y δ.n (S++⟨some (.ref D),.acc acc,D::G⟩::T) H) (h:compStepG b dc de δ yes no) (hz:acc.length+1≤sizeLine) (k1:∀ n' H',At K H0 Y n' (⟨some (.ref D),.acc acc,D::G⟩::T) H'→no n'→N1 H') (k2:∀ e n' v H' G',(b=true→G'=[])→(∃ xs,H' D=some (.lst xs)∧xs.length=acc.length∧At K H0 Y n' (⟨some (.ref D),.acc (acc++[e]),D::G'⟩::T) (upd H' D (.lst (xs++[v]))))→yes e n'→N2 v H'):LT K dc (vs S) H fun c H2=>if c=true then LE K de (vs S) H2 N2 else N1 H2:=by
  refine ⟨H0,Y,S,⟨some (.ref D),.acc acc,D::G⟩::T,δ,_,rfl,hS,hA,h,fun c δ2 S2 H2 e1 e2 hA2 p2=>?_⟩
  cases c with
  | false=>exact iteF (k1 _ _ (hA2.sub (List.sublist_append_right _ _)) p2)
  | true =>
    refine iteT ⟨H0,Y,S2,⟨some (.ref D),.acc acc,D::G⟩::T,δ2,_,e1,e2,hA2,p2,fun y δ3 v F S3 H3 e3 e4 hA3 p3=>?_⟩
    split at p3
    · rename_i m e
      have r:=hA3.told mem_mid
      cases b with
      | true =>
        obtain rfl:=r.imm p3.1
        obtain rfl:=hb rfl
        exact k2 _ _ _ _ [] (fun _=>rfl) ((hA3.drop.sub (List.sublist_append_right _ _)).accPut r hz) p3.2
      | false =>
        have hA4:At K H0 Y δ3.n (⟨some v,.dat m e,F⟩::⟨some (.ref D),.acc acc,D::G⟩::T) H3:=hA3.sub (List.sublist_append_right _ _)
        exact k2 _ _ _ _ (G++F) (fun z=>nomatch z) ((hA4.perm (List.Perm.swap _ _ _)).accPutG p3.1 hz) p3.2
    · exact p3.elim
theorem noTest_le {dt:TT}:∀ σ H Q,LT K dNoTest σ H Q→tNoTest σ H Q:=by
  intro σ H Q h
  obtain ⟨H0,Y,S,T,δ,P,rfl,hS,hA,hd,k⟩:=h
  exact k true δ S H rfl hS hA hd
theorem PTs.imp {X:Cx} {e:List Expr} {t t':TT} (h:PTs X e t) (k:∀ σ H Q,t' σ H Q→t σ H Q):PTs X e t':=fun pins s σ H Q I q=>h pins s σ H Q I (k σ H Q q)
theorem comp_le {b:Bool} {di:DI} {js:List Nat} {dc:DT} {de:DE}:∀ σ H Q,LE K (dCompG b di js dc de) σ H Q→tComp (LI K di) js (LT K dc) (LE K de) σ H Q:=by
  intro σ H Q h
  obtain ⟨H0,Y,S,T,δ,P,rfl,hS,hA,hd,k⟩:=h
  refine ⟨H0,Y,S,T,δ,_,rfl,hS,hA,hd,fun m ds δ1 J hid S1 H1 e1 e2 hA1 it hz p1=>?_⟩
  obtain ⟨I,h0,hs,hf⟩:=p1
  rw [← e1]
  intro D hD
  refine ⟨fun i q H=>q=ds.length - i∧i≤ds.length∧∃ acc n G,(b=true→G=[])∧At K H0 Y n (⟨some (.ref D),.acc acc,D::G⟩::(S1++(hid++T))) H∧acc.length≤i∧I i acc n,⟨ds.length,by simp,Nat.zero_le _,[],δ1.n,[],fun _=>rfl,hA1.accNew hD,Nat.le_refl _,h0⟩,?_⟩
  rintro i q H ⟨rfl,hi,acc,n,G,hG,hA2,hl,hI⟩
  have hid_ok:∀ e∈hid,EntOk K H n e:=fun e he=>hA2.ok e (List.mem_cons_of_mem _ (List.mem_append_right _ (List.mem_append_left _ he)))
  by_cases hlt:i<ds.length
  · refine .inr ⟨it.go H n i hid_ok hlt,fun x H' y=>?_⟩
    obtain ⟨s1,d,F,h1,h2,h3⟩:=it.yld H n i x H' hid_ok hlt y
    have hA3:At K H0 Y n ((⟨some (.ref D),.acc acc,D::G⟩::S1)++⟨some x,.dat m d,F⟩::(hid++T)) H':=At.item (S:=⟨some (.ref D),.acc acc,D::G⟩::S1) hA2 s1 h2 h3 it.md it.hd it.np
    have hA4:=hA3.mid
    have hA5:=At.view (S:=S1) hA4 (fun e he=>List.mem_cons_of_mem _ (List.mem_append_left _ (List.mem_cons_of_mem _ he))) js
    have hA6:At K H0 Y n ((⟨some x,.dat m d,F⟩::frE S1 js)++⟨some (.ref D),.acc acc,D::G⟩::(S1++(hid++T))) H':=hA5.mid
    have hS6:Sl (⟨some x,.dat m d,F⟩::frE S1 js) ⟨.dat m d::frD δ1.sl js,n⟩:=by
      unfold Sl
      rw [List.map_cons,sl_fr e2]
    have hv:vs (⟨some x,.dat m d,F⟩::frE S1 js)=some x::frees (vs S1) js:=by
      rw [← vs_fr]
      rfl
    refine ⟨fun H2=>∃ m',m'<ds.length - i∧_,fun y H3=>∃ acc,H3 D=some (.lst acc)∧acc.length<sizeLine∧∃ m',m'<ds.length - i∧_,fun H2 q=>q,fun y H3 q=>q,?_⟩
    rw [← hv]
    refine step_leG hS6 hG hA6 (hs i d acc n h1 hI) (by omega) (fun n' H2 hA7 p=>?_) (fun e n' v H2 G' hG' hA7 p=>?_)
    · exact ⟨ds.length - (i+1),by omega,rfl,hlt,acc,n',G,hG,hA7,by omega,p⟩
    · obtain ⟨xs,g1,g2,g3⟩:=hA7
      exact ⟨xs,g1,by omega,ds.length - (i+1),by omega,rfl,hlt,acc++[e],n',G',hG',g3,by rw [List.length_append]; simp; omega,p⟩
  · have e:i=ds.length:=by omega
    subst e
    refine .inl ⟨it.stop H n hid_ok,k _ ⟨δ1.sl,n⟩ _ (D::G) S1 H e1 e2 ?_ (hf acc n hI)⟩
    have hA3:=hA2.accGetG hG
    have hA4:At K H0 Y n (⟨some (.ref D),.dat (accMd b) (.list acc),D::G⟩::(S1++T)) H:=hA3.sub (((List.Sublist.refl S1).append (List.sublist_append_right hid T)).cons₂ _)
    exact hA4.tomid
theorem comp2_le {b:Bool} {di:DI} {js:List Nat} {dc:DT} {de:DE}:∀ σ H Q,LE K (dCompG2 b di js dc de) σ H Q→tComp2 K (LI K di) js (LT K dc) (LE K de) σ H Q:=by
  intro σ H Q h
  obtain ⟨H0,Y,S,T,δ,P,rfl,hS,hA,hd,k⟩:=h
  refine ⟨H0,Y,S,T,δ,_,rfl,hS,hA,hd,fun m ds δ1 J hid S1 H1 e1 e2 hA1 it hz p1=>?_⟩
  obtain ⟨I,h0,hs,hf⟩:=p1
  rw [← e1]
  intro D hD
  refine ⟨fun i q H=>q=ds.length - i∧i≤ds.length∧∃ acc n G,(b=true→G=[])∧At K H0 Y n (⟨some (.ref D),.acc acc,D::G⟩::(S1++(hid++T))) H∧acc.length≤i∧I i acc n,⟨ds.length,by simp,Nat.zero_le _,[],δ1.n,[],fun _=>rfl,hA1.accNew hD,Nat.le_refl _,h0⟩,?_⟩
  rintro i q H ⟨rfl,hi,acc,n,G,hG,hA2,hl,hI⟩
  have hid_ok:∀ e∈hid,EntOk K H n e:=fun e he=>hA2.ok e (List.mem_cons_of_mem _ (List.mem_append_right _ (List.mem_append_left _ he)))
  by_cases hlt:i<ds.length
  · refine .inr ⟨it.go H n i hid_ok hlt,fun x H' y=>?_⟩
    obtain ⟨s1,d,F,h1,h2,h3⟩:=it.yld H n i x H' hid_ok hlt y
    obtain ⟨d1,d2,rfl,hst⟩:=hs i d acc n h1 hI
    obtain ⟨t,xs,rfl,ht,rt,_⟩:=h2.tup_inv
    cases rt with
    | @cons w1 _ xs _ F1 _ r1 rt =>
      cases rt with
      | @cons w2 _ xs _ F2 G r2 rt =>
        cases rt
        have hA3:At K H0 Y n ((⟨some (.ref D),.acc acc,D::G⟩::S1)++⟨some w1,.dat m d1,F1⟩::(hid++T)) H':=At.item (S:=⟨some (.ref D),.acc acc,D::G⟩::S1) hA2 s1 r1 (fun a ha=>h3 a (List.mem_append_left _ ha)) it.md it.hd it.np
        have hA3':At K H0 Y n ((⟨some w1,.dat m d1,F1⟩::⟨some (.ref D),.acc acc,D::G⟩::S1)++(hid++T)) H':=hA3.mid
        have hA3'':At K H0 Y n ((⟨some w1,.dat m d1,F1⟩::⟨some (.ref D),.acc acc,D::G⟩::S1)++⟨some w2,.dat m d2,F2⟩::(hid++T)) H':=At.item hA3' (Same.refl _) r2 (fun a ha=>h3 a (List.mem_append_right _ (List.mem_append_left _ ha))) it.md it.hd it.np
        have hA4:At K H0 Y n (⟨some w1,.dat m d1,F1⟩::⟨some w2,.dat m d2,F2⟩::⟨some (.ref D),.acc acc,D::G⟩::(S1++(hid++T))) H':=hA3''.mid.perm (List.Perm.swap _ _ _)
        have hA5:=At.view (S:=S1) hA4 (fun e he=>List.mem_cons_of_mem _ (List.mem_cons_of_mem _ (List.mem_cons_of_mem _ (List.mem_append_left _ he)))) js
        have hA6:At K H0 Y n ((⟨some w1,.dat m d1,F1⟩::⟨some w2,.dat m d2,F2⟩::frE S1 js)++⟨some (.ref D),.acc acc,D::G⟩::(S1++(hid++T))) H':=by
          have z:=hA5.mid
          refine z.perm ?_
          exact (List.perm_middle).cons _
        have hS6:Sl (⟨some w1,.dat m d1,F1⟩::⟨some w2,.dat m d2,F2⟩::frE S1 js) ⟨.dat m d1::.dat m d2::frD δ1.sl js,n⟩:=by
          unfold Sl
          rw [List.map_cons,List.map_cons,sl_fr e2]
        have hv:vs (⟨some w1,.dat m d1,F1⟩::⟨some w2,.dat m d2,F2⟩::frE S1 js)=some w1::some w2::frees (vs S1) js:=by
          rw [← vs_fr]
          rfl
        refine ⟨t,w1,w2,rfl,SqT.of ht,fun H2=>∃ m',m'<ds.length - i∧_,fun y H3=>∃ acc,H3 D=some (.lst acc)∧acc.length<sizeLine∧∃ m',m'<ds.length - i∧_,fun H2 q=>q,fun y H3 q=>q,?_⟩
        rw [← hv]
        refine step_leG hS6 hG hA6 hst (by omega) (fun n' H2 hA7 p=>?_) (fun e n' v H2 G' hG' hA7 p=>?_)
        · exact ⟨ds.length - (i+1),by omega,rfl,hlt,acc,n',G,hG,hA7,by omega,p⟩
        · obtain ⟨xs,g1,g2,g3⟩:=hA7
          exact ⟨xs,g1,by omega,ds.length - (i+1),by omega,rfl,hlt,acc++[e],n',G',hG',g3,by rw [List.length_append]; simp; omega,p⟩
  · have e:i=ds.length:=by omega
    subst e
    refine .inl ⟨it.stop H n hid_ok,k _ ⟨δ1.sl,n⟩ _ (D::G) S1 H e1 e2 ?_ (hf acc n hI)⟩
    have hA3:=hA2.accGetG hG
    have hA4:At K H0 Y n (⟨some (.ref D),.dat (accMd b) (.list acc),D::G⟩::(S1++T)) H:=hA3.sub (((List.Sublist.refl S1).append (List.sublist_append_right hid T)).cons₂ _)
    exact hA4.tomid
end
section
variable {X:Cx} {elt iter c:Expr} {x x2 y0:Str} {px px2 pt py pos spos:Pos} {kt i0:Nat} {ifs:List Expr} {scope:Scope} {cl:List (Str×Addr)} {ys:List Str} {js:List Nat} {di:DI} {dc:DT} {de:DE}
theorem dts_none:PTs X [] (LT X.K dNoTest):=PTs.imp pts_none (noTest_le (dt:=tNoTest))
theorem dts_one (h:PTD X c dc):PTs X [c] (LT X.K dc):=pts_one h
theorem dp_comp (C:CompScope X scope cl x ys js) (hc:X.calm=true) (hi:PID X (.Name x px) iter di) (ht:∀ fp s H,PTs (cxComp X scope cl (x::ys) fp s H) ifs (LT X.K dc)) (he:∀ fp s H,PED (cxComp X scope cl (x::ys) fp s H) elt de) (hs:∀ x,foldedSetIterable iter X.env x=pure x:=by intro _; rfl):PED X (.ListComp elt [⟨.Name x px,iter,ifs,0⟩] scope pos) (dComp di js dc de):=PE.imp (pe_comp C hc hi ht he hs) comp_le
def dgN (o:Bool) (i:Nat):DG:=match o with
  | true=>dgOwn i
  | false=>dgName i
theorem n_le {K:PySem.W.Frag} {o:Bool} {i:Nat}:∀ v σ H Q,LG K (dgN o i) v σ H Q→gName i v σ H Q:=by
  cases o with
  | true=>exact own_le
  | false=>exact name_le
theorem ds_setC2 {o:Bool} (hN:X.N.Nodup) (hi0:X.N[i0]? = some y0) (hy0:X.env.scope.names.lookup y0=some .local) (C:CompScope X scope cl x ys js) (own2:OwnN scope x2) (nd2:(x::x2::ys).Nodup) (hc:X.calm=true) (hi:PID X (.Tuple [.Name x px,.Name x2 px2] kt pt) iter di) (ht:∀ fp s H,PTs (cxComp X scope cl (x::x2::ys) fp s H) ifs (LT X.K dc)) (he:∀ fp s H,PED (cxComp X scope cl (x::x2::ys) fp s H) elt de) (hs:∀ x,foldedSetIterable iter X.env x=pure x:=by intro _; rfl) (hsw:swapsWith (.ListComp elt [⟨.Tuple [.Name x px,.Name x2 px2] kt pt,iter,ifs,0⟩] scope pos) (some (.Name y0 py)) spos.line X.env=pure true:=by rfl):PSD X (.Assign [.Name y0 py] (.ListComp elt [⟨.Tuple [.Name x px,.Name x2 px2] kt pt,iter,ifs,0⟩] scope pos) spos) (dAsg (dComp2 di js dc de) (dgN o i0)):=PS.impD (ps_setC2 hN hi0 hy0 C own2 nd2 hc hi ht he hs hsw) (asg_le comp2_le n_le)
end
end DL
namespace DL
open PySem PySem.Spec PyProof.Rows L2 Nd
section
variable {K:PySem.W.Frag} {H0 H H':Hp} {X:Addr→Prop} {n n':Nat} {E S T:List Ent}
theorem At.pushF (h:At K H0 X n E H) {v:V} {d:PyData} {F:List Addr} (r:RdF K H v d F) (nd:F.Nodup) (fr:∀ a∈F,∀ f∈E,a∉f.F) (f0:∀ a∈F,H0 a=none):At K H0 X n (⟨some v,.dat .ow d,F⟩::E) H:=by
  refine h.push ⟨v,rfl,r,fun _=>nd,fun z=>nomatch z⟩ (fun f hf=>⟨fun _ a ha z=>fr a ha f hf z,fun _ a ha z=>fr a z f hf (cells_sub _ _ ha)⟩) fun a ha=>.inl (f0 a ha)
theorem At.drawn (h:At K H0 X n E H) {e:Ent} {dr:Addr} (he:e∈E) (hx:e.x=.drw) (hv:e.v=some (.ref dr)) (s:SameB dr H H') (hd:∃ c k f,Draw H' dr c k f∧0≤k∧k≤(n':Int)) (hn:n≤n'):At K H0 X n' E H':=by
  obtain ⟨v,x,F⟩:=e
  have hx':x=.drw:=hx
  subst hx'
  obtain ⟨dr',c0,k0,f0,hv',hF,hd0,_⟩:=h.ok _ he
  have e1:some (V.ref dr)=some (V.ref dr'):=hv.symm.trans hv'
  cases e1
  have hF':F=[dr]:=hF
  subst hF'
  refine ⟨fun f hf=>?_,h.sep,h.new,fun b o nx q=>?_,fun b o q=>?_,fun b hb=>?_⟩
  rotate_right
  · obtain ⟨z,c,k,f,h1,h2,h3⟩:=h.xd b hb
    by_cases hbd:b=dr
    · subst hbd
      exact ⟨z,hd⟩
    · exact ⟨z,c,k,f,s _ _ hbd h1,h2,by omega⟩
  · rcases sep_of h he hf with rfl | q
    · obtain ⟨c,k,fl,h1,h2,h3⟩:=hd
      exact ⟨dr,c,k,fl,hv',rfl,h1,h2,h3⟩
    · have nf:dr∉f.F:=q.1 (.inr rfl) dr List.mem_cons_self
      refine (h.ok f hf).kp (fun b o eb z=>?_) hn
      by_cases hb:b=dr
      · subst hb
        rcases z with z | z
        · exact absurd z nf
        · have hd0':H b=some (.lst _):=hd0
          rw [eb] at hd0'
          cases hd0'
          rcases z with ⟨_,z⟩ | ⟨_,_,z⟩ <;> cases z
      · exact s b o hb eb
  · have hb:b≠dr:=by
      rintro rfl
      rcases h.new _ he b List.mem_cons_self with z | z
      · rw [z] at q; cases q
      · exact nx z.1
    exact s b o hb (h.same b o nx q)
  · by_cases hb:b=dr
    · subst hb
      obtain ⟨c,k,fl,h1,_⟩:=hd
      exact ⟨_,h1⟩
    · obtain ⟨o',z⟩:=h.dom b o q
      exact ⟨o',s b o' hb z⟩
end
abbrev PF:=List PyData→(PyData→Prop)→Prop
abbrev DF:=List PyData→Nat→(PyData→Nat→Prop)→Prop
def SpP (K:PySem.W.Frag) (pf:PF):Sp:=fun us H Q _=>∃ (As:List Ent) (n:Nat) (ds:List PyData) (R:PyData→Prop),As.map Ent.v=us.map some∧(∀ e∈As,EntOk K H n e)∧datas (As.map Ent.x)=some ds∧pf ds R ∧
  ∀ v d F H',R d→RdF K H' v d F→F.Nodup→(∀ a∈F,H a=none)→Same H H'→Q v H'
def SpW (K:PySem.W.Frag) (df:DF):Sp:=fun us H Q _=>∃ (dr:Addr) (ws:List V) (As:List Ent) (n:Nat) (ds:List PyData) (R:PyData→Nat→Prop),us=.ref dr::ws∧As.map Ent.v=ws.map some∧(∀ e∈As,EntOk K H n e)∧(∀ e∈As,dr∉e.F)∧(∃ c k f,Draw H dr c k f∧0≤k∧k≤(n:Int))∧datas (As.map Ent.x)=some ds∧df ds n R ∧
  ∀ v d F n' H',n≤n'→R d n'→RdF K H' v d F→F.Nodup→(∀ a∈F,H a=none)→(∃ c k f,Draw H' dr c k f∧0≤k∧k≤(n':Int))→SameB dr H H'→Q v H'
def dCall (pf:PF) (da:DA):DE:=fun δ P=>da δ fun xs δ1=>match datas xs with
  | some ds=>pf ds fun d=>P (.dat .ow d) δ1
  | none=>False
def dCallW (i:Nat) (df:DF) (da:DA):DE:=fun δ P=>match δ.sl[i]? with
  | some .drw=>da δ fun xs δ1=>match δ1.sl[i]? with
    | some .drw=>match datas xs with
      | some ds=>df ds δ1.n fun d n'=>P (.dat .ow d) ⟨δ1.sl,n'⟩
      | none=>False
    | _=>False
  | _=>False
section
variable {X:Cx} {CX:CXT} {k:Nat} {f:Addr} {fd:FuncData} {ps:List Str} {pf:PF} {df:DF} {E:XK} {x:Str} {p pos:Pos} {e e0:Expr} {es:List Expr} {da:DA}
theorem dp_call (F:FnOk X.prog X.w X.K X.mg X.base CX k f fd ps (SpP X.K pf)) (hr:Room k X.A) (hg:Gl X x) (hm:X.mg x=some (.ref f)) (hk:PySem.W.keepIn X.K (.ref f)=true) (hb:Binds X.K fd ps []) (hx:Passes CX X E) (ha:PAD X (e::es) da) (hdb:(x == ("__debug__" : Str))=false:=by decide) (he:starEach (e::es) X.env=(false,eval e X.env)::starEach es X.env:=by rfl) (hpl:(backTo pos (starEach es X.env)).any (·.1)=false:=by rfl):PED X (.Call (.Name x p) (e::es) [] pos) (dCall pf da):=by
  refine PE.imp (pe_call F hr hg hm hk hb .nil hx ha hdb he hpl) fun σ H Q h=>?_
  obtain ⟨H0,Y,S,T,δ,P,rfl,hS,hA,hd,kk⟩:=h
  refine ⟨H0,Y,S,T,δ,_,rfl,hS,hA,hd,fun xs δ' As us S' H' e1 e2 ex eu hA' p=>?_⟩
  subst ex
  cases q:datas (As.map Ent.x) with
  | none=>rw [q] at p; exact p.elim
  | some ds =>
    rw [q] at p
    rw [List.append_nil]
    refine ⟨As,δ'.n,ds,_,eu,fun e he=>hA'.ok e (List.mem_append_right _ (List.mem_append_left _ he)),q,p,fun v d F H'' r rd nd fr s=>?_⟩
    exact kk _ δ' v F S' H'' e1 e2 (((hA'.dropL.grow s (Nat.le_refl _)).pushF rd nd (fun a ha=>hA'.dropL.free (fr a ha)) (fun a ha=>hA'.new0 (fr a ha))).tomid) r
theorem dp_call0 (F:FnOk X.prog X.w X.K X.mg X.base CX k f fd ps (SpP X.K pf)) (hr:Room k X.A) (hg:Gl X x) (hm:X.mg x=some (.ref f)) (hk:PySem.W.keepIn X.K (.ref f)=true) (hb:Binds X.K fd ps []) (hx:Passes CX X E) (hdb:(x == ("__debug__" : Str))=false:=by decide):PED X (.Call (.Name x p) [] [] pos) (dCall pf dNil):=by
  refine PE.imp (pe_call0 F hr hg hm hk hb .nil hx hdb) fun σ H Q h=>?_
  obtain ⟨H0,Y,S,T,δ,P,rfl,hS,hA,hd,kk⟩:=h
  show SpP X.K pf [] H Q E
  refine ⟨[],δ.n,[],_,rfl,fun e he=>(nomatch he),rfl,hd,fun v d F H'' r rd nd fr s=>?_⟩
  exact kk _ δ v F S H'' rfl hS (((hA.grow s (Nat.le_refl _)).pushF rd nd (fun a ha=>hA.free (fr a ha)) (fun a ha=>hA.new0 (fr a ha))).tomid) r
theorem dp_callW {i:Nat} (F:FnOk X.prog X.w X.K X.mg X.base CX k f fd ps (SpW X.K df)) (hr:Room k X.A) (hg:Gl X x) (hm:X.mg x=some (.ref f)) (hk:PySem.W.keepIn X.K (.ref f)=true) (hb:Binds X.K fd ps []) (hx:Passes CX X E) (h0:PE X e0 (tVar i)) (ha:PAD X es da) (hdb:(x == ("__debug__" : Str))=false:=by decide) (he:starEach (e0::es) X.env=(false,eval e0 X.env)::starEach es X.env:=by rfl) (hpl:(backTo pos (starEach es X.env)).any (·.1)=false:=by rfl):PED X (.Call (.Name x p) (e0::es) [] pos) (dCallW i df da):=by
  refine PE.imp (pe_call F hr hg hm hk hb .nil hx (pa_cons h0 ha he) hdb he hpl) fun σ H Q h=>?_
  obtain ⟨H0,Y,S,T,δ,P,rfl,hS,hA,hd,kk⟩:=h
  unfold dCallW at hd
  split at hd
  case h_2=>exact hd.elim
  rename_i hsl0
  have main:∀ w,(vs S)[i]? = some (some w)→LA X.K da (vs S) H fun xs H2=>SpW X.K df ((w::xs)++[]) H2 Q E:=fun w hw=>by
    refine ⟨H0,Y,S,T,δ,_,rfl,hS,hA,hd,fun xs δ' As us S' H' e1 e2 ex eu hA' p=>?_⟩
    subst ex
    split at p
    · rename_i hsl
      obtain ⟨ent,s1,s2⟩:=slot_of e2 hsl
      have hm':ent∈S':=List.mem_of_getElem? s1
      have hv:ent.v=some w:=by
        have:=vs_at s1
        rw [e1,hw] at this
        exact (Option.some.inj this).symm
      obtain ⟨u,z,F⟩:=ent
      have s2':z=.drw:=s2
      subst s2'
      have hE:(⟨u,.drw,F⟩ : Ent)∈S'++(As++T):=List.mem_append_left _ hm'
      obtain ⟨dr,c0,k0,f0,hv0,hF0,hd0,hk0,hk1⟩:=hA'.ok _ hE
      have ew:some w=some (V.ref dr):=hv.symm.trans hv0
      cases ew
      have hF':F=[dr]:=hF0
      subst hF'
      cases q:datas (As.map Ent.x) with
      | none=>rw [q] at p; exact p.elim
      | some ds =>
        rw [q] at p
        rw [List.append_nil]
        refine ⟨dr,us,As,δ'.n,ds,_,rfl,eu,fun e he=>hA'.ok e (List.mem_append_right _ (List.mem_append_left _ he)),fun e he=>?_,⟨c0,k0,f0,hd0,hk0,hk1⟩,q,p,fun v d F n' H'' hn r rd nd fr hdr s=>?_⟩
        · rcases List.pairwise_append.mp hA'.sep with ⟨_,_,hp⟩
          exact (hp _ hm' e (List.mem_append_left _ he)).1 (.inr rfl) dr List.mem_cons_self
        · have hA2:=hA'.dropL.drawn (List.mem_append_left _ hm') rfl hv s hdr hn
          exact kk _ ⟨δ'.sl,n'⟩ v F S' H'' e1 e2 ((hA2.pushF rd nd (fun a ha=>hA'.dropL.free (fr a ha)) (fun a ha=>hA'.new0 (fr a ha))).tomid) r
    · exact p.elim
  obtain ⟨ent,s1,s2⟩:=slot_of hS hsl0
  have hm':ent∈S:=List.mem_of_getElem? s1
  obtain ⟨u,z,F⟩:=ent
  have s2':z=.drw:=s2
  subst s2'
  obtain ⟨dr,c0,k0,f0,hv0,_⟩:=hA.ok _ (List.mem_append_left _ hm')
  have hw:(vs S)[i]? = some (some (.ref dr)):=(vs_at s1).trans (congrArg some hv0)
  exact ⟨_,hw,main _ hw⟩
def spDrawsD:Sp:=fun vs H Q _=>∃ c:Int,vs=[.int c]∧∀ (p:Addr) (c':Int) (f:Bool) (H':Hp),H p=none→Draw H' p c' 0 f→Same H H'→Q (.ref p) H'
def dDraws (da:DA):DE:=fun δ P=>da δ fun xs δ1=>match xs with
  | [.dat _ (.int _)]=>P .drw δ1
  | _=>False
theorem dp_draws (F:FnOk X.prog X.w X.K X.mg X.base CX k f fd ps spDrawsD) (hr:Room k X.A) (hg:Gl X x) (hm:X.mg x=some (.ref f)) (hk:PySem.W.keepIn X.K (.ref f)=true) (hb:Binds X.K fd ps []) (hx:Passes CX X E) (ha:PAD X (e::es) da) (hdb:(x == ("__debug__" : Str))=false:=by decide) (he:starEach (e::es) X.env=(false,eval e X.env)::starEach es X.env:=by rfl) (hpl:(backTo pos (starEach es X.env)).any (·.1)=false:=by rfl):PED X (.Call (.Name x p) (e::es) [] pos) (dDraws da):=by
  refine PE.imp (pe_call F hr hg hm hk hb .nil hx ha hdb he hpl) fun σ H Q h=>?_
  obtain ⟨H0,Y,S,T,δ,P,rfl,hS,hA,hd,kk⟩:=h
  refine ⟨H0,Y,S,T,δ,_,rfl,hS,hA,hd,fun xs δ' As us S' H' e1 e2 ex eu hA' p=>?_⟩
  split at p
  · obtain ⟨v,F,rfl,hA2⟩:=one_arg eu hA' ex
    obtain ⟨rfl,_⟩:=(hA2.told mem_mid).int_inv
    refine ⟨_,rfl,fun q c' fl H'' nq hdr s=>?_⟩
    have h3:=hA2.drop.grow (n':=δ'.n) s (Nat.le_refl _)
    refine kk _ δ' _ [q] S' H'' e1 e2 ((h3.push (e:=⟨some (.ref q),.drw,[q]⟩) ⟨q,_,0,fl,rfl,rfl,hdr,by decide,by omega⟩ (fun f hf=>?_) fun a ha=>?_).tomid) p
    · have nf:=hA2.drop.free nq f hf
      refine ⟨fun _ a ha z=>?_,fun _ a ha z=>?_⟩
      · rw [List.mem_singleton.mp ha] at z
        exact nf z
      · rw [List.mem_singleton.mp z] at ha
        exact nf (cells_sub _ _ ha)
    · rw [List.mem_singleton.mp ha]
      exact .inl (hA2.new0 nq)
  · exact p.elim
end
def args0 (ds:List PyData) (k:Nat):List DV:=ds.map (fun d=>.dat .sh d)++List.replicate k .un
def toSh (e:Ent):Ent:=match e.x with
  | .dat _ d=>⟨e.v,.dat .sh d,e.F⟩
  | _=>e
theorem datas_len:∀ {xs:List DV} {ds:List PyData},datas xs=some ds→xs.length=ds.length
  | [],ds,h=>by cases h; rfl
  | x::xs,ds,h=>by
    cases x with
    | dat m d =>
      cases q:datas xs with
      | none=>simp [datas,q] at h
      | some es =>
        simp [datas,q] at h
        subst h
        rw [List.length_cons,List.length_cons,datas_len q]
    | _=>cases h
theorem datas_sh:∀ {As:List Ent} {ds:List PyData},datas (As.map Ent.x)=some ds→(As.map toSh).map Ent.x=ds.map (fun d=>.dat .sh d)
  | [],ds,h=>by cases h; rfl
  | ⟨v,x,F⟩::As,ds,h=>by
    rw [List.map_cons] at h
    cases x with
    | dat m d =>
      cases q:datas (As.map Ent.x) with
      | none=>simp [datas,q] at h
      | some es =>
        simp [datas,q] at h
        subst h
        rw [List.map_cons,List.map_cons,List.map_cons,datas_sh q]
        rfl
    | _=>cases h
theorem datas_dat:∀ {As:List Ent} {ds:List PyData},datas (As.map Ent.x)=some ds→∀ e∈As,∃ m d,e.x=.dat m d
  | [],ds,h,e,he=>nomatch he
  | ⟨v,x,F⟩::As,ds,h,e,he=>by
    rw [List.map_cons] at h
    cases x with
    | dat m d =>
      cases q:datas (As.map Ent.x) with
      | none=>simp [datas,q] at h
      | some es =>
        rcases List.mem_cons.mp he with rfl | he
        · exact ⟨m,d,rfl⟩
        · exact datas_dat q e he
    | _=>cases h
theorem sh_v (As:List Ent):(As.map toSh).map Ent.v=As.map Ent.v:=by
  rw [List.map_map]
  refine List.map_congr_left fun e _=>?_
  obtain ⟨v,x,F⟩:=e
  cases x <;> rfl
def blanks (k:Nat):List Ent:=List.replicate k ⟨none,.un,[]⟩
theorem sh_soft {As:List Ent} {ds:List PyData} (q:datas (As.map Ent.x)=some ds) (k:Nat):∀ e∈As.map toSh++blanks k,cells e=[]∧hard e.x=false:=fun e he=>by
  rcases List.mem_append.mp he with he | he
  · obtain ⟨f,hf,rfl⟩:=List.mem_map.mp he
    obtain ⟨m,d,hx⟩:=datas_dat q f hf
    obtain ⟨v,x,F⟩:=f
    have hx':x=.dat m d:=hx
    subst hx'
    exact ⟨rfl,rfl⟩
  · rw [(List.mem_replicate.mp he).2]
    exact ⟨rfl,rfl⟩
theorem pair_mem {α:Type} {R:α→α→Prop}:∀ {l:List α},(∀ a∈l,∀ b∈l,R a b)→l.Pairwise R
  | [],_=>List.Pairwise.nil
  | a::l,h=>List.pairwise_cons.mpr ⟨fun b hb=>h a List.mem_cons_self b (List.mem_cons_of_mem _ hb),pair_mem fun x hx y hy=>h x (List.mem_cons_of_mem _ hx) y (List.mem_cons_of_mem _ hy)⟩
theorem sh_ok {K:PySem.W.Frag} {H:Hp} {n:Nat} {As:List Ent} {ds:List PyData} (q:datas (As.map Ent.x)=some ds) (ok:∀ e∈As,EntOk K H n e) (k:Nat):∀ e∈As.map toSh++blanks k,EntOk K H n e:=fun e he=>by
  rcases List.mem_append.mp he with he | he
  · obtain ⟨f,hf,rfl⟩:=List.mem_map.mp he
    obtain ⟨m,d,hx⟩:=datas_dat q f hf
    have o:=ok f hf
    obtain ⟨v,x,F⟩:=f
    have hx':x=.dat m d:=hx
    subst hx'
    obtain ⟨w,h1,h2,_⟩:=o
    exact ⟨w,h1,h2,fun z=>(nomatch z),fun z=>(nomatch z)⟩
  · rw [(List.mem_replicate.mp he).2]
    exact (rfl:([]:List Addr)=[])
theorem rep_map {α β:Type} (f:α→β) (k:Nat) (a:α):(List.replicate k a).map f=List.replicate k (f a):=by
  rw [List.map_replicate]
def retE (R:PyData→Prop):DEnds where
  nx:=fun _=>R .none
  rt:=fun x _=>∃ d,x=.dat .ow d∧R d
def retW (n:Nat) (R:PyData→Nat→Prop):DEnds where
  nx:=fun δ=>n≤δ.n∧R .none δ.n
  rt:=fun x δ=>n≤δ.n∧∃ d,x=.dat .ow d∧R d δ.n
section
variable {P:Program} {w:World} {K:PySem.W.Frag} {mg:Str→Option Value} {base:Heap}
theorem fn_pure {x qual:Str} {st:Stmt} {f:Addr} {fd:FuncData} {N ps:List Str} {k:Nat} {pf:PF} {db:DB} (F:Fun K x qual st f fd) (S:FnScope N ps (defScope st)) (hb:∀ (cdv:Value) (A:Around) (outer:List Env) (s:Shared) (H:Hp) (E:XK),Room k (A.deeper (envOfC qual (defScope st) s.heap.objs.size f cdv))→PSsD (cxOf CX0 P w K mg base N qual (defScope st) f cdv A outer s H E).nox (defBody st) db) (h:∀ ds R,pf ds R→ds.length=ps.length∧db (retE R) ⟨args0 ds (N.length - ps.length),0⟩):FnOk P w K mg base CX0 (k+1) f fd ps (SpP K pf):=by
  refine F.ok S (fun vs H Q E z=>?_) fun cdv A outer s H us Q E hr z=>?_
  · obtain ⟨As,n,ds,R,eu,ok,q,hp,_⟩:=z
    have l1:=(h ds R hp).1
    have l2:=datas_len q
    rw [List.length_map] at l2
    have l3:=congrArg List.length eu
    rw [List.length_map,List.length_map] at l3
    omega
  · obtain ⟨As,n,ds,R,eu,ok,q,hp,k1⟩:=z
    obtain ⟨l1,hd⟩:=h ds R hp
    have l2:=datas_len q
    rw [List.length_map] at l2
    have l3:=congrArg List.length eu
    rw [List.length_map,List.length_map] at l3
    refine ⟨_,hb cdv A outer s H E hr,H,fun _=>False,As.map toSh++blanks (N.length - ps.length),[],⟨args0 ds (N.length - ps.length),0⟩,retE R,?_,?_,fun _ z=>(nomatch z),?_,hd,fun δ' S' H' e1 hA p=>?_,fun x δ' v F' S' H' e1 hA p=>?_,fun _ _ _ _ _ p=>p.elim,fun _ _ _ _ _ p=>p.elim⟩
    · unfold vs L2.start blanks
      rw [List.map_append,sh_v,eu,rep_map,show us.length=ps.length by omega]
    · unfold Sl args0 blanks
      rw [List.map_append,datas_sh q,rep_map]
    · rw [List.append_nil]
      have hs:=sh_soft q (N.length - ps.length)
      refine ⟨fun e he=>?_,pair_mem fun a ha b hb'=>⟨fun hq c hc=>?_,fun hq c hc=>?_⟩,fun e he a ha=>?_,fun b o _ e=>e,fun b o e=>⟨o,e⟩,fun b hb=>hb.elim⟩
      · have:=sh_ok q ok (N.length - ps.length) e he
        obtain ⟨v,x,F⟩:=e
        cases x with
        | drw=>exact absurd (hs _ he).2 (by show ¬ (true=false); decide)
        | _=>exact this
      · rw [(hs a ha).1] at hc; cases hc
      · rw [(hs b hb').1] at hc; cases hc
      · rw [(hs e he).1] at ha; cases ha
    · exact k1 .non .none [] H' p .non List.nodup_nil (fun _ z=>(nomatch z)) fun b o e=>hA.same b o (fun z=>z) e
    · obtain ⟨d,rfl,r⟩:=p
      rw [show S'++[(⟨some v,.dat .ow d,F'⟩ : Ent)]=S'++⟨some v,.dat .ow d,F'⟩::[] from rfl] at hA
      obtain ⟨u,e2,rd,nd,_⟩:=hA.ok _ mem_mid
      cases e2
      refine k1 v d F' H' r rd (nd rfl) (fun a ha=>?_) fun b o e=>hA.same b o (fun z=>z) e
      rcases hA.new _ mem_mid a ha with z | z
      · exact z
      · exact z.1.elim
theorem fn_draw {x qual:Str} {st:Stmt} {f:Addr} {fd:FuncData} {N ps:List Str} {p0:Str} {k:Nat} {df:DF} {db:DB} (F:Fun K x qual st f fd) (S:FnScope N (p0::ps) (defScope st)) (hb:∀ (cdv:Value) (A:Around) (outer:List Env) (s:Shared) (H:Hp) (E:XK),Room k (A.deeper (envOfC qual (defScope st) s.heap.objs.size f cdv))→PSsD (cxOf CX0 P w K mg base N qual (defScope st) f cdv A outer s H E).nox (defBody st) db) (h:∀ ds n R,df ds n R→ds.length=ps.length∧db (retW n R) ⟨.drw::args0 ds (N.length - (p0::ps).length),n⟩):FnOk P w K mg base CX0 (k+1) f fd (p0::ps) (SpW K df):=by
  refine F.ok S (fun vs H Q E z=>?_) fun cdv A outer s H us Q E hr z=>?_
  · obtain ⟨dr,ws,As,n,ds,R,rfl,eu,ok,nd,hdr,q,hp,_⟩:=z
    have l1:=(h ds n R hp).1
    have l2:=datas_len q
    rw [List.length_map] at l2
    have l3:=congrArg List.length eu
    rw [List.length_map,List.length_map] at l3
    rw [List.length_cons,List.length_cons]
    omega
  · obtain ⟨dr,ws,As,n,ds,R,rfl,eu,ok,ndr,hdr,q,hp,k1⟩:=z
    obtain ⟨l1,hd⟩:=h ds n R hp
    have l2:=datas_len q
    rw [List.length_map] at l2
    have l3:=congrArg List.length eu
    rw [List.length_map,List.length_map] at l3
    -- what the end tells of the draws: they stand in an old cell
    have ends:∀ {E':List Ent} {n':Nat} {H':Hp},At K H (·=dr) n' E' H'→∀ b o,b≠dr→H b=some o→H' b=some o:=fun hA b o nb e=>hA.same b o nb e
    refine ⟨_,hb cdv A outer s H E hr,H,(·=dr),⟨some (.ref dr),.drw,[dr]⟩::(As.map toSh++blanks (N.length - (p0::ps).length)),[],⟨.drw::args0 ds (N.length - (p0::ps).length),n⟩,retW n R,?_,?_,fun _ z=>(nomatch z),?_,hd,fun δ' S' H' e1 hA p=>?_,fun x δ' v F' S' H' e1 hA p=>?_,fun _ _ _ _ _ p=>p.elim,fun _ _ _ _ _ p=>p.elim⟩
    · unfold vs L2.start blanks
      rw [List.map_cons,List.map_append,sh_v,eu,rep_map,List.length_cons,List.length_cons,show ws.length=ps.length by omega]
      rfl
    · unfold Sl args0 blanks
      rw [List.map_cons,List.map_append,datas_sh q,rep_map]
    · rw [List.append_nil]
      have hs:=sh_soft q (N.length - (p0::ps).length)
      have hsub:∀ e∈As.map toSh++blanks (N.length - (p0::ps).length),dr∉e.F:=fun e he=>by
        rcases List.mem_append.mp he with he | he
        · obtain ⟨f,hf,rfl⟩:=List.mem_map.mp he
          obtain ⟨v,x,F⟩:=f
          have:=ndr _ hf
          cases x <;> exact this
        · rw [(List.mem_replicate.mp he).2]
          exact List.not_mem_nil
      refine ⟨fun e he=>?_,List.pairwise_cons.mpr ⟨fun b hb'=>⟨fun hq c hc=>?_,fun hq c hc=>?_⟩,pair_mem fun a ha b hb'=>⟨fun hq c hc=>?_,fun hq c hc=>?_⟩⟩,fun e he a ha=>?_,fun b o _ e=>e,fun b o e=>⟨o,e⟩,fun b hb=>?_⟩
      rotate_right
      · subst hb
        obtain ⟨c,kk,fl,z1,z2⟩:=hdr
        exact ⟨fun z=>(by rw [show H b=some _ from z1] at z; cases z),c,kk,fl,z1,z2⟩
      · rcases List.mem_cons.mp he with rfl | he
        · obtain ⟨c,kk,fl,z1,z2,z3⟩:=hdr
          exact ⟨dr,c,kk,fl,rfl,rfl,z1,z2,z3⟩
        · exact sh_ok q ok _ e he
      · rw [List.mem_singleton.mp hc]
        exact hsub b hb'
      · rw [(hs b hb').1] at hc; cases hc
      · rw [(hs a ha).1] at hc; cases hc
      · rw [(hs b hb').1] at hc; cases hc
      · rcases List.mem_cons.mp he with rfl | he
        · rw [List.mem_singleton.mp ha]
          exact .inr ⟨rfl,rfl⟩
        · rw [(hs e he).1] at ha; cases ha
    · exact k1 .non .none [] δ'.n H' p.1 p.2 .non List.nodup_nil (fun _ z=>(nomatch z)) (hA.xd dr rfl).2 (ends hA)
    · obtain ⟨hn,d,rfl,r⟩:=p
      rw [show S'++[(⟨some v,.dat .ow d,F'⟩ : Ent)]=S'++⟨some v,.dat .ow d,F'⟩::[] from rfl] at hA
      obtain ⟨u,e2,rd,nd,_⟩:=hA.ok _ mem_mid
      cases e2
      refine k1 v d F' δ'.n H' hn r rd (nd rfl) (fun a ha=>?_) (hA.xd dr rfl).2 (ends hA)
      rcases hA.new _ mem_mid a ha with z | z
      · exact z
      · cases z.2
end
end DL
namespace L2
open PySem PySem.Spec PyProof.Rows
theorem law_callD {P:Program} {w:World} {K:PySem.W.Frag} {mg mb:Str→Option Value} {CX:CXT} {k:Nat} {fa a:Addr} {fd:FuncData} {x:Str} {sp:Sp} {s₁:Shared} {vs:List Value} {ns:List Int} (KX:K.In s₁.heap) (hns:s₁.heap.Ns mainGlobals mg) (hb:s₁.heap.Ns builtinsNs mb) (hbb:∀ x:Str,x ≠ "__name__" → mb x=bootBuiltins x) (hlim:s₁.heap.NoLimit) (hg:s₁.gens=#[]) (ha:s₁.heap.get? a=some { cls:=.type "list",data:=.seq vs.toArray }) (hi:IntsAre vs ns) (hl:ns.length≤sizeLine) (hr:Room k callerA) (F:∀ base:Heap,K.In base→base.Ns mainGlobals mg→FnOk P w K mg base CX k fa fd [x] sp) (hbind:∀ (s:Shared) (u:Value),BindsTo s fd ⟨[u],[]⟩ [(x,u)]) (hsp:∀ H:Hp,Only H→DL.KL K H a (ns.map V.int)→sp [.ref a] H (fun v _=>v=.bl true) fun _ _ _=>False) (hCX:∀ H e s',CX [] H s₁ (fun _ _ _=>False) e s'→False):codeAny (model P w) callerA (.call (.ref fa) ⟨[.ref a],[]⟩) (fun r s'=>r=.ok (.ret (.bool true))∧OldK s₁.heap s'.heap∧s'.os=s₁.os∧AllBare s'.gens) s₁:=by
  have rv:=vals_ints hi
  have lenV:=hi.length
  -- from an abstract heap in which nothing but the script may be tracked
  have core:∀ H:Hp,Only H→DL.KL K H a (ns.map V.int)→HOk P w H s₁.heap→(∀ b,H b≠none→b=a)→(H a≠none→K.lookup a=none) →
      codeAny (model P w) callerA (.call (.ref fa) ⟨[.ref a],[]⟩) (fun r s'=>r=.ok (.ret (.bool true))∧OldK s₁.heap s'.heap∧s'.os=s₁.os∧AllBare s'.gens) s₁:=by
    intro H hO hS hok hA hK
    have base_of:∀ {b:Addr} {o:Obj},s₁.heap.get? b=some o→H b=none→(hidT s₁.heap H).get? b=some o:=fun e n=>hidT_get e n
    have noA:∀ {b:Addr} {o:Obj} {es:Array DictEntry} {ep:Nat},s₁.heap.get? b=some o→o.data=.dict es ep→H b=none:=fun {b o es ep} e d=>by
      cases q:H b with
      | none=>rfl
      | some u =>
        have e':b=a:=hA b (by rw [q]; simp)
        subst e'
        rw [ha] at e; cases e
        have d':Data.seq vs.toArray _=Data.dict es ep:=d
        cases d'
    have nsK:∀ {b:Addr} {m:Str→Option Value},s₁.heap.Ns b m→(hidT s₁.heap H).Ns b m:=fun {b m} ⟨o,es,ep,e,d,r⟩=>⟨o,es,ep,base_of e (noA e d),d,r⟩
    have hKb:K.In (hidT s₁.heap H):=fun b o e=>base_of (KX b o e) (by
      cases q:H b with
      | none=>rfl
      | some u =>
        have e':b=a:=hA b (by rw [q]; simp)
        subst e'
        rw [hK (by rw [q]; simp)] at e; cases e)
    have hM:Mod K mg (hidT s₁.heap H):=⟨hKb,nsK hns,⟨mb,nsK hb,hbb⟩,let ⟨mc,h1,h2⟩:=hlim; ⟨mc,nsK h1,h2⟩⟩
    have e0:Env0 P w K mg (hidT s₁.heap H) callerA [] s₁ H:=⟨rfl,hM,fun b o e=>of_hidT e,Nat.le_of_eq (hidT_size _ _),trivial,fun b hb=>absurd (show b∈([]:List Addr) from hb) (by simp),hok,.of_eq hg⟩
    refine codeAny_mono ((F _ hKb (nsK hns)).run callerA [] s₁ H ⟨[.ref a],[]⟩ [.ref a] [.ref a] _ _ hr e0 (hbind s₁ (.ref a)) (.cons rfl .nil) (hsp H hO hS)) fun r s' h=>?_
    cases r with
    | error e=>exact (hCX H e s' h).elim
    | ok fl =>
      cases fl with
      | next=>exact False.elim h
      | brk=>exact False.elim h
      | cont=>exact False.elim h
      | ret u =>
        obtain ⟨v,H',os,bare,un,hok',r',q⟩:=h
        have q':v=.bl true:=q
        subst q'
        obtain rfl:u=Value.bool true:=r'
        refine ⟨rfl,OldK.of_keep fun b o e=>?_,os,bare⟩
        cases q:H b with
        | none=>exact un.keep b o e q (by intro z; exact absurd (show b∈([]:List Addr) from z) (by simp)) (by simp)
        | some u =>
          rcases hO b with z | ⟨ob,xs,z⟩
          · rw [q] at z; cases z
          · have z2:=un.frzs b ob _ z
            obtain ⟨e1,_⟩:=hok b _ z
            obtain ⟨e2,_⟩:=hok' b _ z2
            rw [e] at e1; cases e1
            exact e2
  cases hk:K.lookup a with
  | some o =>
    -- the script is one of the module's own objects
    have e:=KX a o hk
    rw [ha] at e
    cases e
    refine core (fun _=>none) (fun _=>.inl rfl) (.inr ⟨vs.toArray,_,hk,by rw [List.size_toArray,lenV]; exact hl,by simpa using rv⟩) (fun b u z=>by have z':(none:Option HO)=some u:=z; cases z') (fun b z=>absurd rfl z) fun z=>absurd rfl z
  | none =>
    refine core (fun b=>if b=a then some (.frz { cls:=.type "list",data:=.seq vs.toArray } (.lst (ns.map V.int))) else none) (fun b=>?_) (.inl ⟨{ cls:=.type "list",data:=.seq vs.toArray },if_pos rfl⟩) (fun b u z=>?_) (fun b z=>?_) fun _=>hk
    · by_cases hb:b=a
      · exact .inr ⟨_,_,if_pos hb⟩
      · exact .inl (if_neg hb)
    · by_cases hb:b=a
      · have z':=(if_pos hb).symm.trans z
        cases z'
        subst hb
        exact ⟨ha,by rw [List.length_map]; exact hl,vs,_,rv,ha⟩
      · have z':=(if_neg hb).symm.trans z
        cases z'
    · by_cases hb:b=a
      · exact hb
      · exact absurd (if_neg hb) z
theorem walk_ofD {l:PySem.W.OpenLaw} {n k:Nat} {q:Program} {loose:List Str} {XP:(Str→Option Value)→Heap→Prop} {YP:World→Heap→Prop} {d:DefRec} {K:Params→PySem.W.Frag} {CX:World→CXT} {sp:World→Sp} {x:Str} (hn:l.most=some n) (hn2:n≤sizeLine) (hdf:d.params.defaults=[]) (hr:Room k callerA) (hY:∀ (w:World) (h:Heap),YP w h→(K w.params).In h) (F:∀ (w:World) (mg:Str→Option Value) (fa:Addr) (h:Heap),(K w.params).In h→h.Ns mainGlobals mg→mg d.name=some (.ref fa)→∃ fd:FuncData,(∀ (s:Shared) (u:Value),BindsTo s fd ⟨[u],[]⟩ [(x,u)])∧∀ base:Heap,(K w.params).In base→base.Ns mainGlobals mg→FnOk l.prog w (K w.params) mg base (CX w) k fa fd [x] (sp w)) (hsp:∀ (w:World) (H:Hp) (a:Addr) (ns:List Int),ns.length≤n→Only H→DL.KL (K w.params) H a (ns.map V.int)→sp w [.ref a] H (fun v _=>v=.bl true) fun _ _ _=>False) (hCX:∀ (w:World) (H:Hp) (s:Shared) (e:Value) (s':Shared),CX w [] H s (fun _ _ _=>False) e s'→False):PySem.W.WalkO q loose XP YP l.row.toRowW d [] (fun f vs=>PySem.call f vs):=by
  refine Att.attach_call hn hdf fun w s₀ s₁ mg mb fa o pm cd doc a vs ns G Y ho hd hcd hmg hobj hints hlen hg=>?_
  have KX:=hY w _ Y
  obtain ⟨fd,hb,hF⟩:=F w mg fa _ KX G.T.g hmg
  exact law_callD KX G.T.g G.T.b G.T.builtins G.T.nolimit hg hobj hints (Nat.le_trans hlen hn2) hr hF hb (fun H hO hS=>hsp w H a ns hlen hO hS) fun H e s'=>hCX w H s₁ e s'
end L2
namespace DL
open PySem PySem.Spec PyProof.Rows L2 Nd
def npk:List DV→Bool
  | []=>true
  | .dat .pk _::_=>false
  | _::xs=>npk xs
theorem npk_ok:∀ {S:List Ent} {sl:List DV},S.map Ent.x=sl→npk sl=true→∀ e∈S,isPk e.x=false
  | [],_,_,_,e,he=>nomatch he
  | ⟨v,x,F⟩::S,_,h,hn,e,he=>by
    subst h
    rw [List.map_cons] at hn
    have : isPk x=false∧npk (S.map Ent.x)=true:=by
      cases x with
      | dat m d=>cases m <;> first | exact ⟨rfl,hn⟩ | cases hn
      | _=>exact ⟨rfl,hn⟩
    rcases List.mem_cons.mp he with rfl | he
    · exact this.1
    · exact npk_ok rfl this.2 e he
def own1:Md→Bool
  | .ow=>true
  | .tp=>true
  | _=>false
section
variable {K:PySem.W.Frag} {H0 H:Hp} {X:Addr→Prop} {n:Nat} {E:List Ent}
theorem At.write {v:Option V} {m:Md} {ds es:List PyData} {a:Addr} {F G:List Addr} {ys:List V} (h:At K H0 X n (⟨v,.dat m (.list ds),a::F⟩::E) H) (ho:own1 m=true) (hv:v=some (.ref a)) (np:∀ e∈E,isPk e.x=false) (r:RdFs K H ys es G) (hG:G.Sublist F) (hz:es.length≤sizeLine):At K H0 X n (⟨v,.dat m (.list es),a::G⟩::E) (upd H a (.lst ys)):=by
  obtain ⟨w,e1,rd,hn,ht⟩:=h.ok _ List.mem_cons_self
  obtain ⟨b,xs,G0,e2,ha,ra,eF,_⟩:=rd.list_inv
  have eF':a::F=b::G0:=eF
  cases eF'
  have hs:=List.pairwise_cons.mp h.sep
  have naF:a∉F:=by
    cases m with
    | ow=>exact (List.nodup_cons.mp (hn rfl)).1
    | tp=>exact ht rfl a F rfl
    | sh=>cases ho
    | pk=>cases ho
  have ca:a∈cells ⟨v,.dat m (.list ds),a::F⟩:=by
    cases m <;> first | exact List.mem_cons_self | cases ho
  have kp:∀ {F':List Addr},a∉F'→Kp F' H (upd H a (.lst ys)):=fun {F'} hF b o q z=>by
    have : b≠a:=by
      rintro rfl
      rw [ha] at q
      cases q
      rcases z with z | z
      · exact hF z
      · rcases z with ⟨_,z⟩ | ⟨_,_,z⟩ <;> cases z
    rw [upd_ne this]
    exact q
  have n0:H0 a=none:=by
    rcases h.new _ List.mem_cons_self a ca with z | z
    · exact z
    · cases z.2
  have cs:∀ c∈cells ⟨v,.dat m (.list es),a::G⟩,c∈cells ⟨v,.dat m (.list ds),a::F⟩:=fun c hc=>by
    cases m with
    | ow =>
      rcases List.mem_cons.mp hc with z | z
      · exact List.mem_cons.mpr (.inl z)
      · exact List.mem_cons.mpr (.inr (hG.subset z))
    | tp=>exact hc
    | sh=>cases ho
    | pk=>cases ho
  have hsub:∀ c∈a::G,c∈a::F:=fun c hc=>by
    rcases List.mem_cons.mp hc with z | z
    · exact List.mem_cons.mpr (.inl z)
    · exact List.mem_cons.mpr (.inr (hG.subset z))
  have naG:a∉G:=fun z=>naF (hG.subset z)
  refine ⟨fun f hf=>?_,?_,fun f hf=>?_,fun b o nx q=>?_,fun b o q=>?_,fun b hb=>?_⟩
  · rcases List.mem_cons.mp hf with rfl | hf
    · refine ⟨.ref a,hv,.lst upd_same hz (r.kp (kp naG)),fun z=>?_,fun z c l e=>?_⟩
      · exact List.nodup_cons.mpr ⟨naG,(List.nodup_cons.mp (hn z)).2.sublist hG⟩
      · cases e
        exact naG
    · exact (h.ok f (List.mem_cons_of_mem _ hf)).kp (kp ((hs.1 f hf).1 (.inl (np f hf)) a ca)) (Nat.le_refl _)
  · refine List.pairwise_cons.mpr ⟨fun f hf=>⟨fun hq c hc=>(hs.1 f hf).1 (.inl (np f hf)) c (cs c hc),fun hq c hc z=>(hs.1 f hf).2 (.inl ?_) c hc (hsub c z)⟩,hs.2⟩
    cases m <;> first | rfl | cases ho
  · rcases List.mem_cons.mp hf with rfl | hf
    · exact fun c hc=>h.new _ List.mem_cons_self c (cs c hc)
    · exact h.new f (List.mem_cons_of_mem _ hf)
  · rw [upd_ne (ne_of_none q n0)]
    exact h.same b o nx q
  · rw [upd_ne (ne_of_none q n0)]
    exact h.dom b o q
  · obtain ⟨z,c,k,f,h1,h2⟩:=h.xd b hb
    refine ⟨z,c,k,f,(upd_ne ?_).trans h1,h2⟩
    rintro rfl
    exact z n0
end
theorem erase_perm {α:Type}:∀ {l:List α} {i:Nat} {x:α},l[i]? = some x→l.Perm (x::l.eraseIdx i)
  | [],i,x,h=>by simp at h
  | z::l,0,x,h=>by
    simp at h
    subst h
    exact List.Perm.refl _
  | z::l,i+1,x,h=>by
    have ih:=erase_perm (l:=l) (i:=i) (x:=x) (by simpa using h)
    rw [List.eraseIdx_cons_succ]
    exact (ih.cons z).trans (List.Perm.swap x z _)
theorem set_eperm {α:Type} {l:List α} {i:Nat} {x y:α} (h:l[i]? = some x):(l.set i y).Perm (y::l.eraseIdx i):=by
  have hlt:=(List.getElem?_eq_some_iff.mp h).1
  have q:=erase_perm (l:=l.set i y) (i:=i) (x:=y) (by rw [List.getElem?_set]; simp [hlt])
  rw [List.eraseIdx_set_eq] at q
  exact q
theorem slot_write {K:PySem.W.Frag} {H0 H:Hp} {X:Addr→Prop} {S T:List Ent} {δ:DS} {i:Nat} {m:Md} {ds es:List PyData} (hS:Sl S δ) (hT:∀ e∈T,isPk e.x=false) (hA:At K H0 X δ.n (S++T) H) (hi:δ.sl[i]? = some (.dat m (.list ds))) (ho:own1 m=true) (np:npk δ.sl=true):∃ a xs G,(vs S)[i]? = some (some (.ref a))∧H a=some (.lst xs)∧RdFs K H xs ds G∧ds.length≤sizeLine∧∀ ys G',RdFs K H ys es G'→G'.Sublist G→es.length≤sizeLine→∃ S',vs S'=vs S∧Sl S' ⟨δ.sl.set i (.dat m (.list es)),δ.n⟩∧At K H0 X δ.n (S'++T) (upd H a (.lst ys)):=by
  obtain ⟨ent,e2,e3⟩:=slot_of hS hi
  have hm:ent∈S:=List.mem_of_getElem? e2
  obtain ⟨u,x,F⟩:=ent
  have e3':x=.dat m (.list ds):=e3
  subst e3'
  obtain ⟨v,hv,rd,_⟩:=hA.ok _ (List.mem_append_left _ hm)
  obtain ⟨a,xs,G,rfl,ha,ra,eF,hz⟩:=rd.list_inv
  have eF':F=a::G:=eF
  subst eF'
  refine ⟨a,xs,G,by rw [vs_at e2]; exact congrArg some hv,ha,ra,hz,fun ys G' r hG hz'=>?_⟩
  have hn:=npk_ok hS np
  have pm:(S++T).Perm (⟨u,.dat m (.list ds),a::G⟩::(S.eraseIdx i++T)):=by
    exact (erase_perm e2).append_right T
  have h1:=(hA.perm pm).write (es:=es) (ys:=ys) ho hv (fun e he=>?_) r hG hz'
  · refine ⟨S.set i ⟨u,.dat m (.list es),a::G'⟩,?_,?_,h1.perm ?_⟩
    · unfold vs
      rw [List.map_set]
      apply List.ext_getElem?
      intro j
      rw [List.getElem?_set]
      split
      · rename_i hij
        subst hij
        rw [List.getElem?_map,e2]
        split
        · rfl
        · rename_i hj
          rw [List.length_map] at hj
          exact absurd (List.getElem?_eq_some_iff.mp e2).1 hj
      · rfl
    · unfold Sl at hS ⊢
      rw [List.map_set,hS]
    · exact ((set_eperm e2).append_right T).symm
  · rcases List.mem_append.mp he with he | he
    · exact hn e ((List.eraseIdx_sublist S i).subset he)
    · exact hT e he
def dAppend (i:Nat) (de:DE):DB:=fun D δ=>match δ.sl[i]? with
  | some (.dat _ (.list _))=>de δ fun y δ1=>match δ1.sl[i]?,y with
    | some (.dat m (.list ds)),.dat _ e=>own1 m=true∧npk δ1.sl=true∧imm e=true∧ds.length<1000000∧D.nx ⟨δ1.sl.set i (.dat m (.list (ds++[e]))),δ1.n⟩
    | _,_=>False
  | _=>False
section
variable {X:Cx} {o e:Expr} {de:DE} {apos cpos pos:Pos} {i:Nat}
theorem ds_append (ho:PE X o (tVar i)) (he:PED X e de) (hbase:attributeBase o "append" X.env (eval o X.env)=eval o X.env:=by rfl)
    (hfew:((backTo cpos (starEach [e] X.env)).all (fun x=>!x.1) && (backToKw cpos (keywordEach [] X.env)).all (fun x=>x.1.isSome)
      && decide (([e]:List Expr).length+([]:List Keyword).length+(if ([]:List Keyword).isEmpty then 0 else 1)<30))=true:=by rfl)
    (hline:(apos.endLine == cpos.line)=true:=by rfl) (hs:starEach [e] X.env=(false,eval e X.env)::starEach [] X.env:=by rfl) (hplain:(backTo cpos (starEach [] X.env)).any (·.1)=false:=by rfl)
    (hsw:swapsWith (.Call (.Attribute o "append" apos) [e] [] cpos) none pos.line X.env=pure false:=by rfl) :
    PSD X (.Expr (.Call (.Attribute o "append" apos) [e] [] cpos) pos) (dAppend i de):=by
  refine PS.impD (ps_expr (pe_bm PySem.F.plainAttrs_list PySem.F.slot_list_append PySem.F.type_list_append mt_append ho (pa_cons he pa_nil hs) hbase hfew hline hs hplain) hsw) fun D σ H h=>?_
  obtain ⟨H0,Y,S,T,δ,P,rfl,hS,hT,hA,hd,k1,k2,k3,k4⟩:=h
  unfold dAppend at hd
  split at hd
  case h_2=>exact hd.elim
  rename_i m0 ds0 hsl
  obtain ⟨ent,e2,e3⟩:=slot_of hS hsl
  have hm:ent∈S:=List.mem_of_getElem? e2
  obtain ⟨u,x,F⟩:=ent
  have e3':x=.dat m0 (.list ds0):=e3
  subst e3'
  obtain ⟨v,hv,rd,_⟩:=hA.ok _ (List.mem_append_left _ hm)
  obtain ⟨a,xs,G,rfl,ha,ra,eF,hz⟩:=rd.list_inv
  refine ⟨.ref a,by rw [vs_at e2]; exact congrArg some hv,.inl ⟨rfl,xs,SqL.of ha⟩,H0,Y,S,T,δ,_,rfl,hS,hA,hd,fun y δ1 w F1 S1 H1 e4 e5 hA1 p1=>?_⟩
  split at p1
  · rename_i m ds m' e' hsl1
    obtain ⟨p1,p2,p3,p4,p5⟩:=p1
    have r:=hA1.told mem_mid
    obtain rfl:=r.imm p3
    obtain ⟨b,xs1,G1,g1,g2,g3,g4,g5⟩:=slot_write (es:=ds++[e']) e5 hT hA1.drop hsl1 p1 p2
    rw [e4,vs_at e2] at g1
    have : some (V.ref b)=some (V.ref a):=(Option.some.inj g1).symm.trans hv
    cases this
    obtain ⟨S2,h1,h2,h3⟩:=g5 (xs1++[w]) (G1++[]) (g3.snoc r) (by rw [List.append_nil]; exact List.Sublist.refl _) (by rw [List.length_append]; exact sz2 (by simp; omega))
    have hl:=g3.len
    refine ⟨a,xs1,w,rfl,rfl,g2,Nat.lt_of_lt_of_le (by omega) (sz2 (n:=1000000) (Nat.le_refl _)),?_⟩
    rw [← e4,← h1]
    exact k1 ⟨_,_⟩ S2 _ h2 h3 p5
  · exact p1.elim
end
def dSetI (i:Nat) (dk de:DE):DB:=fun D δ=>de δ fun y δ1=>match δ1.sl[i]? with
  | some (.dat _ (.list _))=>dk δ1 fun z δ2=>match δ2.sl[i]?,y,z with
    | some (.dat m (.list ds)),.dat _ e,.dat _ (.int k)=>own1 m=true∧npk δ2.sl=true∧imm e=true∧immAll ds=true∧∃ j,ixN ds.length k=some j∧D.nx ⟨δ2.sl.set i (.dat m (.list (ds.set j e))),δ2.n⟩
    | _,_,_=>False
  | _=>False
def dAug (i:Nat) (rd:D2) (de:DE):DB:=fun D δ=>match δ.sl[i]? with
  | some (.dat _ (.int a))=>de δ fun y δ1=>rd (.dat .ow (.int a)) y fun z=>match z with
    | .dat _ d=>imm d=true∧D.nx ⟨δ1.sl.set i (.dat .sh d),δ1.n⟩
    | _=>False
  | _=>False
section
variable {X:Cx} {x:Str} {e:Expr} {de:DE} {pos pos':Pos} {i:Nat}
theorem ds_augI {op:Operator} {g:Int→Int→Int} (hN:X.N.Nodup) (hi:X.N[i]? = some x) (hx:Loc X.env.scope x) (he:PED X e de) (ho:PIp X op (ipI g)) (hf:X.fn x=true∨X.env.scope.names.lookup x=some .local:=by first | exact .inl rfl | exact .inr rfl | assumption):PSD X (.AugAssign (.Name x pos') op e pos) (dAug i (rdI0 fun a b=>.int (g a b)) de):=by
  refine PS.impD (ps_aug hN hi hx he ho hf) fun D σ H h=>?_
  obtain ⟨H0,Y,S,T,δ,P,rfl,hS,hT,hA,hd,k1,k2,k3,k4⟩:=h
  unfold dAug at hd
  split at hd
  case h_2=>exact hd.elim
  rename_i m0 a hsl
  obtain ⟨ent,e2,e3⟩:=slot_of hS hsl
  have hm:ent∈S:=List.mem_of_getElem? e2
  obtain ⟨u,x,F⟩:=ent
  have e3':x=.dat m0 (.int a):=e3
  subst e3'
  obtain ⟨v,hv,rd,_⟩:=hA.ok _ (List.mem_append_left _ hm)
  obtain ⟨rfl,_⟩:=rd.int_inv
  refine ⟨.int a,by rw [vs_at e2]; exact congrArg some hv,H0,Y,S,T,δ,_,rfl,hS,hA,hd,fun y δ1 w F1 S1 H1 e4 e5 hA1 p1=>?_⟩
  unfold rdI0 at p1
  split at p1
  · rename_i a' b' ea
    cases ea
    obtain ⟨rfl,_⟩:=(hA1.told mem_mid).int_inv
    refine ⟨a,_,rfl,rfl,?_⟩
    show D.nx ((vs S).set i (some (V.int (g a _)))) H1
    rw [← e4,← vs_set (x:=.dat .sh (.int (g a _))) (F:=[])]
    exact k1 ⟨_,_⟩ _ H1 (sl_set e5) ((hA1.drop.pushI (.int _)).store) p1.2
  · exact p1.elim
theorem ds_iadd (hN:X.N.Nodup) (hi:X.N[i]? = some x) (hx:Loc X.env.scope x) (he:PED X e de) (hf:X.fn x=true∨X.env.scope.names.lookup x=some .local:=by first | exact .inl rfl | exact .inr rfl | assumption):PSD X (.AugAssign (.Name x pos') .Add e pos) (dAug i rdAdd de):=ds_augI hN hi hx he ip_add hf
end
end DL
namespace DL
open PySem PySem.Spec PyProof.Rows L2 Nd
def spLawD (K:PySem.W.Frag):Sp:=fun us H Q _=>∃ (a:Addr) (ns:List Int),us=[.ref a]∧KL K H a (ns.map V.int)∧ns.length≤63∧∀ H',Q (.bl true) H'
def retL:DEnds where
  nx:=fun _=>False
  rt:=fun x _=>∃ m,x=.dat m (.bool true)
section
variable {P:Program} {w:World} {K:PySem.W.Frag} {mg:Str→Option Value} {base:Heap}
theorem fn_law {x qual p0:Str} {st:Stmt} {f:Addr} {fd:FuncData} {N:List Str} {k:Nat} {db:DB} (F:Fun K x qual st f fd) (S:FnScope N [p0] (defScope st)) (hb:∀ (cdv:Value) (A:Around) (outer:List Env) (s:Shared) (H:Hp) (E:XK),Room k (A.deeper (envOfC qual (defScope st) s.heap.objs.size f cdv))→PSsD (cxOf CX0 P w K mg base N qual (defScope st) f cdv A outer s H E).nox (defBody st) db) (h:∀ ns:List Int,ns.length≤63→db retL ⟨.scr ns::List.replicate (N.length - 1) .un,0⟩):FnOk P w K mg base CX0 (k+1) f fd [p0] (spLawD K):=by
  refine F.ok S (fun vs H Q E z=>?_) fun cdv A outer s H us Q E hr z=>?_
  · obtain ⟨a,ns,rfl,_⟩:=z
    rfl
  · obtain ⟨a,ns,rfl,hK,h63,k1⟩:=z
    refine ⟨_,hb cdv A outer s H E hr,H,fun _=>False,⟨some (.ref a),.scr ns,[]⟩::blanks (N.length - 1),[],⟨.scr ns::List.replicate (N.length - 1) .un,0⟩,retL,?_,?_,fun _ z=>(nomatch z),?_,h ns h63,fun δ' S' H' e1 hA p=>p.elim,fun x δ' v F' S' H' e1 hA p=>?_,fun _ _ _ _ _ p=>p.elim,fun _ _ _ _ _ p=>p.elim⟩
    · unfold vs L2.start blanks
      rw [List.map_cons,rep_map]
      rfl
    · unfold Sl blanks
      rw [List.map_cons,rep_map]
    · rw [List.append_nil]
      have hc:∀ e∈(⟨some (.ref a),.scr ns,[]⟩::blanks (N.length - 1):List Ent),cells e=[]:=fun e he=>by
        rcases List.mem_cons.mp he with rfl | he
        · rfl
        · rw [(List.mem_replicate.mp he).2]
          rfl
      refine ⟨fun e he=>?_,pair_mem fun a ha b hb'=>⟨fun hq c z=>?_,fun hq c z=>?_⟩,fun e he a ha=>?_,fun b o _ e=>e,fun b o e=>⟨o,e⟩,fun b hb=>hb.elim⟩
      · rcases List.mem_cons.mp he with rfl | he
        · exact ⟨a,rfl,rfl,hK,h63⟩
        · rw [(List.mem_replicate.mp he).2]
          exact (rfl:([]:List Addr)=[])
      · rw [hc a ha] at z; cases z
      · rw [hc b hb'] at z; cases z
      · rw [hc e he] at ha; cases ha
    · obtain ⟨m,rfl⟩:=p
      rw [show S'++[(⟨some v,.dat m (.bool true),F'⟩ : Ent)]=S'++⟨some v,.dat m (.bool true),F'⟩::[] from rfl] at hA
      obtain ⟨rfl,_⟩:=(hA.told mem_mid).bl_inv
      exact k1 H'
end
def dScrSl (i:Nat) (dl dh:DO):DE:=fun δ P=>match δ.sl[i]? with
  | some (.scr ns)=>dl δ fun l δ2=>dh δ2 fun h δ3=>P (.dat .ow (.list ((cutG ns l h).map PyData.int))) δ3
  | _=>False
section
variable {X:Cx} {e b:Expr} {de:DE} {lo hi:Option Expr} {dl dh:DO} {pos p2:Pos} {i:Nat}
theorem scr_at {K:PySem.W.Frag} {H0 H:Hp} {Y:Addr→Prop} {S T:List Ent} {δ:DS} {ns:List Int} (hS:Sl S δ) (hA:At K H0 Y δ.n (S++T) H) (hi:δ.sl[i]? = some (.scr ns)):∃ a,(vs S)[i]? = some (some (.ref a))∧(⟨some (.ref a),.scr ns,[]⟩ : Ent)∈S∧KL K H a (ns.map V.int)∧ns.length≤63:=by
  obtain ⟨ent,e2,e3⟩:=slot_of hS hi
  have hm:ent∈S:=List.mem_of_getElem? e2
  obtain ⟨u,x,F⟩:=ent
  have e3':x=.scr ns:=e3
  subst e3'
  obtain ⟨a,h1,h2,h3⟩:=hA.ok _ (List.mem_append_left _ hm)
  have h1':u=some (.ref a):=h1
  have h2':F=[]:=h2
  subst h1' h2'
  exact ⟨a,by rw [vs_at e2],hm,h3⟩
theorem dp_scrSl (he:PE X e (tVar i)) (hl:POD X lo dl) (hh:POD X hi dh):PED X (.Subscript e (.Slice lo hi none p2) pos) (dScrSl i dl dh):=by
  refine PE.imp (pe_slice (r:=rSlL X.K) sl_list he hl hh) fun σ H Q h=>?_
  obtain ⟨H0,Y,S,T,δ,P,rfl,hS,hA,hd,k⟩:=h
  unfold dScrSl at hd
  split at hd
  case h_2=>exact hd.elim
  rename_i ns hsl
  obtain ⟨a,ha,hm,hK,h63⟩:=scr_at hS hA hsl
  have hA0:At X.K H0 Y δ.n (S++⟨some (.ref a),.scr ns,[]⟩::T) H:=(At.view1 hA (List.mem_append_left _ hm)).tomid
  refine ⟨.ref a,ha,H0,Y,S,⟨some (.ref a),.scr ns,[]⟩::T,δ,_,rfl,hS,hA0,hd,fun l δ2 S2 H2 e3 e4 hA2 p2=>?_⟩
  refine ⟨H0,Y,S2,⟨some (.ref a),.scr ns,[]⟩::T,δ2,_,e3,e4,hA2,p2,fun h δ3 S3 H3 e5 e6 hA3 p3=>?_⟩
  obtain ⟨a',h1,_,hK3,_⟩:=hA3.ok _ mem_mid
  cases h1
  refine ⟨a,_,rfl,hK3.sq,fun p hp=>?_⟩
  have : cutV (ns.map V.int) l h=(cutG ns l h).map V.int:=by
    rw [← cutG_map]; rfl
  rw [this]
  refine k _ δ3 _ _ S3 _ e5 e6 (hA3.drop.newI (RdFs.ints _) (immAll_ints _) ?_ hp .ow) p3
  rw [List.length_map]
  have l1:=(cutG_sub ns l h).length_le
  exact sz (by omega)
end
def CPow2 (i j:Int):Prop:=0≤j∧(Builtin.Int.intBits i:Int) * j≤2 ^ 27
theorem op_pow2 {X:Cx}:OpR X (binaryOp .Pow) (rI CPow2 fun i j=>.int (i ^ j.toNat)):=opI fun _ _ _ _ _ _ _ hc q=>pow_int hc.1 hc.2 q
def dfNext:DF:=fun ds n R=>ds=[]∧n≤100000∧∀ r:Int,R (.int r) (n+1)
theorem next_ok {P:Program} {w:World} {K:PySem.W.Frag} {mg:Str→Option Value} {base:Heap} {k:Nat} {f:Addr} {fd:FuncData} {ps:List Str} (F:FnOk P w K mg base CX0 k f fd ps spNext):FnOk P w K mg base CX0 k f fd ps (SpW K dfNext):=by
  refine F.imp fun us H Q E h=>?_
  obtain ⟨dr,ws,As,n,ds,R,rfl,eu,ok,nd,⟨c,kk,fl,hdr,h0,h1⟩,q,hp,k1⟩:=h
  obtain ⟨rfl,hn,hR⟩:=hp
  have hAs:As=[]:=by
    have:=datas_len q
    rw [List.length_map] at this
    exact List.length_eq_zero_iff.mp this
  subst hAs
  have hws:ws=[]:=by
    cases ws with
    | nil=>rfl
    | cons _ _=>cases eu
  subst hws
  refine ⟨dr,c,kk,fl,rfl,hdr,h0,by omega,fun r c' H' hd' s=>?_⟩
  exact k1 (.int r) (.int r) [] (n+1) H' (by omega) (hR r) (.int r) List.nodup_nil (fun _ z=>(nomatch z)) ⟨c',kk+1,fl,hd',by omega,by omega⟩ s
end DL
namespace DL
open PySem PySem.Spec PyProof.Rows L2 Nd
def pfTog:PF:=fun ds R=>∃ a b:List Int,ds=[wordD a,wordD b]∧Rising 60 a∧Rising 60 b∧R (wordD (sset (a++b)))
theorem rising_len {ns:List Int} (r:Rising 60 ns):ns.length≤60:=Nat.le_trans (NdS.len_leI (r.1.imp fun {x y} h=>Int.ne_of_lt h) fun e he=>mem_U60 (r.2 e he).1 (r.2 e he).2) (by decide)
theorem word_inv {K:PySem.W.Frag} {H:Hp} {v:V} {F:List Addr} {ns:List Int} (r:RdF K H v (wordD ns) F):∃ a,v=.ref a∧H a=some (.tup (ns.map V.int)):=by
  obtain ⟨a,xs,rfl,ha,ra,_⟩:=RdF.tup_inv (ds:=ns.map PyData.int) r
  obtain ⟨rfl,_⟩:=ra.ints_inv
  exact ⟨a,rfl,ha⟩
theorem word_rd {K:PySem.W.Frag} {H:Hp} {a:Addr} {ns:List Int} (h:H a=some (.tup (ns.map V.int))) (l:ns.length≤1000000):RdF K H (.ref a) (wordD ns) []:=.tup h (by rw [List.length_map]; exact sz2 l) (RdFs.ints ns)
theorem two_told {K:PySem.W.Frag} {H:Hp} {n:Nat} {As:List Ent} {us:List V} {d1 d2:PyData} (eu:As.map Ent.v=us.map some) (ok:∀ e∈As,EntOk K H n e) (q:datas (As.map Ent.x)=some [d1,d2]):∃ v1 v2 F1 F2,us=[v1,v2]∧RdF K H v1 d1 F1∧RdF K H v2 d2 F2:=by
  have r:=datas_rd eu q ok
  generalize As.flatMap Ent.F=G0 at r
  cases r with
  | cons a t =>
    cases t with
    | cons b t =>
      cases t
      exact ⟨_,_,_,_,rfl,a,b⟩
section
variable {P:Program} {w:World} {K:PySem.W.Frag} {mg:Str→Option Value} {base:Heap} {k:Nat} {f:Addr} {fd:FuncData} {ps:List Str}
theorem tog_ok (F:FnOk P w K mg base CX0 k f fd ps (spTog K)):FnOk P w K mg base CX0 k f fd ps (SpP K pfTog):=by
  refine F.imp fun us H Q E h=>?_
  obtain ⟨As,n,ds,R,eu,ok,q,hp,k1⟩:=h
  obtain ⟨a,b,rfl,ra,rb,hR⟩:=hp
  obtain ⟨v1,v2,F1,F2,rfl,r1,r2⟩:=two_told eu ok q
  obtain ⟨p1,rfl,h1⟩:=word_inv r1
  obtain ⟨p2,rfl,h2⟩:=word_inv r2
  refine ⟨p1,p2,a,b,rfl,SqT.of h1,SqT.of h2,ra,rb,fun r ts H' nr er nd pw mem s=>?_⟩
  have e:ts=sset (a++b):=sset_eq (strict_of nd pw) mem
  subst e
  refine k1 (.ref r) _ [] H' hR (word_rd er ?_) List.nodup_nil (fun _ z=>(nomatch z)) s
  have:=sset_len (ns:=a++b) (fun x hx=>by
    rcases List.mem_append.mp hx with z | z
    · exact ra.2 x z
    · exact rb.2 x z)
  omega
end
end DL
namespace DL
open PySem PySem.Spec PyProof.Rows L2 Nd
end DL
namespace DL
open PySem PySem.Spec PyProof.Rows L2 Nd
end DL
namespace DL
open PySem PySem.Spec PyProof.Rows L2 Nd
def mmd:Md→Md→Md
  | .ow,.ow=>.ow
  | _,_=>.tp
section
variable {K:PySem.W.Frag} {H0 H:Hp} {X:Addr→Prop} {n:Nat} {E:List Ent}
theorem At.merge {v:Option V} {w:V} {m my:Md} {ds es:List PyData} {e:PyData} {a:Addr} {F Fy G:List Addr} {ys:List V} (h:At K H0 X n (⟨v,.dat m (.list ds),a::F⟩::⟨some w,.dat my e,Fy⟩::E) H) (ho:own1 m=true) (hy:my≠.pk) (hv:v=some (.ref a)) (np:∀ e∈E,isPk e.x=false) (r:RdFs K H ys es G) (hG:∀ c∈G,c∈F∨c∈Fy) (hnd:(F++Fy).Nodup→G.Nodup) (hz:es.length≤sizeLine):At K H0 X n (⟨v,.dat (mmd m my) (.list es),a::G⟩::E) (upd H a (.lst ys)):=by
  obtain ⟨w1,e1,rd,hn,ht⟩:=h.ok _ List.mem_cons_self
  obtain ⟨w2,e2',rdy,hny,hty⟩:=h.ok _ (List.mem_cons_of_mem _ List.mem_cons_self)
  obtain ⟨b,xs,G0,e2,ha,ra,eF,_⟩:=rd.list_inv
  have eF':a::F=b::G0:=eF
  cases eF'
  have hs:=List.pairwise_cons.mp h.sep
  have hs2:=List.pairwise_cons.mp hs.2
  have s12:=hs.1 _ List.mem_cons_self
  have pk2:isPk (DV.dat my e)=false:=by cases my <;> first | rfl | exact absurd rfl hy
  have pk1:isPk (DV.dat m (.list ds))=false:=by cases m <;> first | rfl | cases ho
  have naF:a∉F:=by
    cases m with
    | ow=>exact (List.nodup_cons.mp (hn rfl)).1
    | tp=>exact ht rfl a F rfl
    | sh=>cases ho
    | pk=>cases ho
  have ca:a∈cells ⟨v,.dat m (.list ds),a::F⟩:=by
    cases m <;> first | exact List.mem_cons_self | cases ho
  have naY:a∉Fy:=s12.1 (.inl pk2) a ca
  have naG:a∉G:=fun z=>(hG a z).elim naF naY
  have kp:∀ {F':List Addr},a∉F'→Kp F' H (upd H a (.lst ys)):=fun {F'} hF b o q z=>by
    have : b≠a:=by
      rintro rfl
      rw [ha] at q
      cases q
      rcases z with z | z
      · exact hF z
      · rcases z with ⟨_,z⟩ | ⟨_,_,z⟩ <;> cases z
    rw [upd_ne this]
    exact q
  have n0:H0 a=none:=by
    rcases h.new _ List.mem_cons_self a ca with z | z
    · exact z
    · cases z.2
  have cs:∀ c∈cells ⟨v,.dat (mmd m my) (.list es),a::G⟩,c∈cells ⟨v,.dat m (.list ds),a::F⟩∨c∈cells ⟨some w,.dat my e,Fy⟩:=fun c hc=>by
    by_cases hm:m=.ow∧my=.ow
    · obtain ⟨rfl,rfl⟩:=hm
      rcases List.mem_cons.mp (show c∈a::G from hc) with z | z
      · rw [z]; exact .inl ca
      · rcases hG c z with z | z
        · exact .inl (List.mem_cons_of_mem _ z)
        · exact .inr z
    · have hc':c∈[a]:=by
        cases m <;> cases my <;> first | exact hc | exact absurd ⟨rfl,rfl⟩ hm
      rw [List.mem_singleton.mp hc']; exact .inl ca
  refine ⟨fun f hf=>?_,?_,fun f hf=>?_,fun b o nx q=>?_,fun b o q=>?_,fun b hb=>?_⟩
  · rcases List.mem_cons.mp hf with rfl | hf
    · refine ⟨.ref a,hv,.lst upd_same hz (r.kp (kp naG)),fun z=>?_,fun z c l e=>?_⟩
      · have hm:m=.ow∧my=.ow:=by
          cases m <;> cases my <;> first | exact ⟨rfl,rfl⟩ | cases z
        obtain ⟨rfl,rfl⟩:=hm
        refine List.nodup_cons.mpr ⟨naG,hnd (List.nodup_append.mpr ⟨(List.nodup_cons.mp (hn rfl)).2,hny rfl,fun x hx y hy' e=>?_⟩)⟩
        subst e
        exact s12.1 (.inl pk2) x (List.mem_cons_of_mem _ hx) hy'
      · cases e
        exact naG
    · have f1:=List.mem_cons_of_mem (⟨some w,.dat my e,Fy⟩ : Ent) hf
      exact (h.ok f (List.mem_cons_of_mem _ f1)).kp (kp ((hs.1 f f1).1 (.inl (np f hf)) a ca)) (Nat.le_refl _)
  · refine List.pairwise_cons.mpr ⟨fun f hf=>?_,hs2.2⟩
    have f1:=List.mem_cons_of_mem (⟨some w,.dat my e,Fy⟩ : Ent) hf
    refine ⟨fun hq c hc=>?_,fun hq c hc z=>?_⟩
    · rcases cs c hc with z | z
      · exact (hs.1 f f1).1 (.inl (np f hf)) c z
      · exact (hs2.1 f hf).1 (.inl (np f hf)) c z
    · rcases List.mem_cons.mp z with z | z
      · exact (hs.1 f f1).2 (.inl pk1) c hc (by rw [z]; exact List.mem_cons_self)
      · rcases hG c z with z | z
        · exact (hs.1 f f1).2 (.inl pk1) c hc (List.mem_cons_of_mem _ z)
        · exact (hs2.1 f hf).2 (.inl pk2) c hc z
  · rcases List.mem_cons.mp hf with rfl | hf
    · intro c hc
      rcases cs c hc with z | z
      · rcases h.new _ List.mem_cons_self c z with z | z
        · exact .inl z
        · cases z.2
      · rcases h.new _ (List.mem_cons_of_mem _ List.mem_cons_self) c z with z | z
        · exact .inl z
        · cases z.2
    · exact h.new f (List.mem_cons_of_mem _ (List.mem_cons_of_mem _ hf))
  · rw [upd_ne (ne_of_none q n0)]
    exact h.same b o nx q
  · rw [upd_ne (ne_of_none q n0)]
    exact h.dom b o q
  · obtain ⟨z,c,k,f,h1,h2⟩:=h.xd b hb
    refine ⟨z,c,k,f,(upd_ne ?_).trans h1,h2⟩
    rintro rfl
    exact z n0
end
theorem slot_merge {K:PySem.W.Frag} {H0 H:Hp} {X:Addr→Prop} {S T:List Ent} {δ:DS} {i:Nat} {m my:Md} {ds:List PyData} {e:PyData} {w:V} {Fy:List Addr} (hS:Sl S δ) (hT:∀ e∈T,isPk e.x=false) (hA:At K H0 X δ.n (S++⟨some w,.dat my e,Fy⟩::T) H) (hi:δ.sl[i]? = some (.dat m (.list ds))) (ho:own1 m=true) (hy:my≠.pk) (np:npk δ.sl=true) (hl:ds.length<1000000):∃ a xs,(vs S)[i]? = some (some (.ref a))∧H a=some (.lst xs)∧xs.length=ds.length∧∃ S',vs S'=vs S∧Sl S' ⟨δ.sl.set i (.dat (mmd m my) (.list (ds++[e]))),δ.n⟩∧At K H0 X δ.n (S'++T) (upd H a (.lst (xs++[w]))):=by
  obtain ⟨ent,e2,e3⟩:=slot_of hS hi
  have hm:ent∈S:=List.mem_of_getElem? e2
  obtain ⟨u,x,F⟩:=ent
  have e3':x=.dat m (.list ds):=e3
  subst e3'
  obtain ⟨v,hv,rd,_⟩:=hA.ok _ (List.mem_append_left _ hm)
  obtain ⟨a,xs,G,rfl,ha,ra,eF,hz⟩:=rd.list_inv
  have eF':F=a::G:=eF
  subst eF'
  have rw_:=hA.told mem_mid
  refine ⟨a,xs,by rw [vs_at e2]; exact congrArg some hv,ha,ra.len,?_⟩
  have hn:=npk_ok hS np
  have pm:(S++⟨some w,.dat my e,Fy⟩::T).Perm (⟨u,.dat m (.list ds),a::G⟩::⟨some w,.dat my e,Fy⟩::(S.eraseIdx i++T)):=by
    refine ((erase_perm e2).append_right _).trans ?_
    rw [List.cons_append]
    exact List.Perm.cons _ List.perm_middle
  have h1:=(hA.perm pm).merge (es:=ds++[e]) (ys:=xs++[w]) (G:=G++Fy) ho hy hv (fun f hf=>?_) (ra.snoc rw_) (fun c hc=>List.mem_append.mp hc) (fun z=>z) (by rw [List.length_append]; exact sz2 (by simp; omega))
  · refine ⟨S.set i ⟨u,.dat (mmd m my) (.list (ds++[e])),a::(G++Fy)⟩,?_,?_,h1.perm ?_⟩
    · unfold vs
      rw [List.map_set]
      apply List.ext_getElem?
      intro j
      rw [List.getElem?_set]
      split
      · rename_i hij
        subst hij
        rw [List.getElem?_map,e2]
        split
        · rfl
        · rename_i hj
          rw [List.length_map] at hj
          exact absurd (List.getElem?_eq_some_iff.mp e2).1 hj
      · rfl
    · unfold Sl at hS ⊢
      rw [List.map_set,hS]
    · exact ((set_eperm e2).append_right T).symm
  · rcases List.mem_append.mp hf with hf | hf
    · exact hn f ((List.eraseIdx_sublist S i).subset hf)
    · exact hT f hf
def appOB (i:Nat) (y:DV) (δ:DS) (D:DEnds):Prop:=match δ.sl[i]?,y with
  | some (.dat m (.list ds)),.dat my e=>own1 m=true∧npk δ.sl=true∧my≠.pk∧ds.length<1000000∧D.nx ⟨δ.sl.set i (.dat (mmd m my) (.list (ds++[e]))),δ.n⟩
  | _,_=>False
def dAppendO (i:Nat) (de:DE):DB:=fun D δ=>match δ.sl[i]? with
  | some (.dat _ (.list _))=>de δ fun y δ1=>appOB i y δ1 D
  | _=>False
section
variable {X:Cx} {o e:Expr} {de:DE} {apos cpos pos:Pos} {i:Nat}
theorem ds_appendO (ho:PE X o (tVar i)) (he:PED X e de) (hbase:attributeBase o "append" X.env (eval o X.env)=eval o X.env:=by rfl)
    (hfew:((backTo cpos (starEach [e] X.env)).all (fun x=>!x.1) && (backToKw cpos (keywordEach [] X.env)).all (fun x=>x.1.isSome)
      && decide (([e]:List Expr).length+([]:List Keyword).length+(if ([]:List Keyword).isEmpty then 0 else 1)<30))=true:=by rfl)
    (hline:(apos.endLine == cpos.line)=true:=by rfl) (hs:starEach [e] X.env=(false,eval e X.env)::starEach [] X.env:=by rfl) (hplain:(backTo cpos (starEach [] X.env)).any (·.1)=false:=by rfl)
    (hsw:swapsWith (.Call (.Attribute o "append" apos) [e] [] cpos) none pos.line X.env=pure false:=by rfl) :
    PSD X (.Expr (.Call (.Attribute o "append" apos) [e] [] cpos) pos) (dAppendO i de):=by
  refine PS.impD (ps_expr (pe_bm PySem.F.plainAttrs_list PySem.F.slot_list_append PySem.F.type_list_append mt_append ho (pa_cons he pa_nil hs) hbase hfew hline hs hplain) hsw) fun D σ H h=>?_
  obtain ⟨H0,Y,S,T,δ,P,rfl,hS,hT,hA,hd,k1,k2,k3,k4⟩:=h
  unfold dAppendO at hd
  split at hd
  case h_2=>exact hd.elim
  rename_i m0 ds0 hsl
  obtain ⟨ent,e2,e3⟩:=slot_of hS hsl
  have hm:ent∈S:=List.mem_of_getElem? e2
  obtain ⟨u,x,F⟩:=ent
  have e3':x=.dat m0 (.list ds0):=e3
  subst e3'
  obtain ⟨v,hv,rd,_⟩:=hA.ok _ (List.mem_append_left _ hm)
  obtain ⟨a,xs,G,rfl,ha,ra,eF,hz⟩:=rd.list_inv
  refine ⟨.ref a,by rw [vs_at e2]; exact congrArg some hv,.inl ⟨rfl,xs,SqL.of ha⟩,H0,Y,S,T,δ,_,rfl,hS,hA,hd,fun y δ1 w F1 S1 H1 e4 e5 hA1 p1=>?_⟩
  unfold appOB at p1
  split at p1
  · rename_i m ds my e' hsl1
    obtain ⟨p1,p2,p3,p4,p5⟩:=p1
    obtain ⟨b,xs1,g1,g2,g3,S2,h1,h2,h3⟩:=slot_merge e5 hT hA1 hsl1 p1 p3 p2 p4
    rw [e4,vs_at e2] at g1
    have : some (V.ref b)=some (V.ref a):=(Option.some.inj g1).symm.trans hv
    cases this
    refine ⟨a,xs1,w,rfl,rfl,g2,Nat.lt_of_lt_of_le (by omega) (sz2 (n:=1000000) (Nat.le_refl _)),?_⟩
    rw [← e4,← h1]
    exact k1 ⟨_,_⟩ S2 _ h2 h3 p5
  · exact p1.elim
end
end DL
namespace Nd
open PySem PySem.Spec PyProof.Rows L2
end Nd
namespace DL
open PySem PySem.Spec PyProof.Rows L2 Nd
end DL
namespace DL
open PySem PySem.Spec PyProof.Rows L2 Nd
section
variable {X:Cx}
theorem pick_one (xs:Array Value):slicePick xs none none (some 1)=xs:=slicePick_all xs
theorem pe_stepL {e k:Expr} {te tk:TE} {pos p2:Pos} (he:PE X e te) (hk:PE X k tk):PE X (.Subscript e (.Slice none none (some k) p2) pos) (fun σ H Q=>te σ H fun x H1=>tk σ H1 fun y H2=>∃ a xs k,x=.ref a∧y=.int k∧SqL X.K H2 a xs∧(k=1∨k = -1)∧∀ p,H2 p=none→Q (.ref p) (upd H2 p (.lst (if k=1 then xs else xs.reverse)))):=by
  intro pins s σ H Q I h
  refine Subscript_ (thn (he pins s σ H _ I h) fun v s1 ⟨x,H1,I1,r1,hq1⟩=>?_)
  refine wpAny_Slice ?_
  rw [evalPart_none]
  refine wpAny_pure (wpAny_pure ?_)
  rw [evalPart_some]
  refine thn (hk pins s1 σ H1 _ I1 hq1) fun vk s2 ⟨y,H2,I2,r2,a,xs,kk,e1,e2,hx,hk1,q⟩=>?_
  subst e1 e2
  cases r1
  obtain ⟨t,rfl⟩:=r2
  have I3:Inv X pins σ H2 { s2 with heap:=s2.heap.push { cls:=.type "slice",data:=.fields #[.none,.none,.int kk t] } }:=I2.kept (t':=s2.toks) fun b ob q=>Heap.get?_push_of_some _ q
  obtain ⟨its,r,ht,hz⟩:=I3.list hx
  have hlen:=r.length
  show wpAny (model X.prog X.w) X.A (subscriptTail e (.Slice none none (some k) p2) (.ref a) (.ref s2.heap.objs.size)) (EP X pins σ Q) X.xe { s2 with heap:=s2.heap.push { cls:=.type "slice",data:=.fields #[.none,.none,.int kk t] } }
  refine tail_any (ops:=[.ref a,.ref s2.heap.objs.size]) (T := "list") ht.isList.typeIs slot_list_getitem.lookup (wpAny_getItem_list_slice ht.isList (Heap.IsSliceOf.new ..) .none .none (.int kk t) (by rcases hk1 with rfl | rfl <;> simp) ?_ (by rw [List.size_toArray] <;> omega)) (by with_unfolding_all rfl)
  rcases hk1 with rfl | rfl
  · rw [pick_one]
    rw [if_pos rfl] at q
    exact ⟨.ref _,_,I3.laid (o:=.lst xs) (t':=s2.toks) (fun b ob q=>Heap.get?_push_of_some _ q) (Nat.le_refl _) ⟨hz,its,0,r,by
      have z:=Heap.get?_push_size (s2.heap.push { cls:=.type "slice",data:=.fields #[.none,.none,.int 1 t] }) (o:={ cls:=.type "list",data:=.seq its.toArray }) rfl
      simpa using z⟩,rfl,q _ (I3.hok.fresh (Nat.le_refl _))⟩
  · rw [pick_rev]
    rw [if_neg (by decide)] at q
    exact ⟨.ref _,_,I3.laid (o:=.lst xs.reverse) (t':=s2.toks) (fun b ob q=>Heap.get?_push_of_some _ q) (Nat.le_refl _) ⟨by rw [List.length_reverse]; exact hz,its.reverse,0,r.reverse,by
      have z:=Heap.get?_push_size (s2.heap.push { cls:=.type "slice",data:=.fields #[.none,.none,.int (-1) t] }) (o:={ cls:=.type "list",data:=.seq its.toArray.toList.reverse.toArray }) rfl
      simpa using z⟩,rfl,q _ (I3.hok.fresh (Nat.le_refl _))⟩
end
section
variable {K:PySem.W.Frag} {H0 H:Hp} {X:Addr→Prop} {n:Nat} {S T:List Ent} {v w:V} {m:Md} {d e:PyData} {F G:List Addr} {p:Addr} {xs:List V} {ds:List PyData} {P:DV→Prop} {i:Bool}
theorem At.newLP (h:At K H0 X n (S++⟨some v,.dat m d,F⟩::T) H) (r:RdFs K H xs ds G) (hG:∀ c∈G,c∈F) (hnd:F.Nodup→G.Nodup) (hz:ds.length≤sizeLine) (hp:H p=none) (q:nlist i m ds P):∃ z F',At K H0 X n (S++⟨some (.ref p),z,F'⟩::T) (upd H p (.lst xs))∧P z:=by
  cases i with
  | true=>exact ⟨_,_,h.drop.newI r q.1 hz hp .ow,q.2⟩
  | false =>
    have q:P (.dat (mdNew m) (.list ds)):=q
    refine ⟨_,p::G,?_,q⟩
    have s1:=same_new hp (.lst xs)
    have h2:=h.mid
    have hs:=List.pairwise_cons.mp h2.sep
    obtain ⟨v',e1,_,hn,_⟩:=h2.ok _ List.mem_cons_self
    have h1:=h.drop.grow (n':=n) s1 (Nat.le_refl _)
    have npF:p∉F:=h2.free hp _ List.mem_cons_self
    have npG:p∉G:=fun z=>npF (hG _ z)
    have cs:∀ a∈cells ⟨some (.ref p),.dat (mdNew m) (.list ds),p::G⟩,a=p∨(a∈cells ⟨some v,.dat m d,F⟩):=fun a ha=>by
      cases m with
      | ow =>
        rcases List.mem_cons.mp ha with z | z
        · exact .inl z
        · exact .inr (hG _ z)
      | tp=>exact .inl (List.mem_singleton.mp ha)
      | sh=>exact .inl (List.mem_singleton.mp ha)
      | pk=>exact nomatch ha
    refine (h1.push (e:=⟨some (.ref p),.dat (mdNew m) (.list ds),p::G⟩) ⟨_,rfl,.lst upd_same hz (r.kp (Kp.of s1)),fun z=>?_,fun z a l e=>?_⟩ (fun f hf=>?_) fun a ha=>?_).tomid
    · cases m with
      | ow=>exact List.nodup_cons.mpr ⟨npG,hnd (hn rfl)⟩
      | _=>cases z
    · cases e
      exact npG
    · have nf:=h2.free hp f (List.mem_cons_of_mem _ hf)
      refine ⟨fun hq a ha z=>?_,fun hq a ha z=>?_⟩
      · rcases cs a ha with rfl | hc
        · exact nf z
        · refine (hs.1 f hf).1 ?_ a hc z
          rcases hq with hq | hq
          · exact .inl hq
          · cases hq
      · rcases List.mem_cons.mp z with rfl | z
        · exact nf (cells_sub _ _ ha)
        · refine (hs.1 f hf).2 ?_ a ha (hG _ z)
          rcases hq with hq | hq
          · refine .inl ?_
            cases m <;> first | rfl | exact hq
          · exact .inr hq
    · rcases cs a ha with rfl | hc
      · exact .inl (h2.new0 hp)
      · rcases h2.new _ List.mem_cons_self a hc with z | z
        · exact .inl z
        · cases z.2
theorem RdFs.revP:∀ {xs:List V} {ds:List PyData} {F:List Addr},RdFs K H xs ds F→∃ G,RdFs K H xs.reverse ds.reverse G∧G.Perm F
  | _,_,_,.nil=>⟨[],.nil,.refl _⟩
  | _,_,_,.cons (x:=x) (d:=d) (F:=F1) (G:=F2) a t=>by
    obtain ⟨G,h1,h2⟩:=RdFs.revP t
    rw [List.reverse_cons,List.reverse_cons]
    exact ⟨G++F1,h1.snoc a,(h2.append_right F1).trans List.perm_append_comm⟩
end
def stepKB (i:Bool) (x z:DV) (δ:DS) (P:DV→DS→Prop):Prop:=match x,z with
  | .dat m (.list ds),.dat _ (.int k)=>(k=1∨k = -1)∧nlist i m (if k=1 then ds else ds.reverse) fun z=>P z δ
  | _,_=>False
def dStepK (i:Bool) (de dk:DE):DE:=fun δ P=>de δ fun x δ1=>dk δ1 fun z δ2=>stepKB i x z δ2 P
section
variable {X:Cx} {e k:Expr} {de dk:DE} {pos p2:Pos}
theorem dp_stepK {i:Bool} (he:PED X e de) (hk:PED X k dk):PED X (.Subscript e (.Slice none none (some k) p2) pos) (dStepK i de dk):=by
  refine PE.imp (pe_stepL he hk) fun σ H Q h=>?_
  obtain ⟨H0,Y,S,T,δ,P,rfl,hS,hA,hd,kk⟩:=h
  refine ⟨H0,Y,S,T,δ,_,rfl,hS,hA,hd,fun x δ1 v F S1 H1 e1 e2 hA1 p1=>?_⟩
  refine ⟨H0,Y,S1,⟨some v,x,F⟩::T,δ1,_,e1,e2,hA1,p1,fun z δ2 v2 F2 S2 H2 e3 e4 hA2 p2=>?_⟩
  unfold stepKB at p2
  split at p2
  · rename_i m ds mz kz
    obtain ⟨rfl,_⟩:=(hA2.told mem_mid).int_inv
    obtain ⟨a,xs,G,rfl,ha,ra,rfl,hz⟩:=(hA2.told mem_mid2).list_inv
    refine ⟨a,xs,kz,rfl,rfl,SqL.of ha,p2.1,fun p hp=>?_⟩
    have hA3:=hA2.drop
    rcases p2.1 with rfl | rfl
    · rw [if_pos rfl]
      have q:=p2.2
      rw [if_pos rfl] at q
      obtain ⟨z,F',hA4,p4⟩:=hA3.newLP ra (fun c hc=>List.mem_cons_of_mem _ hc) (fun z=>(List.nodup_cons.mp z).2) hz hp q
      exact kk z δ2 _ F' S2 _ e3 e4 hA4 p4
    · rw [if_neg (by decide)]
      have q:=p2.2
      rw [if_neg (by decide)] at q
      obtain ⟨G',h1,h2⟩:=ra.revP
      obtain ⟨z,F',hA4,p4⟩:=hA3.newLP h1 (fun c hc=>List.mem_cons_of_mem _ (h2.mem_iff.mp hc)) (fun z=>h2.nodup_iff.mpr (List.nodup_cons.mp z).2) (by rw [List.length_reverse]; exact hz) hp q
      exact kk z δ2 _ F' S2 _ e3 e4 hA4 p4
  · exact p2.elim
end
end DL
namespace DL
open PySem PySem.Spec PyProof.Rows L2 Nd
end DL
namespace DL
open PySem PySem.Spec PyProof.Rows L2 Nd
def dgLst (n:Nat) (gs:DGs):DG:=fun x δ P=>match x with
  | .dat m (.list ds)=>ds.length=n∧gs (ds.map fun d=>.dat (mdIn m) d) δ P
  | _=>False
def rdCatL:D2:=fun x y P=>match x,y with
  | .dat m (.list ds),.dat m' (.list es)=>m≠.pk∧m'≠.pk∧ds.length+es.length≤1000000∧P (.dat .tp (.list (ds++es)))
  | _,_=>False
theorem notPk {m:Md} {d:PyData} (h:m≠.pk):isPk (.dat m d)=false:=by cases m <;> first | rfl | exact absurd rfl h
theorem os_catL {K:PySem.W.Frag}:OpS K rCat rdCatL:=by
  intro H0 X n S T x y v w F G H Q P hA hd k
  unfold rdCatL at hd
  split at hd
  · rename_i m ds m' es
    obtain ⟨i1,i2,hz,p⟩:=hd
    obtain ⟨b,ys,G1,rfl,hb,rb,rfl,_⟩:=(hA.told mem_mid).list_inv
    obtain ⟨a,xs,G2,rfl,ha,ra,rfl,_⟩:=(hA.told mem_mid2).list_inv
    have l1:=ra.len
    have l2:=rb.len
    refine ⟨a,b,xs,ys,rfl,rfl,ha,hb,sz2 (by omega),fun q hq=>?_⟩
    have s1:=same_new hq (.lst (xs++ys))
    have sy:=List.pairwise_cons.mp hA.mid.sep
    have sx:=List.pairwise_cons.mp hA.drop.mid.sep
    have nq:∀ f∈S++_::_::T,q∉f.F:=hA.free hq
    have n1:q∉G1:=fun z=>nq _ mem_mid (List.mem_cons_of_mem _ z)
    have n2:q∉G2:=fun z=>nq _ mem_mid2 (List.mem_cons_of_mem _ z)
    have fr:=hA.drop2.free hq
    refine k _ _ _ _ (((hA.drop2.grow (n':=n) s1 (Nat.le_refl _)).push (e:=⟨some (.ref q),.dat .tp (.list (ds++es)),q::(G2++G1)⟩) ⟨_,rfl,.lst upd_same (by rw [List.length_append]; exact sz2 (by omega)) ((ra.app rb).kp (Kp.of s1)),fun z=>(nomatch z),fun _ a l e=>?_⟩ (fun f hf=>⟨fun _ c hc z=>?_,fun _ c hc z=>?_⟩) fun c hc=>?_).tomid) p
    · cases e
      exact fun z=>(List.mem_append.mp z).elim n2 n1
    · rw [List.mem_singleton.mp hc] at z
      exact fr f hf z
    · rcases List.mem_cons.mp z with z | z
      · rw [z] at hc
        exact fr f hf (cells_sub _ _ hc)
      · rcases List.mem_append.mp z with z | z
        · exact (sx.1 f hf).2 (.inl (notPk i1)) c hc (List.mem_cons_of_mem _ z)
        · exact (sy.1 f ((List.Sublist.refl S).append (List.sublist_cons_self _ T) |>.subset hf)).2 (.inl (notPk i2)) c hc (List.mem_cons_of_mem _ z)
    · rw [List.mem_singleton.mp hc]
      exact .inl (hA.new0 hq)
  · exact hd.elim
theorem dp_catL {X:Cx} {a b:Expr} {da db:DE} {pos:Pos} (ha:PED X a da) (hb:PED X b db):PED X (.BinOp a .Add b pos) (dOp rdCatL da db):=dp_op op_cat os_catL ha hb
end DL
namespace Nd
open PySem PySem.Spec PyProof.Rows
end Nd
namespace L2
open PySem PySem.Spec PyProof.Rows
end L2
namespace L2
open PySem PySem.Spec PyProof.Rows
end L2
namespace Nd
open PySem PySem.Spec PyProof.Rows L2
end Nd
namespace DL
open PySem PySem.Spec PyProof.Rows L2 Nd
end DL
namespace DL
open PySem PySem.Spec PyProof.Rows L2 Nd
end DL
namespace Nd
open PySem PySem.Spec PyProof.Rows L2
end Nd
namespace Nd
open PySem PySem.Spec PyProof.Rows L2
end Nd
namespace Nd
open PySem PySem.Spec PyProof.Rows L2
end Nd
namespace Nd
open PySem PySem.Spec PyProof.Rows L2
end Nd
namespace DL
open PySem PySem.Spec PyProof.Rows L2 Nd
end DL
namespace Nd
open PySem PySem.Spec PySem.Calls PyProof.Rows PyProof.V L2
end Nd
namespace DL
open PySem PySem.Spec PyProof.Rows L2 Nd
end DL
namespace DL
open PySem PySem.Spec PyProof.Rows L2 Nd
def compStepDL (p:Nat) (dc:DT) (de:DE) (δ:DS) (yes:PyData→Nat→Prop) (no:Nat→Prop):Prop:=dc δ fun b δ2=>match b with
  | true=>de δ2 fun y δ3=>match y with
    | .dat m e=>m≠.pk∧δ3.sl[p]? = some .drw∧yes e δ3.n
    | _=>False
  | false=>δ2.sl[p]? = some .drw∧no δ2.n
def dCompDL (di:DI) (js1:List Nat) (j0:Nat) (js2:List Nat) (dc:DT) (de:DE):DE:=fun δ P=>di δ fun m ds δ1=>δ1.sl[j0]? = some .drw∧∃ I:Nat→List PyData→Nat→Prop,I 0 [] δ1.n ∧
  (∀ i d acc n,ds[i]? = some d→I i acc n→compStepDL (js1.length+1) dc de ⟨.dat m d::(frD (δ1.sl.set j0 .un) js1++.drw::frD (δ1.sl.set j0 .un) js2),n⟩ (fun e n'=>I (i+1) (acc++[e]) n') (fun n'=>I (i+1) acc n')) ∧
  ∀ acc n,I ds.length acc n→P (.dat .tp (.list acc)) ⟨δ1.sl,n⟩
section
variable {K:PySem.W.Frag} {H0 H H':Hp} {Y:Addr→Prop} {n n':Nat} {E S T:List Ent}
theorem drw_in {S':List Ent} {δ:DS} {p:Nat} {dr:Addr} {R:List Ent} (hA:At K H0 Y n (S'++R) H) (hS:Sl S' δ) (hp:δ.sl[p]? = some .drw) (hv:(vs S')[p]? = some (some (.ref dr))):At K H0 Y n (⟨some (.ref dr),.drw,[dr]⟩::R) H:=by
  obtain ⟨ent,e2,e3⟩:=slot_of hS hp
  have hm:ent∈S':=List.mem_of_getElem? e2
  rw [vs_at e2] at hv
  obtain ⟨u,x,F⟩:=ent
  have e3':x=.drw:=e3
  subst e3'
  have hu:u=some (.ref dr):=Option.some.inj hv
  subst hu
  obtain ⟨dr',c,k,f,h1,h2,h3⟩:=hA.ok _ (List.mem_append_left _ hm)
  have h1':some (V.ref dr)=some (V.ref dr'):=h1
  cases h1'
  have h2':F=[dr]:=h2
  subst h2'
  exact hA.sub ((List.singleton_sublist.mpr hm).append (List.Sublist.refl R))
theorem step_leDL {p:Nat} {dr:Addr} {dc:DT} {de:DE} {δ:DS} {yes:PyData→Nat→Prop} {no:Nat→Prop} {D:Addr} {G:List Addr} {acc:List PyData} {N1:Hp→Prop} {N2:VK} (hS:Sl S δ) (hA:At K H0 Y δ.n (S++⟨some (.ref D),.acc acc,D::G⟩::T) H) (hp:(vs S)[p]? = some (some (.ref dr))) (h:compStepDL p dc de δ yes no) (k1:∀ n' H',At K H0 Y n' (⟨some (.ref dr),.drw,[dr]⟩::⟨some (.ref D),.acc acc,D::G⟩::T) H'→no n'→N1 H') (k2:∀ e m n' v F H',At K H0 Y n' (⟨some (.ref dr),.drw,[dr]⟩::⟨some v,.dat m e,F⟩::⟨some (.ref D),.acc acc,D::G⟩::T) H'→m≠.pk→yes e n'→N2 v H'):LT K dc (vs S) H fun c H2=>if c=true then LE K de (vs S) H2 N2 else N1 H2:=by
  refine ⟨H0,Y,S,⟨some (.ref D),.acc acc,D::G⟩::T,δ,_,rfl,hS,hA,h,fun b δ2 S2 H2 e1 e2 hA2 p2=>?_⟩
  cases b with
  | false=>exact iteF (k1 _ _ (drw_in hA2 e2 p2.1 (by rw [e1]; exact hp)) p2.2)
  | true =>
    refine iteT ⟨H0,Y,S2,⟨some (.ref D),.acc acc,D::G⟩::T,δ2,_,e1,e2,hA2,p2,fun y δ3 v F S3 H3 e3 e4 hA3 p3=>?_⟩
    split at p3
    · exact k2 _ _ _ _ _ _ (drw_in hA3 e4 p3.2.1 (by rw [e3]; exact hp)) p3.1 p3.2.2
    · exact p3.elim
theorem compDL_le {di:DI} {js1 js2:List Nat} {j0:Nat} {dc:DT} {de:DE}:∀ σ H Q,LE K (dCompDL di js1 j0 js2 dc de) σ H Q→tComp (LI K di) (js1++j0::js2) (LT K dc) (LE K de) σ H Q:=by
  intro σ H Q h
  obtain ⟨H0,Y,S,T,δ,P,rfl,hS,hA,hd,k⟩:=h
  refine ⟨H0,Y,S,T,δ,_,rfl,hS,hA,hd,fun m ds δ1 J hid S1 H1 e1 e2 hA1 it hz p1=>?_⟩
  obtain ⟨hj,I,h0,hs,hf⟩:=p1
  rw [← e1]
  obtain ⟨ent,s1,s2⟩:=slot_of e2 hj
  have hm':ent∈S1:=List.mem_of_getElem? s1
  obtain ⟨u,x,F0⟩:=ent
  have s2':x=.drw:=s2
  subst s2'
  obtain ⟨dr,_,_,_,hv0,hF0,_⟩:=hA1.ok _ (List.mem_append_left _ hm')
  have hv0':u=some (.ref dr):=hv0
  have hF0':F0=[dr]:=hF0
  subst hv0' hF0'
  intro D hD
  refine ⟨fun i q H=>q=ds.length - i∧i≤ds.length∧∃ acc n G,At K H0 Y n (⟨some (.ref D),.acc acc,D::G⟩::(S1++(hid++T))) H∧acc.length≤i∧I i acc n,⟨ds.length,by simp,Nat.zero_le _,[],δ1.n,[],hA1.accNew hD,Nat.le_refl _,h0⟩,?_⟩
  rintro i q H ⟨rfl,hi,acc,n,G,hA2,hl,hI⟩
  have hid_ok:∀ e∈hid,EntOk K H n e:=fun e he=>hA2.ok e (List.mem_cons_of_mem _ (List.mem_append_right _ (List.mem_append_left _ he)))
  by_cases hlt:i<ds.length
  · refine .inr ⟨it.go H n i hid_ok hlt,fun x H' y=>?_⟩
    obtain ⟨s1',d,F,h1,h2,h3⟩:=it.yld H n i x H' hid_ok hlt y
    have hA3:At K H0 Y n ((⟨some (.ref D),.acc acc,D::G⟩::S1)++⟨some x,.dat m d,F⟩::(hid++T)) H':=At.item (S:=⟨some (.ref D),.acc acc,D::G⟩::S1) hA2 s1' h2 h3 it.md it.hd it.np
    -- the draws are taken out of their slot
    have hA4:At K H0 Y n (⟨some (.ref dr),.drw,[dr]⟩::⟨some x,.dat m d,F⟩::⟨some (.ref D),.acc acc,D::G⟩::(S1.set j0 ⟨some (.ref dr),.un,[]⟩++(hid++T))) H':=by
      have q:=hA3.mid.blank (v:=some (.ref dr))
      refine q.perm ?_
      have pS:(⟨some (.ref dr),.un,[]⟩::S1:List Ent).Perm (⟨some (.ref dr),.drw,[dr]⟩::S1.set j0 ⟨some (.ref dr),.un,[]⟩):=set_perm s1
      have p2:=pS.append_right (hid++T)
      -- un::x::D::S1.. ~ x::D::un::S1..
      have a1:((⟨some (.ref dr),.un,[]⟩ : Ent)::⟨some x,.dat m d,F⟩::((⟨some (.ref D),.acc acc,D::G⟩::S1)++(hid++T))).Perm (⟨some x,.dat m d,F⟩::⟨some (.ref D),.acc acc,D::G⟩::⟨some (.ref dr),.un,[]⟩::(S1++(hid++T))) :=
        (List.Perm.swap _ _ _).trans ((List.Perm.swap _ _ _).cons _)
      have a2:((⟨some x,.dat m d,F⟩ : Ent)::⟨some (.ref D),.acc acc,D::G⟩::⟨some (.ref dr),.drw,[dr]⟩::(S1.set j0 ⟨some (.ref dr),.un,[]⟩++(hid++T))).Perm (⟨some (.ref dr),.drw,[dr]⟩::⟨some x,.dat m d,F⟩::⟨some (.ref D),.acc acc,D::G⟩::(S1.set j0 ⟨some (.ref dr),.un,[]⟩++(hid++T))) :=
        ((List.Perm.swap _ _ _).cons _).trans (List.Perm.swap _ _ _)
      exact a1.trans (((p2.cons _).cons _).trans a2)
    have e2':Sl (S1.set j0 ⟨some (.ref dr),.un,[]⟩) ⟨δ1.sl.set j0 .un,n⟩:=sl_set e2
    have vS:vs (S1.set j0 ⟨some (.ref dr),.un,[]⟩)=vs S1:=by
      rw [vs_set]
      apply List.ext_getElem?
      intro j
      rw [List.getElem?_set]
      split
      · rename_i hij
        subst hij
        rw [vs_at s1]
        split
        · rfl
        · rename_i hj'
          unfold vs at hj'
          rw [List.length_map] at hj'
          exact absurd (List.getElem?_eq_some_iff.mp s1).1 hj'
      · rfl
    have hsub:∀ e∈S1.set j0 ⟨some (.ref dr),.un,[]⟩,e∈(⟨some (.ref dr),.drw,[dr]⟩::⟨some x,.dat m d,F⟩::⟨some (.ref D),.acc acc,D::G⟩::(S1.set j0 ⟨some (.ref dr),.un,[]⟩++(hid++T)):List Ent):=fun e he=>List.mem_cons_of_mem _ (List.mem_cons_of_mem _ (List.mem_cons_of_mem _ (List.mem_append_left _ he)))
    have hA5:=At.view (S:=S1.set j0 ⟨some (.ref dr),.un,[]⟩) hA4 hsub js2
    have hA5':=At.view (S:=S1.set j0 ⟨some (.ref dr),.un,[]⟩) hA5 (fun e he=>List.mem_append_right _ (hsub e he)) js1
    have hA6:At K H0 Y n ((⟨some x,.dat m d,F⟩::(frE (S1.set j0 ⟨some (.ref dr),.un,[]⟩) js1++⟨some (.ref dr),.drw,[dr]⟩::frE (S1.set j0 ⟨some (.ref dr),.un,[]⟩) js2))++⟨some (.ref D),.acc acc,D::G⟩::(S1.set j0 ⟨some (.ref dr),.un,[]⟩++(hid++T))) H':=by
      refine hA5'.perm ?_
      generalize frE (S1.set j0 ⟨some (.ref dr),.un,[]⟩) js1=A1
      generalize frE (S1.set j0 ⟨some (.ref dr),.un,[]⟩) js2=A2
      generalize (⟨some (.ref D),.acc acc,D::G⟩::(S1.set j0 ⟨some (.ref dr),.un,[]⟩++(hid++T)):List Ent)=R
      have b1:(A2++((⟨some (.ref dr),.drw,[dr]⟩ : Ent)::⟨some x,.dat m d,F⟩::R)).Perm ((⟨some x,.dat m d,F⟩ : Ent)::⟨some (.ref dr),.drw,[dr]⟩::(A2++R)) :=
        (List.perm_middle.trans ((List.perm_middle).cons _)).trans (List.Perm.swap _ _ _)
      have b2:=b1.append_left A1
      refine b2.trans (List.perm_middle.trans ?_)
      rw [List.cons_append,List.append_assoc,List.cons_append]
    have hS6:Sl (⟨some x,.dat m d,F⟩::(frE (S1.set j0 ⟨some (.ref dr),.un,[]⟩) js1++⟨some (.ref dr),.drw,[dr]⟩::frE (S1.set j0 ⟨some (.ref dr),.un,[]⟩) js2)) ⟨.dat m d::(frD (δ1.sl.set j0 .un) js1++.drw::frD (δ1.sl.set j0 .un) js2),n⟩:=by
      unfold Sl
      rw [List.map_cons,List.map_append,List.map_cons,sl_fr e2',sl_fr e2']
    have hv:vs (⟨some x,.dat m d,F⟩::(frE (S1.set j0 ⟨some (.ref dr),.un,[]⟩) js1++⟨some (.ref dr),.drw,[dr]⟩::frE (S1.set j0 ⟨some (.ref dr),.un,[]⟩) js2))=some x::frees (vs S1) (js1++j0::js2):=by
      have f1:=vs_fr (S1.set j0 ⟨some (.ref dr),.un,[]⟩) js1
      have f2:=vs_fr (S1.set j0 ⟨some (.ref dr),.un,[]⟩) js2
      rw [vS] at f1 f2
      unfold vs at f1 f2 ⊢
      rw [List.map_cons,List.map_append,List.map_cons,f1,f2]
      unfold frees
      rw [List.map_append,List.map_cons,List.getElem?_map,s1]
      rfl
    have hp6:(vs (⟨some x,.dat m d,F⟩::(frE (S1.set j0 ⟨some (.ref dr),.un,[]⟩) js1++⟨some (.ref dr),.drw,[dr]⟩::frE (S1.set j0 ⟨some (.ref dr),.un,[]⟩) js2)))[js1.length+1]? = some (some (.ref dr)):=by
      unfold vs
      rw [List.map_cons,List.getElem?_cons_succ,List.map_append,List.getElem?_append_right (by rw [List.length_map]; unfold frE; rw [List.length_map]; exact Nat.le_refl _)]
      rw [List.length_map]
      unfold frE
      rw [List.length_map,Nat.sub_self]
      rfl
    -- back to the outer names
    have back:∀ {n':Nat} {H2:Hp} {B:List Ent},At K H0 Y n' (⟨some (.ref dr),.drw,[dr]⟩::(B++(S1.set j0 ⟨some (.ref dr),.un,[]⟩++(hid++T)))) H2→At K H0 Y n' (B++(S1++(hid++T))) H2:=fun {n' H2 B} hB=>by
      have pS:(⟨some (.ref dr),.un,[]⟩::S1:List Ent).Perm (⟨some (.ref dr),.drw,[dr]⟩::S1.set j0 ⟨some (.ref dr),.un,[]⟩):=set_perm s1
      have p2:=pS.append_right (hid++T)
      have p3:((⟨some (.ref dr),.drw,[dr]⟩ : Ent)::(B++(S1.set j0 ⟨some (.ref dr),.un,[]⟩++(hid++T)))).Perm (⟨some (.ref dr),.un,[]⟩::(B++(S1++(hid++T)))) :=
        List.perm_middle.symm.trans ((p2.symm.append_left B).trans List.perm_middle)
      exact (hB.perm p3).sub (List.sublist_cons_self _ _)
    refine ⟨fun H2=>∃ m',m'<ds.length - i∧_,fun y H3=>∃ acc,H3 D=some (.lst acc)∧acc.length<sizeLine∧∃ m',m'<ds.length - i∧_,fun H2 q=>q,fun y H3 q=>q,?_⟩
    rw [← hv]
    refine step_leDL hS6 hA6 hp6 (hs i d acc n h1 hI) (fun n' H2 hA7 p=>?_) (fun e m' n' v F' H2 hA7 hm p=>?_)
    · exact ⟨ds.length - (i+1),by omega,rfl,hlt,acc,n',G,back (B:=[_]) hA7,by omega,p⟩
    · obtain ⟨xs,g1,g2,g3⟩:=((back (B:=[_,_]) hA7).perm (List.Perm.swap _ _ _)).accPutG hm (by omega)
      exact ⟨xs,g1,by omega,ds.length - (i+1),by omega,rfl,hlt,acc++[e],n',_,g3,by rw [List.length_append]; simp; omega,p⟩
  · have e:i=ds.length:=by omega
    subst e
    refine .inl ⟨it.stop H n hid_ok,k _ ⟨δ1.sl,n⟩ _ (D::G) S1 H e1 e2 ?_ (hf acc n hI)⟩
    have hA3:=hA2.accGetG (b:=false) (fun z=>nomatch z)
    have hA4:At K H0 Y n (⟨some (.ref D),.dat .tp (.list acc),D::G⟩::(S1++T)) H:=hA3.sub (((List.Sublist.refl S1).append (List.sublist_append_right hid T)).cons₂ _)
    exact hA4.tomid
end
section
variable {X:Cx} {elt iter c:Expr} {x y0:Str} {px py pos spos:Pos} {i0:Nat} {ifs:List Expr} {scope:Scope} {cl:List (Str×Addr)} {ys:List Str} {js1 js2:List Nat} {j0:Nat} {di:DI} {dc:DT} {de:DE}
theorem dp_compDL (C:CompScope X scope cl x ys (js1++j0::js2)) (hc:X.calm=true) (hi:PID X (.Name x px) iter di) (ht:∀ fp s H,PTs (cxComp X scope cl (x::ys) fp s H) ifs (LT X.K dc)) (he:∀ fp s H,PED (cxComp X scope cl (x::ys) fp s H) elt de) (hs:∀ x,foldedSetIterable iter X.env x=pure x:=by intro _; rfl):PED X (.ListComp elt [⟨.Name x px,iter,ifs,0⟩] scope pos) (dCompDL di js1 j0 js2 dc de):=PE.imp (pe_comp C hc hi ht he hs) compDL_le
theorem ds_setCDL {o:Bool} (hN:X.N.Nodup) (hi0:X.N[i0]? = some y0) (hy0:X.env.scope.names.lookup y0=some .local) (C:CompScope X scope cl x ys (js1++j0::js2)) (hc:X.calm=true) (hi:PID X (.Name x px) iter di) (ht:∀ fp s H,PTs (cxComp X scope cl (x::ys) fp s H) ifs (LT X.K dc)) (he:∀ fp s H,PED (cxComp X scope cl (x::ys) fp s H) elt de) (hs:∀ x,foldedSetIterable iter X.env x=pure x:=by intro _; rfl) (hsw:swapsWith (.ListComp elt [⟨.Name x px,iter,ifs,0⟩] scope pos) (some (.Name y0 py)) spos.line X.env=pure true:=by rfl):PSD X (.Assign [.Name y0 py] (.ListComp elt [⟨.Name x px,iter,ifs,0⟩] scope pos) spos) (dAsg (dCompDL di js1 j0 js2 dc de) (dgN o i0)):=PS.impD (ps_setC hN hi0 hy0 C hc hi ht he hs hsw) (asg_le compDL_le n_le)
end
end DL
namespace DL
open PySem PySem.Spec PyProof.Rows L2 Nd
section
variable (K:PySem.W.Frag) (H0:Hp)
def LEX (de:DE):TE:=fun σ H Q=>∃ (S T:List Ent) (δ:DS) (P:DV→DS→Prop),vs S=σ∧Sl S δ∧At K H0 (fun _=>False) δ.n (S++T) H∧de δ P ∧
  ∀ x δ' v F S' H',vs S'=σ→Sl S' δ'→At K H0 (fun _=>False) δ'.n (S'++⟨some v,x,F⟩::T) H'→P x δ'→Q v H'
def LAX (da:DA):TA:=fun σ H Q=>∃ (S T:List Ent) (δ:DS) (P:List DV→DS→Prop),vs S=σ∧Sl S δ∧At K H0 (fun _=>False) δ.n (S++T) H∧da δ P ∧
  ∀ xs δ' As us S' H',vs S'=σ→Sl S' δ'→As.map Ent.x=xs→As.map Ent.v=us.map some→At K H0 (fun _=>False) δ'.n (S'++(As++T)) H'→P xs δ'→Q us H'
def LSX (db:DB):TS:=fun D σ H=>∃ (S T:List Ent) (δ:DS) (P:DEnds),vs S=σ∧Sl S δ∧(∀ e∈T,isPk e.x=false)∧At K H0 (fun _=>False) δ.n (S++T) H∧db P δ ∧
  (∀ δ' S' H',Sl S' δ'→At K H0 (fun _=>False) δ'.n (S'++T) H'→P.nx δ'→D.nx (vs S') H') ∧
  (∀ x δ' v F S' H',Sl S' δ'→At K H0 (fun _=>False) δ'.n (S'++⟨some v,x,F⟩::T) H'→P.rt x δ'→D.rt v H') ∧
  (∀ δ' S' H',Sl S' δ'→At K H0 (fun _=>False) δ'.n (S'++T) H'→P.bk δ'→D.bk (vs S') H') ∧
  (∀ δ' S' H',Sl S' δ'→At K H0 (fun _=>False) δ'.n (S'++T) H'→P.ct δ'→D.ct (vs S') H')
end
abbrev PX:=List PyData→(PyData→Prop)→(Addr→Prop)→Prop
def SpX (K:PySem.W.Frag) (pf:PX):Sp:=fun us H Q E=>∃ (As:List Ent) (n:Nat) (ds:List PyData) (R:PyData→Prop) (Ex:Addr→Prop),As.map Ent.v=us.map some∧(∀ e∈As,EntOk K H n e)∧datas (As.map Ent.x)=some ds∧pf ds R Ex ∧
  (∀ v d F H',R d→RdF K H' v d F→F.Nodup→(∀ a∈F,H a=none)→Same H H'→Q v H')∧∀ C H',Ex C→Same H H'→E (.ref C) none H'
def dCallX (pf:PX) (Ex:Addr→Prop) (da:DA):DE:=fun δ P=>da δ fun xs δ1=>match datas xs with
  | some ds=>pf ds (fun d=>P (.dat .ow d) δ1) Ex
  | none=>False
def dRaise (Ex:Addr→Prop) (C:Addr):DB:=fun _ _=>Ex C
section
variable {X:Cx} {H0:Hp} {st:Stmt} {rest body:List Stmt} {e tg c iter:Expr} {es:List Expr} {de:DE} {da:DA} {dt:DT} {dg:DG} {di:DI} {t u db:DB} {pos:Pos}
theorem dpx (h:PED X e de):PE X e (LEX X.K H0 de):=PE.imp h fun σ H Q ⟨S,T,δ,P,z⟩=>⟨H0,_,S,T,δ,P,z⟩
theorem dpax (h:PAD X es da):PA X es (LAX X.K H0 da):=PA.imp h fun σ H Q ⟨S,T,δ,P,z⟩=>⟨H0,_,S,T,δ,P,z⟩
theorem dsx (h:PSD X st db):PS X st (LSX X.K H0 db):=PS.impD h fun D σ H ⟨S,T,δ,P,z⟩=>⟨H0,_,S,T,δ,P,z⟩
theorem dssx (h:PSsD X rest db):PSs X rest (LSX X.K H0 db):=PSs.impD h fun D σ H ⟨S,T,δ,P,z⟩=>⟨H0,_,S,T,δ,P,z⟩
theorem dpax_cons (ha:PE X e (LEX X.K H0 de)) (hr:PA X es (LAX X.K H0 da)) (hs:starEach (e::es) X.env=(false,eval e X.env)::starEach es X.env:=by rfl):PA X (e::es) (LAX X.K H0 (dCons de da)):=by
  refine PA.imp (pa_cons ha hr hs) fun σ H Q h=>?_
  obtain ⟨S,T,δ,P,rfl,hS,hA,hd,k⟩:=h
  refine ⟨S,T,δ,_,rfl,hS,hA,hd,fun x δ1 v F S1 H1 e1 e2 hA1 p1=>?_⟩
  refine ⟨S1,⟨some v,x,F⟩::T,δ1,_,e1,e2,hA1,p1,fun xs δ2 As us S2 H2 e3 e4 ex eu hA2 p2=>?_⟩
  refine k (x::xs) δ2 (⟨some v,x,F⟩::As) (v::us) S2 H2 e3 e4 (by rw [List.map_cons,ex]) (by rw [List.map_cons,List.map_cons,eu]) ?_ p2
  refine hA2.perm ((List.Perm.refl S2).append ?_)
  rw [List.cons_append]
  exact List.perm_middle
theorem dsx_one (h:PS X st (LSX X.K H0 t)):PSs X [st] (LSX X.K H0 t):=pss_one h
theorem dsx_cons (h1:PS X st (LSX X.K H0 t)) (h2:PSs X rest (LSX X.K H0 u)):PSs X (st::rest) (LSX X.K H0 (dSeq t u)):=by
  refine PSs.impD (pss_cons h1 h2) fun D σ H h=>?_
  obtain ⟨S,T,δ,P,rfl,hS,hT,hA,hd,k1,k2,k3,k4⟩:=h
  exact ⟨S,T,δ,_,rfl,hS,hT,hA,hd,fun δ' S' H' e2 hA' p=>⟨S',T,δ',P,rfl,e2,hT,hA',p,k1,k2,k3,k4⟩,k2,k3,k4⟩
theorem dsx_if {a b:List Stmt} (hc:PTD X c dt) (ha:PSs X a (LSX X.K H0 t)) (hb:PSs X b (LSX X.K H0 u)):PS X (.If c a b pos) (LSX X.K H0 (dIf dt t u)):=by
  refine PS.impD (ps_if hc ha hb) fun D σ H h=>?_
  obtain ⟨S,T,δ,P,rfl,hS,hT,hA,hd,k1,k2,k3,k4⟩:=h
  refine ⟨H0,_,S,T,δ,_,rfl,hS,hA,hd,fun b δ' S' H' e1 e2 hA' p=>?_⟩
  cases b with
  | true=>exact iteT ⟨S',T,δ',P,e1,e2,hT,hA',p,k1,k2,k3,k4⟩
  | false=>exact iteF ⟨S',T,δ',P,e1,e2,hT,hA',p,k1,k2,k3,k4⟩
theorem dsx_set {i:Nat} {x:Str} {pos':Pos} (hN:X.N.Nodup) (hi:X.N[i]? = some x) (hx:Loc X.env.scope x) (he:PE X e (LEX X.K H0 de)) (hs:swapsWith e (some (.Name x pos')) pos.line X.env=pure false:=by rfl) (hf:X.fn x=true∨X.env.scope.names.lookup x=some .local:=by first | exact .inl rfl | exact .inr rfl | assumption):PS X (.Assign [.Name x pos'] e pos) (LSX X.K H0 (dAsg de (dgName i))):=by
  refine PS.impD (ps_set hN hi hx he hs hf) fun D σ H h=>?_
  obtain ⟨S,T,δ,P,rfl,hS,hT,hA,hd,k1,k2,k3,k4⟩:=h
  refine ⟨S,T,δ,_,rfl,hS,hA,hd,fun x δ' v F S' H' e1 e2 hA' p=>?_⟩
  exact name_le _ _ _ _ ⟨H0,_,S',T,δ',x,F,P.nx,e1,e2,hA',p,fun δ2 S2 H2 e3 hA2 q=>k1 δ2 S2 H2 e3 hA2 q⟩
theorem dsx_for (hp:PassesOwn (model X.prog X.w) X.A X.env X.xe) (hc:X.calm=true) (hi:PID X tg iter di) (hg:PGD X tg dg) (hb:PSs X body (LSX X.K H0 db)) (hs:∀ x,foldedSetIterable iter X.env x=pure x:=by intro _; rfl):PS X (.For tg iter body [] pos) (LSX X.K H0 (dFor di dg db)):=by
  refine PS.impD (ps_for hp hc hi hg hb hs) fun D σ H h=>?_
  obtain ⟨S,T,δ,P,rfl,hS,hT,hA,hd,k1,k2,k3,k4⟩:=h
  refine ⟨H0,_,S,T,δ,_,rfl,hS,hA,hd,fun m ds δ1 J hid S1 H1 e1 e2 hA1 it hz p1=>?_⟩
  obtain ⟨rfl,I,h0,hs,hf⟩:=p1
  rw [← e1]
  have hT':∀ e∈hid++T,isPk e.x=false:=fun e he=>by
    rcases List.mem_append.mp he with he | he
    · exact it.np rfl e he
    · exact hT e he
  refine ⟨fun i q σ H=>q=ds.length - i∧i≤ds.length∧∃ S δ,vs S=σ∧Sl S δ∧At X.K H0 (fun _=>False) δ.n (S++(hid++T)) H∧I i δ,⟨ds.length,by simp,Nat.zero_le _,S1,δ1,rfl,e2,hA1,h0⟩,?_⟩
  rintro i q σ H ⟨rfl,hi,S2,δ2,rfl,e3,hA2,hI⟩
  have hid_ok:∀ e∈hid,EntOk X.K H δ2.n e:=fun e he=>hA2.ok e (List.mem_append_right _ (List.mem_append_left _ he))
  by_cases hlt:i<ds.length
  · refine .inr ⟨it.go H δ2.n i hid_ok hlt,fun σ' H'=>∃ S δ,vs S=σ'∧Sl S δ∧At X.K H0 (fun _=>False) δ.n (S++(hid++T)) H'∧I (i+1) δ,fun σ' H' q=>⟨ds.length - (i+1),by omega,rfl,hlt,q⟩,fun x H' y=>?_⟩
    obtain ⟨s1,d,F,h1,h2,h3⟩:=it.yld H δ2.n i x H' hid_ok hlt y
    refine ⟨H0,_,S2,hid++T,δ2,.dat .sh d,F,_,rfl,e3,hA2.item s1 h2 h3 it.md it.hd it.np,hs i d δ2 h1 hI,fun δ3 S3 H3 e4 hA3 p3=>?_⟩
    refine ⟨S3,hid++T,δ3,_,rfl,e4,hT',hA3,p3,fun δ4 S4 H4 e5 hA4 p4=>⟨S4,δ4,rfl,e5,hA4,p4⟩,fun x δ4 v F S4 H4 e5 hA4 p4=>k2 x δ4 v F S4 H4 e5 hA4.dropH p4,
      fun δ4 S4 H4 e5 hA4 p4=>k1 δ4 S4 H4 e5 hA4.dropL p4,fun δ4 S4 H4 e5 hA4 p4=>⟨S4,δ4,rfl,e5,hA4,p4⟩⟩
  · have e:i=ds.length:=by omega
    subst e
    exact .inl ⟨it.stop H δ2.n hid_ok,k1 δ2 S2 H e3 hA2.dropL (hf δ2 hI)⟩
end
section
variable {X:Cx} {H0:Hp} {CX:CXT} {k:Nat} {f:Addr} {fd:FuncData} {ps:List Str} {pf:PF} {px:PX} {Ex:Addr→Prop} {E:XK} {x:Str} {p pos:Pos} {e:Expr} {es:List Expr} {da:DA}
theorem same0 {K:PySem.W.Frag} {n:Nat} {L:List Ent} {H:Hp} (h:At K H0 (fun _=>False) n L H):Same H0 H:=fun b o q=>h.same b o (fun z=>z) q
theorem dpx_call (F:FnOk X.prog X.w X.K X.mg X.base CX k f fd ps (SpP X.K pf)) (hr:Room k X.A) (hg:Gl X x) (hm:X.mg x=some (.ref f)) (hk:PySem.W.keepIn X.K (.ref f)=true) (hb:Binds X.K fd ps []) (hx:Passes CX X E) (ha:PA X (e::es) (LAX X.K H0 da)) (hdb:(x == ("__debug__" : Str))=false:=by decide) (he:starEach (e::es) X.env=(false,eval e X.env)::starEach es X.env:=by rfl) (hpl:(backTo pos (starEach es X.env)).any (·.1)=false:=by rfl):PE X (.Call (.Name x p) (e::es) [] pos) (LEX X.K H0 (dCall pf da)):=by
  refine PE.imp (pe_call F hr hg hm hk hb .nil hx ha hdb he hpl) fun σ H Q h=>?_
  obtain ⟨S,T,δ,P,rfl,hS,hA,hd,kk⟩:=h
  refine ⟨S,T,δ,_,rfl,hS,hA,hd,fun xs δ' As us S' H' e1 e2 ex eu hA' p=>?_⟩
  subst ex
  cases q:datas (As.map Ent.x) with
  | none=>rw [q] at p; exact p.elim
  | some ds =>
    rw [q] at p
    rw [List.append_nil]
    refine ⟨As,δ'.n,ds,_,eu,fun e he=>hA'.ok e (List.mem_append_right _ (List.mem_append_left _ he)),q,p,fun v d F H'' r rd nd fr s=>?_⟩
    exact kk _ δ' v F S' H'' e1 e2 (((hA'.dropL.grow s (Nat.le_refl _)).pushF rd nd (fun a ha=>hA'.dropL.free (fr a ha)) (fun a ha=>hA'.new0 (fr a ha))).tomid) r
theorem dpx_callX (hE:∀ C H',Ex C→Same H0 H'→E (.ref C) none H') (F:FnOk X.prog X.w X.K X.mg X.base CX k f fd ps (SpX X.K px)) (hr:Room k X.A) (hg:Gl X x) (hm:X.mg x=some (.ref f)) (hk:PySem.W.keepIn X.K (.ref f)=true) (hb:Binds X.K fd ps []) (hx:Passes CX X E) (ha:PA X (e::es) (LAX X.K H0 da)) (hdb:(x == ("__debug__" : Str))=false:=by decide) (he:starEach (e::es) X.env=(false,eval e X.env)::starEach es X.env:=by rfl) (hpl:(backTo pos (starEach es X.env)).any (·.1)=false:=by rfl):PE X (.Call (.Name x p) (e::es) [] pos) (LEX X.K H0 (dCallX px Ex da)):=by
  refine PE.imp (pe_call F hr hg hm hk hb .nil hx ha hdb he hpl) fun σ H Q h=>?_
  obtain ⟨S,T,δ,P,rfl,hS,hA,hd,kk⟩:=h
  refine ⟨S,T,δ,_,rfl,hS,hA,hd,fun xs δ' As us S' H' e1 e2 ex eu hA' p=>?_⟩
  subst ex
  cases q:datas (As.map Ent.x) with
  | none=>rw [q] at p; exact p.elim
  | some ds =>
    rw [q] at p
    rw [List.append_nil]
    refine ⟨As,δ'.n,ds,_,Ex,eu,fun e he=>hA'.ok e (List.mem_append_right _ (List.mem_append_left _ he)),q,p,fun v d F H'' r rd nd fr s=>?_,fun C H'' hc s=>hE C H'' hc ((same0 hA').trans s)⟩
    exact kk _ δ' v F S' H'' e1 e2 (((hA'.dropL.grow s (Nat.le_refl _)).pushF rd nd (fun a ha=>hA'.dropL.free (fr a ha)) (fun a ha=>hA'.new0 (fr a ha))).tomid) r
def PX.calm (px:PX):PF:=fun ds R=>px ds R fun _=>False
theorem passFX {X:Cx} {P:Program} {w:World}:Passes (CXN P w) X E0:=by
  intro pins σ H1 s1 ev s' I h
  obtain ⟨e,C,t,H',B,rfl,F,q⟩:=h
  exact q.elim
theorem SpX.calm {K:PySem.W.Frag} {us:List V} {H:Hp} {Q:VK} {E:XK} (h:SpP K px.calm us H Q E):SpX K px us H Q E:=by
  obtain ⟨As,n,ds,R,h1,h2,h3,h4,h5⟩:=h
  exact ⟨As,n,ds,R,_,h1,h2,h3,h4,h5,fun _ _ z=>z.elim⟩
theorem calm_ok {P:Program} {w:World} {K:PySem.W.Frag} {mg:Str→Option Value} {base:Heap} (F:FnOk P w K mg base CX k f fd ps (SpX K px)):FnOk P w K mg base CX k f fd ps (SpP K px.calm):=F.imp fun _ _ _ _ h=>SpX.calm h
end
section
variable {P:Program} {w:World} {K:PySem.W.Frag} {mg:Str→Option Value} {base:Heap} {N:List Str} {qual:Str} {scope:Scope} {f:Addr} {cd:Value} {A:Around} {outer:List Env} {s:Shared} {H:Hp} {E:XK}
theorem passOwnN:PassesOwn (model P w) (cxOf (CXN P w) P w K mg base N qual scope f cd A outer s H E).A (cxOf (CXN P w) P w K mg base N qual scope f cd A outer s H E).env (cxOf (CXN P w) P w K mg base N qual scope f cd A outer s H E).xe:=by
  show PassesOwn _ (A.deeper (envOfC qual scope s.heap.objs.size f cd)) (envOfC qual scope s.heap.objs.size f cd) (fun e s'=>wpAny (model P w) (A.deeper (envOfC qual scope s.heap.objs.size f cd)) (leaving (envOfC qual scope s.heap.objs.size f cd) e) (fun _ s''=>CXN P w outer H s E e s'') (fun e' s''=>CXN P w outer H s E e' s'') s')
  passes_own
theorem dsx_raise {Ex:Addr→Prop} {C:Addr} {x:Str} {np cpos pos:Pos} {t:Str} {tp:Pos} {j:Nat} (hE:∀ C H',Ex C→Same H H'→E (.ref C) none H') (hg:Gl (cxOf (CXN P w) P w K mg base N qual scope f cd A outer s H E) x) (hm:mg x=some (.ref C)) (hc:PySem.W.excIn K C bmV "ValueError.__new__" = true) (hd:(x == ("__debug__" : Str))=false:=by decide):PS (cxOf (CXN P w) P w K mg base N qual scope f cd A outer s H E) (.Raise (some (.Call (.Name x np) [.Constant (.str t) j tp] [] cpos)) none pos) (LSX K H (dRaise Ex C)):=by
  refine PS.impD (ps_raise hg hm hc (pa_cons pe_str pa_nil) hd) fun D σ H1 h=>?_
  obtain ⟨S,T,δ,Q,rfl,hS,hT,hA,hd,_⟩:=h
  exact ⟨(by show 1≤sizeLine; decide),hE C H1 hd (same0 hA)⟩
theorem fn_pureX {x:Str} {st:Stmt} {fd:FuncData} {ps:List Str} {k:Nat} {px:PX} {db:(Addr→Prop)→DB} (F:Fun K x qual st f fd) (S:FnScope N ps (defScope st)) (hb:∀ (cdv:Value) (A:Around) (outer:List Env) (s:Shared) (H:Hp) (E:XK) (Ex:Addr→Prop),Room k (A.deeper (envOfC qual (defScope st) s.heap.objs.size f cdv))→(∀ C H',Ex C→Same H H'→E (.ref C) none H')→PSs (cxOf (CXN P w) P w K mg base N qual (defScope st) f cdv A outer s H E) (defBody st) (LSX K H (db Ex))) (h:∀ ds R Ex,px ds R Ex→ds.length=ps.length∧db Ex (retE R) ⟨args0 ds (N.length - ps.length),0⟩):FnOk P w K mg base (CXN P w) (k+1) f fd ps (SpX K px):=by
  refine okX F S (fun vs H Q E z=>?_) fun cdv A outer s H us Q E hr z=>?_
  · obtain ⟨As,n,ds,R,Ex,eu,ok,q,hp,_⟩:=z
    have l1:=(h ds R Ex hp).1
    have l2:=datas_len q
    rw [List.length_map] at l2
    have l3:=congrArg List.length eu
    rw [List.length_map,List.length_map] at l3
    omega
  · obtain ⟨As,n,ds,R,Ex,eu,ok,q,hp,k1,kx⟩:=z
    obtain ⟨l1,hd⟩:=h ds R Ex hp
    have l2:=datas_len q
    rw [List.length_map] at l2
    have l3:=congrArg List.length eu
    rw [List.length_map,List.length_map] at l3
    refine ⟨_,hb cdv A outer s H E Ex hr kx,As.map toSh++blanks (N.length - ps.length),[],⟨args0 ds (N.length - ps.length),0⟩,retE R,?_,?_,fun _ z=>(nomatch z),?_,hd,fun δ' S' H' e1 hA p=>?_,fun x δ' v F' S' H' e1 hA p=>?_,fun _ _ _ _ _ p=>p.elim,fun _ _ _ _ _ p=>p.elim⟩
    · unfold vs L2.start blanks
      rw [List.map_append,sh_v,eu,rep_map,show us.length=ps.length by omega]
    · unfold Sl args0 blanks
      rw [List.map_append,datas_sh q,rep_map]
    · rw [List.append_nil]
      have hs:=sh_soft q (N.length - ps.length)
      refine ⟨fun e he=>?_,pair_mem fun a ha b hb'=>⟨fun hq c hc=>?_,fun hq c hc=>?_⟩,fun e he a ha=>?_,fun b o _ e=>e,fun b o e=>⟨o,e⟩,fun b hb=>hb.elim⟩
      · have:=sh_ok q ok (N.length - ps.length) e he
        obtain ⟨v,x,F⟩:=e
        cases x with
        | drw=>exact absurd (hs _ he).2 (by show ¬ (true=false); decide)
        | _=>exact this
      · rw [(hs a ha).1] at hc; cases hc
      · rw [(hs b hb').1] at hc; cases hc
      · rw [(hs e he).1] at ha; cases ha
    · exact k1 .non .none [] H' p .non List.nodup_nil (fun _ z=>(nomatch z)) fun b o e=>hA.same b o (fun z=>z) e
    · obtain ⟨d,rfl,r⟩:=p
      rw [show S'++[(⟨some v,.dat .ow d,F'⟩ : Ent)]=S'++⟨some v,.dat .ow d,F'⟩::[] from rfl] at hA
      obtain ⟨u,e2,rd,nd,_⟩:=hA.ok _ mem_mid
      cases e2
      refine k1 v d F' H' r rd (nd rfl) (fun a ha=>?_) fun b o e=>hA.same b o (fun z=>z) e
      rcases hA.new _ mem_mid a ha with z | z
      · exact z
      · exact z.1.elim
end
end DL
namespace Nd
open PySem PySem.Spec PyProof.Rows L2
end Nd
namespace DL
open PySem PySem.Spec PyProof.Rows L2 Nd
end DL
namespace DL
open PySem PySem.Spec PyProof.Rows L2 Nd
def appIB (i:Nat) (ds:List PyData) (k:Nat) (c y:PyData) (δ:DS) (D:DEnds):Prop:=match y with
  | .list es=>npk (δ.sl.set i .un)=true∧imm c=true∧es.length<1000000∧D.nx ⟨δ.sl.set i (.dat .ow (.tuple (ds.set k (.list (es++[c]))))),δ.n⟩
  | _=>False
def dAppI (i k:Nat) (c:PyData):DB:=fun D δ=>match δ.sl[i]? with
  | some (.dat .ow (.tuple ds))=>∃ y,ds[k]? = some y∧appIB i ds k c y δ D
  | _=>False
theorem datas_ow:∀ l:List PyData,datas (l.map fun d=>DV.dat .ow d)=some l
  | []=>rfl
  | d::l=>by
    rw [List.map_cons,datas,datas_ow l]
    rfl
theorem allOw_ow:∀ l:List PyData,allOw (l.map fun d=>DV.dat .ow d)=true
  | []=>rfl
  | d::l=>by
    rw [List.map_cons,allOw]
    exact allOw_ow l
section
variable {X:Cx} {o e:Expr} {apos cpos pos ip sp:Pos} {j:Nat} {i k:Nat} {c:PyData} {w:V}
theorem ds_appI (ho:PE X o (tVar i)) (he:PE X e (tC w)) (hr:∀ H,RdF X.K H w c [])
    (hbase:attributeBase (.Subscript o (.Constant (.int (k:Int)) j ip) sp) "append" X.env (eval (.Subscript o (.Constant (.int (k:Int)) j ip) sp) X.env)=eval (.Subscript o (.Constant (.int (k:Int)) j ip) sp) X.env:=by rfl)
    (hfew:((backTo cpos (starEach [e] X.env)).all (fun x=>!x.1) && (backToKw cpos (keywordEach [] X.env)).all (fun x=>x.1.isSome)
      && decide (([e]:List Expr).length+([]:List Keyword).length+(if ([]:List Keyword).isEmpty then 0 else 1)<30))=true:=by rfl)
    (hline:(apos.endLine == cpos.line)=true:=by rfl) (hs:starEach [e] X.env=(false,eval e X.env)::starEach [] X.env:=by rfl) (hplain:(backTo cpos (starEach [] X.env)).any (·.1)=false:=by rfl)
    (hsw:swapsWith (.Call (.Attribute (.Subscript o (.Constant (.int (k:Int)) j ip) sp) "append" apos) [e] [] cpos) none pos.line X.env=pure false:=by rfl) :
    PSD X (.Expr (.Call (.Attribute (.Subscript o (.Constant (.int (k:Int)) j ip) sp) "append" apos) [e] [] cpos) pos) (dAppI i k c):=by
  refine PS.impD (ps_expr (pe_bm PySem.F.plainAttrs_list PySem.F.slot_list_append PySem.F.type_list_append mt_append (pe_ix ix_tup ho pe_int (fun _ _=>rfl)) (pa_cons he pa_nil hs) hbase hfew hline hs hplain) hsw) fun D σ H h=>?_
  obtain ⟨H0,Y,S,T,δ,P,rfl,hS,hT,hA,hd,k1,k2,k3,k4⟩:=h
  unfold dAppI at hd
  split at hd
  case h_2=>exact hd.elim
  rename_i ds hsl
  obtain ⟨y,hy,hd⟩:=hd
  unfold appIB at hd
  split at hd
  case h_2=>exact hd.elim
  rename_i es
  obtain ⟨hn,hc,hz,hD⟩:=hd
  obtain ⟨ent,e2,e3⟩:=slot_of hS hsl
  have hm:ent∈S:=List.mem_of_getElem? e2
  obtain ⟨u,x,F⟩:=ent
  have e3':x=.dat .ow (.tuple ds):=e3
  subst e3'
  obtain ⟨v,hv,rd,nd,_⟩:=hA.ok _ (List.mem_append_left _ hm)
  have hv':u=some v:=hv
  subst hv'
  obtain ⟨t,xs,rfl,ht,ra,lz⟩:=rd.tup_inv
  -- the slot out of its row
  have p1:((⟨some (.ref t),.un,[]⟩ : Ent)::(S++T)).Perm (⟨some (.ref t),.dat .ow (.tuple ds),F⟩::(S.set i ⟨some (.ref t),.un,[]⟩++T)):=by
    rw [← List.cons_append]
    exact (set_perm (y:=(⟨some (.ref t),.un,[]⟩ : Ent)) e2).append_right T
  have hA1:=(hA.blank (v:=some (.ref t))).perm p1
  generalize hS':S.set i ⟨some (.ref t),.un,[]⟩=S' at hA1
  have hp:=List.pairwise_cons.mp hA1.sep
  obtain ⟨As,a1,a2,a3,a4⟩:=At.unpack (m:=.ow) (E:=S'++T) ra (fun _=>nd rfl) (fun f hf=>by
    refine ⟨fun hq b hb=>(hp.1 f hf).1 ?_ b hb,fun hq b hb=>(hp.1 f hf).2 ?_ b hb⟩
    · rcases hq with hq | hq
      · exact .inl hq
      · cases hq
    · rcases hq with hq | hq
      · exact .inl hq
      · exact .inr hq) (fun b hb=>by
    rcases hA1.new _ List.mem_cons_self b hb with z | z
    · exact z
    · cases z.2) (hA1.sub (List.sublist_cons_self _ _))
  -- the item
  have lA:As.length=ds.length:=by have:=congrArg List.length a2; simpa using this
  have hk:k<As.length:=by rw [lA]; exact (List.getElem?_eq_some_iff.mp hy).1
  have eA:As=As.take k++As[k]::As.drop (k+1):=by rw [← List.drop_eq_getElem_cons hk,List.take_append_drop]
  have kx:As[k].x=.dat .ow (.list es):=by
    have:=congrArg (·[k]?) a2
    simp only [List.getElem?_map,hy,List.getElem?_eq_getElem hk,Option.map_some] at this
    exact Option.some.inj this
  generalize hE:As[k]=E at eA kx
  obtain ⟨v1,x1,F1⟩:=E
  have kx':x1=.dat .ow (.list es):=kx
  subst kx'
  obtain ⟨v2,hv2,rd2,_⟩:=a4.ok ⟨v1,.dat .ow (.list es),F1⟩ (List.mem_append_left _ (by rw [eA]; exact mem_mid))
  have hv2':v1=some v2:=hv2
  subst hv2'
  obtain ⟨a,ys,G,rfl,ha,ry,rfl,lz2⟩:=rd2.list_inv
  have kv:xs[k]? = some (.ref a):=by
    have:=congrArg (·[k]?) a1
    simp only [List.getElem?_map,List.getElem?_eq_getElem hk,hE,Option.map_some] at this
    cases q:xs[k]? with
    | none=>rw [q] at this; cases this
    | some z =>
      rw [q] at this
      exact congrArg some (Option.some.inj (Option.some.inj this)).symm
  refine ⟨.ref t,by rw [vs_at e2],t,xs,(k:Int),.ref a,rfl,rfl,SqT.of ht,atI_nat kv,.inl ⟨rfl,ys,SqL.of ha⟩,a,ys,w,rfl,rfl,ha,Nat.lt_of_lt_of_le (by rw [ry.len]; omega) (sz2 (n:=1000000) (Nat.le_refl _)),?_⟩
  have npS:∀ f∈S',isPk f.x=false:=npk_ok (sl:=δ.sl.set i .un) (by rw [← hS',List.map_set,hS]) hn
  have q1:(As++(S'++T)).Perm (⟨some (.ref a),.dat .ow (.list es),a::G⟩::((As.take k++As.drop (k+1))++(S'++T))):=by
    conv=>lhs; rw [eA]
    rw [← List.cons_append]
    exact (List.perm_middle).append_right _
  have npA:∀ f∈As,isPk f.x=false:=fun f hf=>by
    have:=List.mem_map_of_mem (f:=Ent.x) hf
    rw [a2] at this
    obtain ⟨d,_,z⟩:=List.mem_map.mp this
    rw [← z]
    rfl
  have h1:=(a4.perm q1).write (es:=es++[c]) (ys:=ys++[w]) (G:=G++[]) rfl rfl (fun f hf=>by
    rcases List.mem_append.mp hf with hf | hf
    · rcases List.mem_append.mp hf with hf | hf
      · exact npA f (List.mem_of_mem_take hf)
      · exact npA f (List.mem_of_mem_drop hf)
    · rcases List.mem_append.mp hf with hf | hf
      · exact npS f hf
      · exact hT f hf) (ry.snoc (hr H)) (by rw [List.append_nil]; exact List.Sublist.refl _) (by rw [List.length_append]; exact sz2 (by simp; omega))
  have q2:((⟨some (.ref a),.dat .ow (.list (es++[c])),a::(G++[])⟩ : Ent)::((As.take k++As.drop (k+1))++(S'++T))).Perm ([]++((As.take k++⟨some (.ref a),.dat .ow (.list (es++[c])),a::(G++[])⟩::As.drop (k+1))++(S'++T))):=by
    rw [← List.cons_append,List.nil_append]
    exact (List.perm_middle.symm).append_right _
  have h2:=h1.perm q2
  generalize hAs:As.take k++(⟨some (.ref a),.dat .ow (.list (es++[c])),a::(G++[])⟩ : Ent)::As.drop (k+1)=As' at h2
  have b1:As'.map Ent.v=xs.map some:=by
    rw [← hAs,← a1]
    conv=>rhs; rw [eA]
    rw [List.map_append,List.map_append,List.map_cons,List.map_cons]
  have b2:As'.map Ent.x=(ds.set k (.list (es++[c]))).map fun d=>DV.dat .ow d:=by
    rw [← hAs,List.map_append,List.map_cons,List.map_take,List.map_drop,a2,← List.map_take,← List.map_drop]
    rw [List.set_eq_take_append_cons_drop,if_pos (by rw [← lA]; exact hk),List.map_append,List.map_cons]
    rfl
  have r2:=datas_rd b1 (by rw [b2]; exact datas_ow _) fun f hf=>h2.ok f (List.mem_append_right _ (List.mem_append_left _ hf))
  have ht2:(upd H a (.lst (ys++[w]))) t=some (.tup xs):=by
    rw [upd_ne (fun z=>by rw [z,ha] at ht; cases ht)]
    exact ht
  have h3:=h2.pack (N:=[]) (top:=.sh) (Same.refl _) (fun _ z=>(nomatch z)) List.nodup_nil (.inr ⟨rfl,rfl⟩) (.tup (F:=As'.flatMap Ent.F) ht2 (by rw [List.length_set]; exact lz) r2)
  rw [show pkMd .sh (As'.map Ent.x)=.ow by unfold pkMd; rw [b2,allOw_ow,if_pos rfl]] at h3
  have h4:At X.K H0 Y δ.n (S'++⟨some (.ref t),.dat .ow (.tuple (ds.set k (.list (es++[c])))),[]++As'.flatMap Ent.F⟩::T) (upd H a (.lst (ys++[w]))):=h3.tomid
  have h5:=h4.store (i:=i)
  rw [← hS',List.set_set] at h5
  have h6:=k1 ⟨δ.sl.set i (.dat .ow (.tuple (ds.set k (.list (es++[c]))))),δ.n⟩ _ _ (sl_set hS) h5 hD
  have e9:(vs S).set i (some (.ref t))=vs S:=by
    apply List.ext_getElem?
    intro j2
    rw [List.getElem?_set]
    split
    · rename_i hij
      subst hij
      rw [vs_at e2]
      split
      · rfl
      · rename_i hj
        unfold vs at hj
        rw [List.length_map] at hj
        exact absurd (List.getElem?_eq_some_iff.mp e2).1 hj
    · rfl
  rw [vs_set,e9] at h6
  exact h6
end
end DL
namespace Nd
open PySem PySem.Spec PyProof.Rows L2
end Nd
namespace Nd
open PySem PySem.Spec
end Nd
namespace Nd
open PySem PySem.Spec PyProof.Rows L2
end Nd
namespace DL
open PySem PySem.Spec PyProof.Rows L2 Nd
end DL
namespace Nd
open PySem PySem.Spec PyProof.Rows L2
end Nd
namespace DL
open PySem PySem.Spec PyProof.Rows L2 Nd
end DL
namespace Nd
open PySem PySem.Spec PyProof.Rows L2
end Nd
namespace DL
open PySem PySem.Spec PyProof.Rows L2 Nd
end DL
namespace DL
open PySem PySem.Spec PyProof.Rows L2 Nd
def ifB (t u:DB) (D:DEnds) (b:Bool) (δ:DS):Prop:=match b with
  | true=>t D δ
  | false=>u D δ
def immB (x:DV) (δ:DS) (P:DV→DS→Prop):Prop:=match x with
  | .dat _ d=>imm d=true∧P (.dat .ow d) δ
  | _=>False
def frzB (i:Nat) (s:Option DV) (δ:DS) (P:DV→DS→Prop):Prop:=match s with
  | some (.dat .pk _)=>False
  | some (.dat _ d)=>P (.dat .sh d) ⟨δ.sl.set i (.dat .sh d),δ.n⟩
  | _=>False
def tupB (xs:List DV) (δ:DS) (P:DV→DS→Prop):Prop:=match datas xs with
  | some ds=>ds.length≤1000∧P (.dat (pkMd .sh xs) (.tuple ds)) δ
  | none=>False
def lstB (xs:List DV) (δ:DS) (P:DV→DS→Prop):Prop:=match datas xs with
  | some ds=>ds.length≤1000∧P (.dat (pkMd .tp xs) (.list ds)) δ
  | none=>False
def partB (x:DV) (δ:DS) (P:Option Int→DS→Prop):Prop:=match x with
  | .dat _ (.int i)=>P (some i) δ
  | _=>False
def slB (i:Bool) (x:DV) (l h:Option Int) (δ:DS) (P:DV→DS→Prop):Prop:=match x with
  | .dat m (.list ds)=>nlist i m (cutG ds l h) fun z=>P z δ
  | .dat m (.tuple ds)=>ntup i m (cutG ds l h) fun z=>P z δ
  | _=>False
def ssB (xs:List DV) (δ:DS) (P:DV→DS→Prop):Prop:=match xs with
  | [.dat _ (.list ds)]=>∃ ns:List Int,ds=ns.map PyData.int∧(∀ x∈ns,0≤x∧x<60)∧P (.dat .ow (.list ((sset ns).map PyData.int))) δ
  | [.dat _ (.tuple ds)]=>∃ ns:List Int,ds=ns.map PyData.int∧(∀ x∈ns,0≤x∧x<60)∧P (.dat .ow (.list ((sset ns).map PyData.int))) δ
  | _=>False
def bB (x:DV) (δ:DS) (P:Bool→DS→Prop):Prop:=match x with
  | .dat _ (.bool b)=>P b δ
  | _=>False
def andB (du:DT) (b:Bool) (δ:DS) (P:Bool→DS→Prop):Prop:=match b with
  | true=>du δ P
  | false=>P false δ
def orB (du:DT) (b:Bool) (δ:DS) (P:Bool→DS→Prop):Prop:=match b with
  | true=>P true δ
  | false=>du δ P
def notB (x:DV) (δ:DS) (P:DV→DS→Prop):Prop:=match x with
  | .dat _ (.bool b)=>P (.dat .ow (.bool (!b))) δ
  | _=>False
def andV (db:DE) (x:DV) (δ:DS) (P:DV→DS→Prop):Prop:=match x with
  | .dat _ (.bool true)=>db δ P
  | .dat _ (.bool false)=>P (.dat .ow (.bool false)) δ
  | _=>False
def negB (x:DV) (δ:DS) (P:DV→DS→Prop):Prop:=match x with
  | .dat _ (.int i)=>P (.dat .ow (.int (-i))) δ
  | _=>False
def lB (x:DV) (δ:DS) (P:Md→List PyData→DS→Prop):Prop:=match x with
  | .dat m (.list ds)=>P (mdIt m) ds δ
  | _=>False
def tpB (x:DV) (δ:DS) (P:Md→List PyData→DS→Prop):Prop:=match x with
  | .dat m (.tuple ds)=>P (mdIt m) ds δ
  | _=>False
def rng1B (xs:List DV) (δ:DS) (P:Md→List PyData→DS→Prop):Prop:=match xs with
  | [.dat _ (.int j)]=>-1000000≤j∧j≤1000000∧P .sh ((List.range j.toNat).map fun i:Nat=>.int i) δ
  | _=>False
def enumB (xs:List DV) (δ:DS) (P:Md→List PyData→DS→Prop):Prop:=match xs with
  | [.dat m (.list ds)]=>P (mdIt m) (ds.zipIdx.map fun p=>.tuple [.int p.2,p.1]) δ
  | _=>False
def zipB (xs:List DV) (δ:DS) (P:Md→List PyData→DS→Prop):Prop:=match xs with
  | [.dat m (.list ds),.dat m' (.list es)]=>P (mdZip m m') ((ds.zip es).map fun p=>.tuple [p.1,p.2]) δ
  | _=>False
def forB (dg:DG) (db:DB) (D:DEnds) (m:Md) (ds:List PyData) (δ1:DS):Prop:=m=.sh∧∃ I:Nat→DS→Prop,I 0 δ1 ∧
  (∀ i d δ',ds[i]? = some d→I i δ'→dg (.dat .sh d) δ' fun δ2=>db { D with nx:=I (i+1),ct:=I (i+1),bk:=D.nx } δ2)∧∀ δ',I ds.length δ'→D.nx δ'
def compB (js:List Nat) (dc:DT) (de:DE) (P:DV→DS→Prop) (m:Md) (ds:List PyData) (δ1:DS):Prop:=∃ I:Nat→List PyData→Nat→Prop,I 0 [] δ1.n ∧
  (∀ i d acc n,ds[i]? = some d→I i acc n→compStep dc de ⟨.dat m d::frD δ1.sl js,n⟩ (fun e n'=>I (i+1) (acc++[e]) n') (fun n'=>I (i+1) acc n')) ∧
  ∀ acc n,I ds.length acc n→P (.dat .ow (.list acc)) ⟨δ1.sl,n⟩
def compB2 (js:List Nat) (dc:DT) (de:DE) (P:DV→DS→Prop) (m:Md) (ds:List PyData) (δ1:DS):Prop:=∃ I:Nat→List PyData→Nat→Prop,I 0 [] δ1.n ∧
  (∀ i d acc n,ds[i]? = some d→I i acc n→∃ d1 d2,d=.tuple [d1,d2]∧compStep dc de ⟨.dat m d1::.dat m d2::frD δ1.sl js,n⟩ (fun e n'=>I (i+1) (acc++[e]) n') (fun n'=>I (i+1) acc n')) ∧
  ∀ acc n,I ds.length acc n→P (.dat .ow (.list acc)) ⟨δ1.sl,n⟩
def yesB (yes:PyData→Nat→Prop) (y:DV) (δ:DS):Prop:=match y with
  | .dat _ e=>imm e=true∧yes e δ.n
  | _=>False
def stepB (de:DE) (yes:PyData→Nat→Prop) (no:Nat→Prop) (b:Bool) (δ:DS):Prop:=match b with
  | true=>de δ fun y δ3=>yesB yes y δ3
  | false=>no δ.n
def giveB (i:Nat) (x:Option DV) (δ:DS) (P:DV→DS→Prop):Prop:=match x with
  | some (.dat .ow d)=>P (.dat .ow d) ⟨δ.sl.set i (.dat .pk d),δ.n⟩
  | _=>False
def callB (pf:PF) (xs:List DV) (δ:DS) (P:DV→DS→Prop):Prop:=match datas xs with
  | some ds=>pf ds fun d=>P (.dat .ow d) δ
  | none=>False
def callBW (i:Nat) (df:DF) (xs:List DV) (δ:DS) (P:DV→DS→Prop):Prop:=match δ.sl[i]? with
  | some .drw=>match datas xs with
    | some ds=>df ds δ.n fun d n'=>P (.dat .ow d) ⟨δ.sl,n'⟩
    | none=>False
  | _=>False
def drawsB (xs:List DV) (δ:DS) (P:DV→DS→Prop):Prop:=match xs with
  | [.dat _ (.int _)]=>P .drw δ
  | _=>False
def revLB (x:DV) (δ:DS) (P:DV→DS→Prop):Prop:=match x with
  | .dat _ (.list ds)=>immAll ds=true∧P (.dat .ow (.list ds.reverse)) δ
  | _=>False
def appB (i:Nat) (y:DV) (δ:DS) (D:DEnds):Prop:=match δ.sl[i]?,y with
  | some (.dat m (.list ds)),.dat _ e=>own1 m=true∧npk δ.sl=true∧imm e=true∧ds.length<1000000∧D.nx ⟨δ.sl.set i (.dat m (.list (ds++[e]))),δ.n⟩
  | _,_=>False
def augB (i:Nat) (z:DV) (δ:DS) (D:DEnds):Prop:=match z with
  | .dat _ d=>imm d=true∧D.nx ⟨δ.sl.set i (.dat .sh d),δ.n⟩
  | _=>False
def callXB (px:PX) (Ex:Addr→Prop) (xs:List DV) (δ:DS) (P:DV→DS→Prop):Prop:=match datas xs with
  | some ds=>px ds (fun d=>P (.dat .ow d) δ) Ex
  | none=>False
def compBDL (js1:List Nat) (j0:Nat) (js2:List Nat) (dc:DT) (de:DE) (P:DV→DS→Prop) (m:Md) (ds:List PyData) (δ1:DS):Prop:=δ1.sl[j0]? = some .drw∧∃ I:Nat→List PyData→Nat→Prop,I 0 [] δ1.n ∧
  (∀ i d acc n,ds[i]? = some d→I i acc n→compStepDL (js1.length+1) dc de ⟨.dat m d::(frD (δ1.sl.set j0 .un) js1++.drw::frD (δ1.sl.set j0 .un) js2),n⟩ (fun e n'=>I (i+1) (acc++[e]) n') (fun n'=>I (i+1) acc n')) ∧
  ∀ acc n,I ds.length acc n→P (.dat .tp (.list acc)) ⟨δ1.sl,n⟩
def yesBDL (p:Nat) (yes:PyData→Nat→Prop) (y:DV) (δ:DS):Prop:=match y with
  | .dat m e=>m≠.pk∧δ.sl[p]? = some .drw∧yes e δ.n
  | _=>False
def stepBDL (p:Nat) (de:DE) (yes:PyData→Nat→Prop) (no:Nat→Prop) (b:Bool) (δ:DS):Prop:=match b with
  | true=>de δ fun y δ3=>yesBDL p yes y δ3
  | false=>δ.sl[p]? = some .drw∧no δ.n
theorem e_seq {t u:DB} {D:DEnds} {δ:DS}:dSeq t u D δ=(t { D with nx:=fun δ'=>u D δ' } δ):=rfl
theorem e_skip {D:DEnds} {δ:DS}:dSkip D δ=(D.nx δ):=rfl
theorem e_ret {de:DE} {D:DEnds} {δ:DS}:dRet de D δ=(de δ D.rt):=rfl
theorem e_if {dt:DT} {t u:DB} {D:DEnds} {δ:DS}:dIf dt t u D δ=(dt δ (ifB t u D)):=rfl
theorem e_asg {de:DE} {dg:DG} {D:DEnds} {δ:DS}:dAsg de dg D δ=(de δ fun x δ'=>dg x δ' D.nx):=rfl
theorem e_name {i:Nat} {m:Md} {d:PyData} {δ:DS} {Q:DS→Prop}:dgName i (.dat .ow d) δ Q=(Q ⟨δ.sl.set i (.dat .sh d),δ.n⟩):=rfl
theorem e_name2 {i:Nat} {m:Md} {d:PyData} {δ:DS} {Q:DS→Prop}:dgName i (.dat .sh d) δ Q=(Q ⟨δ.sl.set i (.dat .sh d),δ.n⟩):=rfl
theorem e_name3 {i:Nat} {m:Md} {d:PyData} {δ:DS} {Q:DS→Prop}:dgName i (.dat .tp d) δ Q=(Q ⟨δ.sl.set i (.dat .sh d),δ.n⟩):=rfl
theorem e_name4 {i:Nat} {δ:DS} {Q:DS→Prop}:dgName i .drw δ Q=(Q ⟨δ.sl.set i .drw,δ.n⟩):=rfl
theorem e_own {i:Nat} {d:PyData} {δ:DS} {Q:DS→Prop}:dgOwn i (.dat .ow d) δ Q=(Q ⟨δ.sl.set i (.dat .ow d),δ.n⟩):=rfl
theorem e_nT {i:Nat} {x:DV} {δ:DS} {Q:DS→Prop}:dgN true i x δ Q=(dgOwn i x δ Q):=rfl
theorem e_nF {i:Nat} {x:DV} {δ:DS} {Q:DS→Prop}:dgN false i x δ Q=(dgName i x δ Q):=rfl
theorem e_gtup {n:Nat} {gs:DGs} {m:Md} {ds:List PyData} {δ:DS} {Q:DS→Prop}:dgTup n gs (.dat m (.tuple ds)) δ Q=(ds.length=n∧gs (ds.map fun d=>.dat (mdIn m) d) δ Q):=rfl
theorem e_gsn {δ:DS} {Q:DS→Prop}:dgsNil [] δ Q=(Q δ):=rfl
theorem e_gsc {g:DG} {gs:DGs} {x:DV} {r:List DV} {δ:DS} {Q:DS→Prop}:dgsCons g gs (x::r) δ Q=(g x δ fun δ'=>gs r δ' Q):=rfl
theorem e_op {rd:D2} {da db:DE} {δ:DS} {P:DV→DS→Prop}:dOp rd da db δ P=(da δ fun x δ1=>db δ1 fun y δ2=>rd x y fun z=>P z δ2):=rfl
theorem e_var {i:Nat} {δ:DS} {P:DV→DS→Prop}:dVar i δ P=(match δ.sl[i]? with | some (.dat m d)=>P (.dat (pkOf m) d) δ | _=>False):=rfl
theorem e_c {d:PyData} {δ:DS} {P:DV→DS→Prop}:dC d δ P=(P (.dat .ow d) δ):=rfl
theorem e_imm {de:DE} {δ:DS} {P:DV→DS→Prop}:dImm de δ P=(de δ fun x δ'=>immB x δ' P):=rfl
theorem e_immB {m:Md} {d:PyData} {δ:DS} {P:DV→DS→Prop}:immB (.dat m d) δ P=(imm d=true∧P (.dat .ow d) δ):=rfl
theorem e_take {i:Nat} {δ:DS} {P:DV→DS→Prop}:dTake i δ P=(match δ.sl[i]? with | some (.dat m d)=>P (.dat m d) ⟨δ.sl.set i .un,δ.n⟩ | _=>False):=rfl
theorem e_I {C:Int→Int→Prop} {g:Int→Int→PyData} {i j:Int} {m m':Md} {P:DV→Prop}:rdI C g (.dat m (.int i)) (.dat m' (.int j)) P=(C i j∧P (.dat .ow (g i j))):=rfl
theorem e_I0 {g:Int→Int→PyData} {i j:Int} {m m':Md} {P:DV→Prop}:rdI0 g (.dat m (.int i)) (.dat m' (.int j)) P=(P (.dat .ow (g i j))):=rfl
theorem e_eqF {d e:PyData} {m m':Md} {P:DV→Prop}:rdEq false (.dat m d) (.dat m' e) P=(d.depth≤60∧e.depth≤60∧P (.dat .ow (.bool (eqD d e)))):=rfl
theorem e_eqT {d e:PyData} {m m':Md} {P:DV→Prop}:rdEq true (.dat m d) (.dat m' e) P=(d.depth≤60∧e.depth≤60∧P (.dat .ow (.bool (!eqD d e)))):=rfl
theorem e_inFl {d:PyData} {es:List PyData} {m m':Md} {P:DV→Prop}:rdIn false (.dat m d) (.dat m' (.list es)) P=(PyData.depthAll es≤60∧d.depth≤60∧P (.dat .ow (.bool (es.any fun e=>eqD e d)))):=rfl
theorem e_inTl {d:PyData} {es:List PyData} {m m':Md} {P:DV→Prop}:rdIn true (.dat m d) (.dat m' (.list es)) P=(PyData.depthAll es≤60∧d.depth≤60∧P (.dat .ow (.bool (!(es.any fun e=>eqD e d))))):=rfl
theorem e_inFt_w1 {nes:List Int} {d:PyData} {es:List PyData} {m m':Md} {P:DV→Prop}:rdIn false (.dat m d) (.dat m' (wordD nes)) P=(PyData.depthAll (nes.map PyData.int)≤60∧d.depth≤60∧P (.dat .ow (.bool ((nes.map PyData.int).any fun e=>eqD e d)))):=rfl
theorem e_inTt_w1 {nes:List Int} {d:PyData} {es:List PyData} {m m':Md} {P:DV→Prop}:rdIn true (.dat m d) (.dat m' (wordD nes)) P=(PyData.depthAll (nes.map PyData.int)≤60∧d.depth≤60∧P (.dat .ow (.bool (!((nes.map PyData.int).any fun e=>eqD e d))))):=rfl
theorem e_ixl {ds:List PyData} {i:Int} {m m':Md} {P:DV→Prop}:rdIx (.dat m (.list ds)) (.dat m' (.int i)) P=(∃ d,atI ds i=some d∧P (.dat (mdIn m) d)):=rfl
theorem e_ixt {ds:List PyData} {i:Int} {m m':Md} {P:DV→Prop}:rdIx (.dat m (.tuple ds)) (.dat m' (.int i)) P=(∃ d,atI ds i=some d∧P (.dat (mdIn m) d)):=rfl
theorem e_cat {ds es:List PyData} {m m':Md} {P:DV→Prop}:rdCat (.dat m (.list ds)) (.dat m' (.list es)) P=(immAll ds=true∧immAll es=true∧ds.length+es.length≤1000000∧P (.dat .ow (.list (ds++es)))):=rfl
theorem e_nlT {m:Md} {ds:List PyData} {P:DV→Prop}:nlist true m ds P=(immAll ds=true∧P (.dat .ow (.list ds))):=rfl
theorem e_nlF {m:Md} {ds:List PyData} {P:DV→Prop}:nlist false m ds P=(P (.dat (mdNew m) (.list ds))):=rfl
theorem e_ntT {m:Md} {ds:List PyData} {P:DV→Prop}:ntup true m ds P=(immAll ds=true∧P (.dat .ow (.tuple ds))):=rfl
theorem e_pkOfsh  : pkOf .sh=(Md.sh):=rfl
theorem e_pkOfow  : pkOf .ow=(Md.pk):=rfl
theorem e_mdInpk  : mdIn .pk=(Md.pk):=rfl
theorem e_mdInsh  : mdIn .sh=(Md.sh):=rfl
theorem e_mdInow  : mdIn .ow=(Md.ow):=rfl
theorem e_mdNewow  : mdNew .ow=(Md.ow):=rfl
theorem e_mdItsh  : mdIt .sh=(Md.sh):=rfl
theorem e_mdItow  : mdIt .ow=(Md.sh):=rfl
theorem e_nil {δ:DS} {P:List DV→DS→Prop}:dNil δ P=(P [] δ):=rfl
theorem e_cons {de:DE} {da:DA} {δ:DS} {P:List DV→DS→Prop}:dCons de da δ P=(de δ fun x δ1=>da δ1 fun xs δ2=>P (x::xs) δ2):=rfl
theorem e_tup {da:DA} {δ:DS} {P:DV→DS→Prop}:dTup da δ P=(da δ fun xs δ'=>tupB xs δ' P):=rfl
theorem e_lst {da:DA} {δ:DS} {P:DV→DS→Prop}:dLst da δ P=(da δ fun xs δ'=>lstB xs δ' P):=rfl
theorem e_noPart {δ:DS} {P:Option Int→DS→Prop}:dNoPart δ P=(P none δ):=rfl
theorem e_part {de:DE} {δ:DS} {P:Option Int→DS→Prop}:dPart de δ P=(de δ fun x δ'=>partB x δ' P):=rfl
theorem e_partB {m:Md} {i:Int} {δ:DS} {P:Option Int→DS→Prop}:partB (.dat m (.int i)) δ P=(P (some i) δ):=rfl
theorem e_sl {i:Bool} {de:DE} {dl dh:DO} {δ:DS} {P:DV→DS→Prop}:dSl i de dl dh δ P=(de δ fun x δ1=>dl δ1 fun l δ2=>dh δ2 fun h δ3=>slB i x l h δ3 P):=rfl
theorem e_slBl {i:Bool} {m:Md} {ds:List PyData} {l h:Option Int} {δ:DS} {P:DV→DS→Prop}:slB i (.dat m (.list ds)) l h δ P=(nlist i m (cutG ds l h) fun z=>P z δ):=rfl
theorem e_cb {rd:DC} {da:DA} {δ:DS} {P:DV→DS→Prop}:dCB rd da δ P=(da δ fun xs δ1=>rd xs fun z=>P z δ1):=rfl
theorem e_lenl {ds:List PyData} {m m':Md} {P:DV→Prop}:rdLen [.dat m (.list ds)] P=(P (.dat .ow (.int ds.length))):=rfl
theorem e_tuplel {i:Bool} {ds:List PyData} {m m':Md} {P:DV→Prop}:rdTuple i [.dat m (.list ds)] P=(ntup i m ds P):=rfl
theorem e_intb {i:Bool} {m m':Md} {P:DV→Prop}:rdInt [.dat m (.bool i)] P=(P (.dat .ow (.int (if i=true then 1 else 0)))):=rfl
theorem e_min2 {i j:Int} {m m':Md} {P:DV→Prop}:rdMin2 [.dat m (.int i),.dat m' (.int j)] P=(P (.dat .ow (.int (if j<i then j else i)))):=rfl
theorem e_all {ds:List PyData} {m m':Md} {P:DV→Prop}:rdAll [.dat m (.list ds)] P=(∃ bs:List Bool,ds=bs.map PyData.bool∧P (.dat .ow (.bool (bs.all id)))):=rfl
theorem e_isi {d:PyData} {n:String} {m m':Md} {P:DV→Prop}:rdIsi [.dat m d,.val (.ty n)] P=((n = "int" ∨ n = "bool" ∨ n = "str" ∨ n = "list" ∨ n = "tuple")∧P (.dat .ow (.bool (isiD d n)))):=rfl
theorem e_str {d:PyData} {m m':Md} {P:DV→Prop}:rdStr [.dat m d] P=((∃ b,b≤400∧Fits b d∧(b+12) * nodes d≤sizeLine)∧d.depth≤90∧P (.dat .ow (.str (textOf d)))):=rfl
theorem e_v {v:V} {δ:DS} {P:DV→DS→Prop}:dV v δ P=(P (.val v) δ):=rfl
theorem e_ss {da:DA} {δ:DS} {P:DV→DS→Prop}:dSS da δ P=(da δ fun xs δ1=>ssB xs δ1 P):=rfl
theorem e_ssl {m:Md} {ds:List PyData} {δ:DS} {P:DV→DS→Prop}:ssB [.dat m (.list ds)] δ P=(∃ ns:List Int,ds=ns.map PyData.int∧(∀ x∈ns,0≤x∧x<60)∧P (.dat .ow (.list ((sset ns).map PyData.int))) δ):=rfl
theorem e_b {de:DE} {δ:DS} {P:Bool→DS→Prop}:dB de δ P=(de δ fun x δ'=>bB x δ' P):=rfl
theorem e_bB {m:Md} {b:Bool} {δ:DS} {P:Bool→DS→Prop}:bB (.dat m (.bool b)) δ P=(P b δ):=rfl
theorem e_notT {dt:DT} {δ:DS} {P:Bool→DS→Prop}:dNotT dt δ P=(dt δ fun b δ'=>P (!b) δ'):=rfl
theorem e_andT {dt du:DT} {δ:DS} {P:Bool→DS→Prop}:dAndT dt du δ P=(dt δ fun b δ'=>andB du b δ' P):=rfl
theorem e_orT {dt du:DT} {δ:DS} {P:Bool→DS→Prop}:dOrT dt du δ P=(dt δ fun b δ'=>orB du b δ' P):=rfl
theorem e_orTt {du:DT} {δ:DS} {P:Bool→DS→Prop}:orB du true δ P=(P true δ):=rfl
theorem e_orTf {du:DT} {δ:DS} {P:Bool→DS→Prop}:orB du false δ P=(du δ P):=rfl
theorem e_not {de:DE} {δ:DS} {P:DV→DS→Prop}:dNot de δ P=(de δ fun x δ'=>notB x δ' P):=rfl
theorem e_notB {m:Md} {b:Bool} {δ:DS} {P:DV→DS→Prop}:notB (.dat m (.bool b)) δ P=(P (.dat .ow (.bool (!b))) δ):=rfl
theorem e_and {da db:DE} {δ:DS} {P:DV→DS→Prop}:dAnd da db δ P=(da δ fun x δ'=>andV db x δ' P):=rfl
theorem e_andt {db:DE} {m:Md} {δ:DS} {P:DV→DS→Prop}:andV db (.dat m (.bool true)) δ P=(db δ P):=rfl
theorem e_neg {de:DE} {δ:DS} {P:DV→DS→Prop}:dNeg de δ P=(de δ fun x δ'=>negB x δ' P):=rfl
theorem e_negB {m:Md} {i:Int} {δ:DS} {P:DV→DS→Prop}:negB (.dat m (.int i)) δ P=(P (.dat .ow (.int (-i))) δ):=rfl
theorem e_dL {de:DE} {δ:DS} {P:Md→List PyData→DS→Prop}:dL de δ P=(de δ fun x δ'=>lB x δ' P):=rfl
theorem e_dTp {de:DE} {δ:DS} {P:Md→List PyData→DS→Prop}:dTp de δ P=(de δ fun x δ'=>tpB x δ' P):=rfl
theorem e_lB {m:Md} {ds:List PyData} {δ:DS} {P:Md→List PyData→DS→Prop}:lB (.dat m (.list ds)) δ P=(P (mdIt m) ds δ):=rfl
theorem e_tpB_w1 {nds:List Int} {m:Md} {ds:List PyData} {δ:DS} {P:Md→List PyData→DS→Prop}:tpB (.dat m (wordD nds)) δ P=(P (mdIt m) (nds.map PyData.int) δ):=rfl
theorem e_range1 {da:DA} {δ:DS} {P:Md→List PyData→DS→Prop}:diRange1 da δ P=(da δ fun xs δ'=>rng1B xs δ' P):=rfl
theorem e_rng1B {m:Md} {j:Int} {δ:DS} {P:Md→List PyData→DS→Prop}:rng1B [.dat m (.int j)] δ P=(-1000000≤j∧j≤1000000∧P .sh ((List.range j.toNat).map fun i:Nat=>.int i) δ):=rfl
theorem e_enum {da:DA} {δ:DS} {P:Md→List PyData→DS→Prop}:diEnum da δ P=(da δ fun xs δ'=>enumB xs δ' P):=rfl
theorem e_enumB {m:Md} {ds:List PyData} {δ:DS} {P:Md→List PyData→DS→Prop}:enumB [.dat m (.list ds)] δ P=(P (mdIt m) (ds.zipIdx.map fun p=>.tuple [.int p.2,p.1]) δ):=rfl
theorem e_zip {da:DA} {δ:DS} {P:Md→List PyData→DS→Prop}:diZip da δ P=(da δ fun xs δ'=>zipB xs δ' P):=rfl
theorem e_zipB {m m':Md} {ds es:List PyData} {δ:DS} {P:Md→List PyData→DS→Prop}:zipB [.dat m (.list ds),.dat m' (.list es)] δ P=(P (mdZip m m') ((ds.zip es).map fun p=>.tuple [p.1,p.2]) δ):=rfl
theorem e_for {di:DI} {dg:DG} {db:DB} {D:DEnds} {δ:DS}:dFor di dg db D δ=(di δ (forB dg db D)):=rfl
theorem e_comp {di:DI} {js:List Nat} {dc:DT} {de:DE} {δ:DS} {P:DV→DS→Prop}:dComp di js dc de δ P=(di δ (compB js dc de P)):=rfl
theorem e_comp2 {di:DI} {js:List Nat} {dc:DT} {de:DE} {δ:DS} {P:DV→DS→Prop}:dComp2 di js dc de δ P=(di δ (compB2 js dc de P)):=rfl
theorem e_noTest {δ:DS} {P:Bool→DS→Prop}:dNoTest δ P=(P true δ):=rfl
theorem e_step {dc:DT} {de:DE} {δ:DS} {yes:PyData→Nat→Prop} {no:Nat→Prop}:compStep dc de δ yes no=(dc δ fun b δ2=>stepB de yes no b δ2):=rfl
theorem e_stepT {de:DE} {δ:DS} {yes:PyData→Nat→Prop} {no:Nat→Prop}:stepB de yes no true δ=(de δ fun y δ3=>yesB yes y δ3):=rfl
theorem e_yesB {m:Md} {e:PyData} {δ:DS} {yes:PyData→Nat→Prop}:yesB yes (.dat m e) δ=(imm e=true∧yes e δ.n):=rfl
theorem e_call {pf:PF} {da:DA} {δ:DS} {P:DV→DS→Prop}:dCall pf da δ P=(da δ fun xs δ1=>callB pf xs δ1 P):=rfl
theorem e_callW {i:Nat} {df:DF} {da:DA} {δ:DS} {P:DV→DS→Prop}:dCallW i df da δ P=(match δ.sl[i]? with | some .drw=>da δ fun xs δ1=>callBW i df xs δ1 P | _=>False):=rfl
theorem e_draws {da:DA} {δ:DS} {P:DV→DS→Prop}:dDraws da δ P=(da δ fun xs δ1=>drawsB xs δ1 P):=rfl
theorem e_drawsB {m:Md} {i:Int} {δ:DS} {P:DV→DS→Prop}:drawsB [.dat m (.int i)] δ P=(P .drw δ):=rfl
theorem e_append {i:Nat} {de:DE} {D:DEnds} {δ:DS}:dAppend i de D δ=(match δ.sl[i]? with | some (.dat _ (.list _))=>de δ fun y δ1=>appB i y δ1 D | _=>False):=rfl
theorem e_revL {de:DE} {δ:DS} {P:DV→DS→Prop}:dRevL de δ P=(de δ fun x δ1=>revLB x δ1 P):=rfl
theorem e_appendO {i:Nat} {de:DE} {D:DEnds} {δ:DS}:dAppendO i de D δ=(match δ.sl[i]? with | some (.dat _ (.list _))=>de δ fun y δ1=>appOB i y δ1 D | _=>False):=rfl
theorem e_stepK {i:Bool} {de dk:DE} {δ:DS} {P:DV→DS→Prop}:dStepK i de dk δ P=(de δ fun x δ1=>dk δ1 fun z δ2=>stepKB i x z δ2 P):=rfl
theorem e_stepKB {i:Bool} {m m':Md} {ds:List PyData} {k:Int} {δ:DS} {P:DV→DS→Prop}:stepKB i (.dat m (.list ds)) (.dat m' (.int k)) δ P=((k=1∨k = -1)∧nlist i m (if k=1 then ds else ds.reverse) fun z=>P z δ):=rfl
theorem e_aug {i:Nat} {rd:D2} {de:DE} {D:DEnds} {δ:DS}:dAug i rd de D δ=(match δ.sl[i]? with | some (.dat _ (.int a))=>de δ fun y δ1=>rd (.dat .ow (.int a)) y fun z=>augB i z δ1 D | _=>False):=rfl
theorem e_augB {i:Nat} {m:Md} {d:PyData} {D:DEnds} {δ:DS}:augB i (.dat m d) δ D=(imm d=true∧D.nx ⟨δ.sl.set i (.dat .sh d),δ.n⟩):=rfl
theorem e_scrSl {i:Nat} {dl dh:DO} {δ:DS} {P:DV→DS→Prop}:dScrSl i dl dh δ P=(match δ.sl[i]? with | some (.scr ns)=>dl δ fun l δ2=>dh δ2 fun h δ3=>P (.dat .ow (.list ((cutG ns l h).map PyData.int))) δ3 | _=>False):=rfl
theorem e_appI {i k:Nat} {c:PyData} {D:DEnds} {δ:DS}:dAppI i k c D δ=(match δ.sl[i]? with | some (.dat .ow (.tuple ds))=>∃ y,ds[k]? = some y∧appIB i ds k c y δ D | _=>False):=rfl
theorem e_appIB {i k:Nat} {ds es:List PyData} {c:PyData} {D:DEnds} {δ:DS}:appIB i ds k c (.list es) δ D=(npk (δ.sl.set i .un)=true∧imm c=true∧es.length<1000000∧D.nx ⟨δ.sl.set i (.dat .ow (.tuple (ds.set k (.list (es++[c]))))),δ.n⟩):=rfl
theorem e_callX {px:PX} {Ex:Addr→Prop} {da:DA} {δ:DS} {P:DV→DS→Prop}:dCallX px Ex da δ P=(da δ fun xs δ1=>callXB px Ex xs δ1 P):=rfl
theorem e_raise {Ex:Addr→Prop} {C:Addr} {D:DEnds} {δ:DS}:dRaise Ex C D δ=(Ex C):=rfl
theorem e_compDL {di:DI} {js1 js2:List Nat} {j0:Nat} {dc:DT} {de:DE} {δ:DS} {P:DV→DS→Prop}:dCompDL di js1 j0 js2 dc de δ P=(di δ (compBDL js1 j0 js2 dc de P)):=rfl
theorem e_stepDL {p:Nat} {dc:DT} {de:DE} {δ:DS} {yes:PyData→Nat→Prop} {no:Nat→Prop}:compStepDL p dc de δ yes no=(dc δ fun b δ2=>stepBDL p de yes no b δ2):=rfl
theorem e_stepDLT {p:Nat} {de:DE} {δ:DS} {yes:PyData→Nat→Prop} {no:Nat→Prop}:stepBDL p de yes no true δ=(de δ fun y δ3=>yesBDL p yes y δ3):=rfl
theorem e_yesBDL {p:Nat} {e:PyData} {δ:DS} {yes:PyData→Nat→Prop}:yesBDL p yes (.dat .ow e) δ=(Md.ow≠.pk∧δ.sl[p]? = some .drw∧yes e δ.n):=rfl
section
variable {t u:DB} {D:DEnds} {δ δ1:DS}
theorem forI {α:Type} {dg:DG} {db:DB} {ds:List PyData} {l:List α} {g:α→PyData} (e:ds=l.map g) (I:Nat→DS→Prop) (h0:I 0 δ1) (hs:∀ i a δ',l[i]? = some a→I i δ'→dg (.dat .sh (g a)) δ' fun δ2=>db { D with nx:=I (i+1),ct:=I (i+1),bk:=D.nx } δ2) (hf:∀ δ',I l.length δ'→D.nx δ'):forB dg db D .sh ds δ1:=by
  subst e
  refine ⟨rfl,I,h0,fun i d δ' hd hI=>?_,fun δ' h=>hf δ' (by rw [List.length_map] at h; exact h)⟩
  rw [List.getElem?_map] at hd
  cases q:l[i]? with
  | none=>rw [q] at hd; cases hd
  | some a=>rw [q] at hd; cases hd; exact hs i a δ' q hI
end
section
variable {js:List Nat} {dc:DT} {de:DE} {P:DV→DS→Prop} {m:Md} {ds:List PyData} {δ1:DS} {α:Type}
theorem compI {l:List α} {g:α→PyData} (e:ds=l.map g) (p:α→Bool) (f:α→PyData) (h:∀ a∈l,∀ (yes:PyData→Nat→Prop) (no:Nat→Prop),(p a=true→yes (f a) δ1.n)→(p a=false→no δ1.n)→compStep dc de ⟨.dat m (g a)::frD δ1.sl js,δ1.n⟩ yes no) (q:P (.dat .ow (.list ((l.filter p).map f))) δ1):compB js dc de P m ds δ1:=by
  subst e
  refine ⟨fun i acc n=>n=δ1.n∧acc=((l.take i).filter p).map f,⟨rfl,by simp⟩,fun i d acc n hd ⟨hn,ha⟩=>?_,fun acc n ⟨hn,ha⟩=>?_⟩
  · subst hn ha
    rw [List.getElem?_map] at hd
    cases q:l[i]? with
    | none=>rw [q] at hd; cases hd
    | some a =>
      rw [q] at hd
      cases hd
      refine h a (List.mem_of_getElem? q) _ _ (fun hp=>⟨rfl,?_⟩) (fun hp=>⟨rfl,?_⟩)
      · rw [take_more q,List.filter_append,List.map_append]; simp [hp]
      · rw [take_more q,List.filter_append,List.map_append]; simp [hp]
  · subst hn ha
    rw [List.length_map,List.take_length]
    exact q
theorem compM {l:List α} {g:α→PyData} (e:ds=l.map g) (f:α→PyData) (h:∀ a∈l,∀ (yes:PyData→Nat→Prop) (no:Nat→Prop),yes (f a) δ1.n→compStep dc de ⟨.dat m (g a)::frD δ1.sl js,δ1.n⟩ yes no) (q:P (.dat .ow (.list (l.map f))) δ1):compB js dc de P m ds δ1:=by
  refine compI e (fun _=>true) f (fun a ha yes no hy _=>h a ha yes no (hy rfl)) ?_
  rw [List.filter_eq_self.mpr fun _ _=>rfl]
  exact q
theorem compI2 {l:List α} {g1 g2:α→PyData} (e:ds=l.map fun a=>.tuple [g1 a,g2 a]) (p:α→Bool) (f:α→PyData) (h:∀ a∈l,∀ (yes:PyData→Nat→Prop) (no:Nat→Prop),(p a=true→yes (f a) δ1.n)→(p a=false→no δ1.n)→compStep dc de ⟨.dat m (g1 a)::.dat m (g2 a)::frD δ1.sl js,δ1.n⟩ yes no) (q:P (.dat .ow (.list ((l.filter p).map f))) δ1):compB2 js dc de P m ds δ1:=by
  subst e
  refine ⟨fun i acc n=>n=δ1.n∧acc=((l.take i).filter p).map f,⟨rfl,by simp⟩,fun i d acc n hd ⟨hn,ha⟩=>?_,fun acc n ⟨hn,ha⟩=>?_⟩
  · subst hn ha
    rw [List.getElem?_map] at hd
    cases q:l[i]? with
    | none=>rw [q] at hd; cases hd
    | some a =>
      rw [q] at hd
      cases hd
      refine ⟨_,_,rfl,h a (List.mem_of_getElem? q) _ _ (fun hp=>⟨rfl,?_⟩) (fun hp=>⟨rfl,?_⟩)⟩
      · rw [take_more q,List.filter_append,List.map_append]; simp [hp]
      · rw [take_more q,List.filter_append,List.map_append]; simp [hp]
  · subst hn ha
    rw [List.length_map,List.take_length]
    exact q
theorem compBy {l:List α} {g:α→PyData} (e:ds=l.map g) (I:Nat→List PyData→Nat→Prop) (h0:I 0 [] δ1.n) (h:∀ i a acc n,l[i]? = some a→I i acc n→compStep dc de ⟨.dat m (g a)::frD δ1.sl js,n⟩ (fun e n'=>I (i+1) (acc++[e]) n') (fun n'=>I (i+1) acc n')) (q:∀ acc n,I l.length acc n→P (.dat .ow (.list acc)) ⟨δ1.sl,n⟩):compB js dc de P m ds δ1:=by
  subst e
  refine ⟨I,h0,fun i d acc n hd hI=>?_,fun acc n hI=>q acc n (by rw [List.length_map] at hI; exact hI)⟩
  rw [List.getElem?_map] at hd
  cases q:l[i]? with
  | none=>rw [q] at hd; cases hd
  | some a=>rw [q] at hd; cases hd; exact h i a acc n q hI
end
theorem ifB_2 {t u:DB} {D:DEnds} {b:Bool} {δ:DS} (h1:b=true→t D δ) (h2:b=false→u D δ):ifB t u D b δ:=by
  cases b with
  | true=>exact h1 rfl
  | false=>exact h2 rfl
theorem andB_2 {du:DT} {b:Bool} {δ:DS} {P:Bool→DS→Prop} (h1:b=true→du δ P) (h2:b=false→P false δ):andB du b δ P:=by
  cases b with
  | true=>exact h1 rfl
  | false=>exact h2 rfl
theorem stepB_2 {de:DE} {yes:PyData→Nat→Prop} {no:Nat→Prop} {b:Bool} {δ:DS} (h1:b=true→de δ fun y δ3=>yesB yes y δ3) (h2:b=false→no δ.n):stepB de yes no b δ:=by
  cases b with
  | true=>exact h1 rfl
  | false=>exact h2 rfl
class Im (d:PyData):Prop where
  h:imm d=true
class ImA (ds:List PyData):Prop where
  h:immAll ds=true
theorem im {d:PyData} [h:Im d]:imm d=true:=h.h
theorem ima {ds:List PyData} [h:ImA ds]:immAll ds=true:=h.h
instance {i:Int}:Im (.int i):=⟨by simp [imm]⟩
instance {i:Bool}:Im (.bool i):=⟨by simp [imm]⟩
instance {i:Str}:Im (.str i):=⟨by simp [imm]⟩
instance:Im .none:=⟨by simp [imm]⟩
instance {ds:List PyData} [h:ImA ds]:Im (.tuple ds):=⟨by rw [imm]; exact h.h⟩
instance {ns:List Int}:Im (wordD ns):=⟨imm_word ns⟩
instance:ImA []:=⟨by simp [immAll]⟩
instance {d:PyData} {ds:List PyData} [h:Im d] [t:ImA ds]:ImA (d::ds):=⟨by rw [immAll,h.h,t.h]; rfl⟩
instance {α:Type} {f:α→PyData} {l:List α} [h:∀ a,Im (f a)]:ImA (l.map f):=⟨immAll_map (fun a=>(h a).h) l⟩
instance {a b:List PyData} [h:ImA a] [k:ImA b]:ImA (a++b):=⟨by rw [immAll_app,h.h,k.h]; rfl⟩
class Dp (d:PyData) (k:outParam Nat):Prop where
  h:d.depth≤k
class DpA (ds:List PyData) (k:outParam Nat):Prop where
  h:PyData.depthAll ds≤k
theorem dp {d:PyData} {k:Nat} [h:Dp d k] (hk:k≤60:=by decide):d.depth≤60:=Nat.le_trans h.h hk
instance {i:Int}:Dp (.int i) 0:=⟨by simp [PyData.depth]⟩
instance {i:Bool}:Dp (.bool i) 0:=⟨by simp [PyData.depth]⟩
instance {i:Str}:Dp (.str i) 0:=⟨by simp [PyData.depth]⟩
instance:Dp .none 0:=⟨by simp [PyData.depth]⟩
instance {ds:List PyData} {k:Nat} [h:DpA ds k]:Dp (.tuple ds) (k+1):=⟨by have:=h.h; simp only [PyData.depth]; omega⟩
instance {ds:List PyData} {k:Nat} [h:DpA ds k]:Dp (.list ds) (k+1):=⟨by have:=h.h; simp only [PyData.depth]; omega⟩
instance {ns:List Int}:Dp (wordD ns) 1:=⟨depth_word ns⟩
instance:DpA [] 0:=⟨by simp [PyData.depthAll]⟩
instance {d:PyData} {ds:List PyData} {k j:Nat} [h:Dp d k] [t:DpA ds j]:DpA (d::ds) (k+j):=⟨by have:=h.h; have:=t.h; simp only [PyData.depthAll]; omega⟩
instance {α:Type} {f:α→PyData} {l:List α} {k:Nat} [h:∀ a,Dp (f a) k]:DpA (l.map f) k:=⟨depthAll_le fun x hx=>by
  obtain ⟨a,_,rfl⟩:=List.mem_map.mp hx
  exact (h a).h⟩
theorem depthAll_app {a b:List PyData}:PyData.depthAll (a++b)≤PyData.depthAll a+PyData.depthAll b:=by
  induction a with
  | nil=>simp [PyData.depthAll]
  | cons x a ih=>simp only [List.cons_append,PyData.depthAll]; omega
instance {a b:List PyData} {k j:Nat} [h:DpA a k] [t:DpA b j]:DpA (a++b) (k+j):=⟨by have:=h.h; have:=t.h; have:=depthAll_app (a:=a) (b:=b); omega⟩
theorem eqD_str (i j:Str):eqD (.str i) (.str j)=(i == j):=by simp [eqD]
theorem eqD_list (a b:List PyData):eqD (.list a) (.list b)=eqDs a b:=by simp [eqD]
theorem eqD_tup (a b:List PyData):eqD (.tuple a) (.tuple b)=eqDs a b:=by simp [eqD]
theorem eqDs_cons (x y:PyData) (a b:List PyData):eqDs (x::a) (y::b)=(eqD x y && eqDs a b):=by simp [eqDs]
theorem eqDs_nil:eqDs [] []=true:=by simp [eqDs]
theorem eqDs_map {α:Type} [DecidableEq α] {f:α→PyData} (h:∀ a b,eqD (f a) (f b)=decide (a=b)):∀ l m:List α,eqDs (l.map f) (m.map f)=decide (l=m)
  | [],[]=>by simp [eqDs]
  | [],_::_=>by simp [eqDs]
  | _::_,[]=>by simp [eqDs]
  | a::l,b::m=>by simp [eqDs,h,eqDs_map h l m]
theorem eqD_intd (i j:Int):eqD (.int i) (.int j)=decide (i=j):=by simp [eqD]; rfl
theorem eqD_word (a b:List Int):eqD (wordD a) (wordD b)=decide (a=b):=by
  unfold wordD
  rw [eqD_tup,eqDs_map eqD_intd]
def wordsD (ws:List (List Int)):PyData:=.list (ws.map wordD)
instance {ws:List (List Int)}:Dp (wordsD ws) 2:=⟨(inferInstance:Dp (.list (ws.map wordD)) 2).h⟩
def intsD (ns:List Int):PyData:=.list (ns.map PyData.int)
instance {ns:List Int}:Dp (intsD ns) 1:=⟨(inferInstance:Dp (.list (ns.map PyData.int)) 1).h⟩
theorem any_int (ns:List Int) (i:Int):((ns.map PyData.int).any fun e=>eqD e (.int i))=decide (i∈ns):=by
  rw [List.any_map]
  induction ns with
  | nil=>rfl
  | cons n ns ih =>
    rw [List.any_cons,ih]
    simp only [Function.comp,eqD_intd,List.mem_cons]
    by_cases h:n=i
    · subst h; simp
    · have : ¬ i=n:=fun z=>h z.symm
      simp [h,this]
theorem any_map {α:Type} [DecidableEq α] {f:α→PyData} (h:∀ a b,eqD (f a) (f b)=decide (a=b)) (l:List α) (a:α):((l.map f).any fun e=>eqD e (f a))=decide (a∈l):=by
  rw [List.any_map]
  induction l with
  | nil=>rfl
  | cons n ns ih =>
    rw [List.any_cons,ih]
    simp only [Function.comp,h,List.mem_cons]
    by_cases h:n=a
    · subst h; simp
    · have : ¬ a=n:=fun z=>h z.symm
      simp [h,this]
theorem any_word (ws:List (List Int)) (a:List Int):((ws.map wordD).any fun e=>eqD e (wordD a))=decide (a∈ws):=(any_map eqD_word ws a).trans (decide_eq_decide.mpr Iff.rfl)
theorem zip_map {α β:Type} (f:α→β) (l:List α):(l.map f).zipIdx=l.zipIdx.map fun p=>(f p.1,p.2):=by
  rw [List.zipIdx_map]
  rfl
theorem atI_map {α β:Type} (f:α→β) (l:List α) (i:Int):atI (l.map f) i=(atI l i).map f:=by
  unfold atI
  rw [List.length_map]
  cases ixN l.length i with
  | none=>rfl
  | some j=>simp
theorem atI_some {α:Type} {l:List α} {i:Int} (h0:0≤i) (h1:i<l.length):∃ a,l[i.toNat]? = some a∧atI l i=some a∧a∈l:=by
  have hk:i.toNat<l.length:=by omega
  refine ⟨l[i.toNat],by simp [hk],?_,List.getElem_mem hk⟩
  have q:atI l ((i.toNat:Nat):Int)=some l[i.toNat]:=atI_nat (by simp [hk])
  rwa [show ((i.toNat:Nat):Int)=i by omega] at q
theorem im_e {d:PyData} [h:Im d]:(imm d=true)=True:=eq_true h.h
theorem ima_e {ds:List PyData} [h:ImA ds]:(immAll ds=true)=True:=eq_true h.h
theorem dp_e {d:PyData} {k:Nat} [h:Dp d k] (hk:k≤60):(d.depth≤60)=True:=eq_true (Nat.le_trans h.h hk)
theorem dpa_e {ds:List PyData} {k:Nat} [h:DpA ds k] (hk:k≤60):(PyData.depthAll ds≤60)=True:=eq_true (Nat.le_trans h.h hk)
theorem eqD_l0 (a:List PyData):eqD (.list a) (.list [])=a.isEmpty:=eqD_nil a
theorem ow_e {d:PyData} {R:PyData→Prop}:(∃ e,DV.dat .ow d=.dat .ow e∧R e)=R d:=by
  apply propext
  constructor
  · rintro ⟨e,h,r⟩; cases h; exact r
  · intro r; exact ⟨d,rfl,r⟩
theorem tt_e {m:Md} {b:Bool}:(∃ m',DV.dat m (.bool b)=.dat m' (.bool true))=(b=true):=by
  apply propext
  constructor
  · rintro ⟨e,h⟩; cases h; rfl
  · intro r; subst r; exact ⟨m,rfl⟩
theorem cdiv_e {i j:Int}:CDiv i j=(0<j∧j<1073741824):=rfl
theorem cmul_r {i j:Int} (h:-18446744073709551616<j∧j<18446744073709551616):CMul i j=True:=eq_true (.inr h)
theorem joinI {t u:DB} {D:DEnds} {b:Bool} {δ:DS} (J:DS→Prop) (h:∀ N:DS→Prop,(∀ δ',J δ'→N δ')→ifB t u { D with nx:=N } b δ) (k:∀ δ',J δ'→D.nx δ'):ifB t u D b δ:=h D.nx k
theorem ds_eq {sl sl':List DV} {n n':Nat} (h:sl=sl') (h':n=n'):(⟨sl,n⟩ : DS)=⟨sl',n'⟩:=by subst h h'; rfl
theorem range_at {j i a:Nat} (h:(List.range j)[i]? = some a):a=i∧i<j:=by
  obtain ⟨h1,h2⟩:=List.getElem?_eq_some_iff.mp h
  rw [List.length_range] at h1
  rw [List.getElem_range] at h2
  exact ⟨h2.symm,h1⟩
def NP (v:DV):Prop:=∀ l,npk (v::l)=npk l
theorem np_un:NP .un:=fun _=>rfl
theorem np_sh {d:PyData}:NP (.dat .sh d):=fun _=>rfl
theorem np_ow {d:PyData}:NP (.dat .ow d):=fun _=>rfl
theorem np_drw:NP .drw:=fun _=>rfl
theorem joinX {t u:DB} {D:DEnds} (X:(Bool→DS→Prop)→Prop) (J:DS→Prop) (h:∀ N:DS→Prop,(∀ δ',J δ'→N δ')→X (ifB t u { D with nx:=N })) (k:∀ δ',J δ'→D.nx δ'):X (ifB t u D):=h D.nx k
theorem pick2 {α:Type} (x y:α) (b:Bool):atI [x,y] (if b=true then 1 else 0)=some (if b=true then y else x):=by cases b <;> rfl
theorem fold_w (w:List Int):PyData.tuple (List.map PyData.int w)=wordD w:=rfl
theorem np_nil:∀ x∈([]:List DV),NP x:=fun _ z=>nomatch z
theorem isi_li (ds:List PyData):isiD (.list ds) "list" = true:=by simp [isiD,tyD]
theorem isi_ib (i:Int):isiD (.int i) "bool" = false:=by simp [isiD,tyD]
theorem isi_ii (i:Int):isiD (.int i) "int" = true:=by simp [isiD,tyD]
theorem filt_take {α β:Type} {l:List α} {i:Nat} {a:α} (p:α→Bool) (f:α→β) (h:l[i]? = some a):((l.take (i+1)).filter p).map f=((l.take i).filter p).map f++(if p a=true then [f a] else []):=by
  rw [take_more h,List.filter_append,List.map_append]
  cases q:p a <;> simp [q]
theorem cut_k {ns:List Int} (k:Nat):(cutG ns none (some (k:Int))).length≤k:=by
  rw [cutG_upto,List.length_take]
  exact Nat.min_le_left _ _
theorem ifB_lt {t u:DB} {D:DEnds} {δ:DS}:ifB t u D true δ=t D δ:=rfl
theorem ifB_lf {t u:DB} {D:DEnds} {δ:DS}:ifB t u D false δ=u D δ:=rfl
theorem str_self (s:Str):(s == s)=true:=by simp
theorem atI_n {α:Type} {l:List α} {i:Nat} {a:α} (h:l[i]? = some a):atI l (i:Int)=some a:=by
  obtain ⟨b,e1,e2,_⟩:=atI_some (l:=l) (i:=(i:Int)) (by omega) (by have:=(List.getElem?_eq_some_iff.mp h).1; omega)
  rw [e2,← e1,← h]; rfl
theorem catL_e {m m':Md} {ds es:List PyData} {P:DV→Prop} (h1:m≠.pk) (h2:m'≠.pk):rdCatL (.dat m (.list ds)) (.dat m' (.list es)) P=(ds.length+es.length≤1000000∧P (.dat .tp (.list (ds++es)))):=propext ⟨fun h=>h.2.2,fun h=>⟨h1,h2,h⟩⟩
theorem catL_show {ds es:List PyData} {P:DV→Prop}:rdCatL (.dat .sh (.list ds)) (.dat .ow (.list es)) P=(ds.length+es.length≤1000000∧P (.dat .tp (.list (ds++es)))):=catL_e (by decide) (by decide)
theorem catL_shtp {ds es:List PyData} {P:DV→Prop}:rdCatL (.dat .sh (.list ds)) (.dat .tp (.list es)) P=(ds.length+es.length≤1000000∧P (.dat .tp (.list (ds++es)))):=catL_e (by decide) (by decide)
theorem atI_0 {α:Type} (x:α) (l:List α):atI (x::l) 0=some x:=atI_n (i:=0) rfl
theorem atI_1 {α:Type} (x y:α) (l:List α):atI (x::y::l) 1=some y:=atI_n (i:=1) rfl
theorem some_e {α:Type} {a:α} {R:α→Prop}:(∃ d,some a=some d∧R d)=R a:=propext ⟨fun ⟨_,e,h⟩=>by cases e; exact h,fun h=>⟨a,rfl,h⟩⟩
theorem ow_npk:(Md.ow≠Md.pk)=True:=eq_true (by decide)
theorem compByDL {js1 js2:List Nat} {j0:Nat} {dc:DT} {de:DE} {P:DV→DS→Prop} {m:Md} {ds:List PyData} {δ1:DS} {α:Type} {l:List α} {g:α→PyData} (e:ds=l.map g) (hj:δ1.sl[j0]? = some .drw) (I:Nat→List PyData→Nat→Prop) (h0:I 0 [] δ1.n) (h:∀ i a acc n,l[i]? = some a→I i acc n→compStepDL (js1.length+1) dc de ⟨.dat m (g a)::(frD (δ1.sl.set j0 .un) js1++.drw::frD (δ1.sl.set j0 .un) js2),n⟩ (fun e n'=>I (i+1) (acc++[e]) n') (fun n'=>I (i+1) acc n')) (q:∀ acc n,I l.length acc n→P (.dat .tp (.list acc)) ⟨δ1.sl,n⟩):compBDL js1 j0 js2 dc de P m ds δ1:=by
  subst e
  refine ⟨hj,I,h0,fun i d acc n hd hI=>?_,fun acc n hI=>q acc n (by rw [List.length_map] at hI; exact hI)⟩
  rw [List.getElem?_map] at hd
  cases q:l[i]? with
  | none=>rw [q] at hd; cases hd
  | some a=>rw [q] at hd; cases hd; exact h i a acc n q hI
end DL
namespace K63
open PySem L2 Nd DL
def top (i:Nat):Stmt:=PySem.Challenge.pw_needledeck_k63_what_is_found.main.body.getD i (.Pass ⟨0,0,0,0⟩)
abbrev s_is_whole:Stmt:=top 4
abbrev s_within:Stmt:=top 5
abbrev s_together:Stmt:=top 6
abbrev s_begins:Stmt:=top 8
abbrev s_value_word:Stmt:=top 9
abbrev s_written_as:Stmt:=top 10
abbrev s_find:Stmt:=top 11
abbrev sDraws:Stmt:=top 13
abbrev sNext:Stmt:=top 14
abbrev s__law_small:Stmt:=top 15
abbrev s__law_layout:Stmt:=top 16
abbrev s__law_great_layout:Stmt:=top 17
abbrev s__law_values:Stmt:=top 18
abbrev s__law_written:Stmt:=top 19
abbrev s__law_refused:Stmt:=top 20
abbrev s__law_due:Stmt:=top 21
abbrev s__law_question:Stmt:=top 22
abbrev sLaw:Stmt:=top 23
section
variable {P:Program} {w:World} {K:PySem.W.Frag} {mg:Str→Option Value} {base:Heap}
theorem scD:FnScope ["_law_cell"] ["_law_cell"] (defScope sDraws):=⟨rfl,rfl,rfl,by decide +kernel,rfl,by decide +kernel,by decide +kernel⟩
theorem ok_draws {f:Addr} {fd:FuncData} (F:Fun K "_law_draws" "_law_draws" sDraws f fd):FnOk P w K mg base CX0 1 f fd ["_law_cell"] spDrawsD:=by
  refine F.ok scD (fun vs H Q E h=>?_) (fun cdv A outer s H vs Q E hr h=>?_)
  · obtain ⟨c,rfl,_⟩:=h
    rfl
  obtain ⟨c,rfl,q⟩:=h
  refine ⟨_,pss_cons (ps_if (pt_cmpR op_ge (pv 0) (pe_op op_pow pe_int pe_int) (nomark _)) (pss_one (ps_ret (pe_lst (pa_cons (pe_op op_mod (pv 0) (pe_op op_pow2 (pe_op op_pow pe_int pe_int) pe_int)) (pa_cons pe_int (pa_cons pe_bl pa_nil)))))) pss_nil)
    (pss_one (ps_ret (pe_lst (pa_cons (pe_op op_mod (pv 0) pe_int) (pa_cons pe_int (pa_cons pe_bl pa_nil)))))),?_⟩
  refine ⟨_,rfl,10,18,rfl,rfl,⟨by decide,by decide,by decide⟩,_,_,rfl,rfl,_,rfl,ite2 (fun _=>?_) (fun _=>?_)⟩
  · refine ⟨_,rfl,10,60,rfl,rfl,⟨by decide,by decide,by decide⟩,_,48,rfl,rfl,⟨by decide,by show (Builtin.Int.intBits (10 ^ (60:Int).toNat):Int) * 48≤2 ^ 27; decide +kernel⟩,_,_,rfl,rfl,(by show (0:Int)<(10 ^ (60:Int).toNat) ^ (48:Int).toNat; decide +kernel),(by show 3≤sizeLine; decide),fun p hp=>?_⟩
    exact q p _ _ _ hp upd_same (same_new hp _)
  · refine ⟨_,rfl,_,_,rfl,rfl,(by show (0:Int)<1000003; decide),(by show 3≤sizeLine; decide),fun p hp=>?_⟩
    exact q p _ _ _ hp upd_same (same_new hp _)
theorem scN:FnScope ["_law_draws_here", "_law_k", "_law_number"] ["_law_draws_here"] (defScope sNext):=⟨rfl,rfl,rfl,by decide +kernel,rfl,by decide +kernel,by decide +kernel⟩
theorem ok_next {f:Addr} {fd:FuncData} (F:Fun K "_law_next" "_law_next" sNext f fd):FnOk P w K mg base CX0 1 f fd ["_law_draws_here"] spNext:=by
  refine F.ok scN (fun vs H Q E h=>?_) (fun cdv A outer s H vs Q E hr h=>?_)
  · obtain ⟨d,c,k,fl,rfl,_⟩:=h
    rfl
  obtain ⟨d,c,k,fl,rfl,hd,h0,h1,q⟩:=h
  refine ⟨_,pss_cons (ps_asg (pe_op op_add (pe_ix ix_list (pv 0) pe_int (fun _ _=>rfl)) pe_int) (pg_sub (pv 0) pe_int set_list))
    (pss_cons (ps_if (pt_val (pe_ix ix_list (pv 0) pe_int (fun _ _=>rfl)))
      (pss_cons (ps_set (i:=2) scN.nd rfl (Or.inl rfl) (pe_op op_mod (pe_ix ix_list (pv 0) pe_int (fun _ _=>rfl)) (pe_op op_pow pe_int pe_int)))
        (pss_cons (ps_asg (pe_op op_fdiv (pe_ix ix_list (pv 0) pe_int (fun _ _=>rfl)) (pe_op op_pow pe_int pe_int)) (pg_sub (pv 0) pe_int set_list))
        (pss_one (ps_ret (pv 2))))) pss_nil)
    (pss_cons (ps_set (i:=1) scN.nd rfl (Or.inl rfl) (pe_ix ix_list (pv 0) pe_int (fun _ _=>rfl)))
    (pss_cons (ps_set (i:=2) scN.nd rfl (Or.inl rfl) (pe_op op_mod (pe_op op_mul (pe_op op_add (pe_op op_add (pe_ix ix_list (pv 0) pe_int (fun _ _=>rfl)) (pe_op op_mul (pe_op op_mul (pv 1) (pv 1)) pe_int)) (pv 1)) pe_int) pe_int))
    (pss_cons (ps_set (i:=2) scN.nd rfl (Or.inl rfl) (pe_op op_mod (pe_op op_mul (pv 2) (pv 2)) pe_int))
    (pss_one (ps_ret (pe_op op_fdiv (pe_op op_mod (pe_op op_mul (pv 2) (pe_op op_add (pv 2) pe_int)) pe_int) pe_int))))))),?_⟩
  -- draws[1]=draws[1]+1
  refine ⟨_,rfl,d,_,1,_,rfl,rfl,SqL.of hd,rfl,_,_,rfl,rfl,_,rfl,d,_,1,1,rfl,rfl,hd,rfl,?_⟩
  have e1:(upd H d (.lst ([V.int c,V.int k,V.bl fl].set 1 (V.int (k+1))))) d=some (.lst [.int c,.int (k+1),.bl fl]):=upd_same
  generalize hH1:upd H d (.lst ([V.int c,V.int k,V.bl fl].set 1 (V.int (k+1))))=H1 at e1
  have s1:SameB d H H1:=by rw [← hH1]; exact SameB.upd
  refine ⟨_,rfl,d,_,2,_,rfl,rfl,SqL.of e1,rfl,_,rfl,?_⟩
  refine ite2 (fun _=>?_) (fun _=>?_)
  · refine ⟨_,rfl,d,_,0,_,rfl,rfl,SqL.of e1,rfl,10,6,rfl,rfl,⟨by decide,by decide,by decide⟩,_,_,rfl,rfl,(by show (0:Int)<10 ^ (6:Int).toNat; decide),?_⟩
    refine ⟨_,rfl,d,_,0,_,rfl,rfl,SqL.of e1,rfl,10,6,rfl,rfl,⟨by decide,by decide,by decide⟩,_,_,rfl,rfl,⟨by decide,by decide⟩,_,rfl,d,_,0,0,rfl,rfl,e1,rfl,_,rfl,?_⟩
    exact q _ _ _ upd_same (s1.trans SameB.upd)
  · refine ⟨_,rfl,d,_,1,_,rfl,rfl,SqL.of e1,rfl,?_⟩
    have b1:=emod_in ((c+(k+1) * (k+1) * 7919+(k+1)) * 48271) 2147483629 (by decide)
    refine ⟨_,rfl,d,_,0,_,rfl,rfl,SqL.of e1,rfl,_,rfl,_,rfl,_,_,rfl,rfl,.inl ⟨by omega,by omega⟩,_,_,rfl,rfl,.inr ⟨by decide,by decide⟩,_,_,rfl,rfl,_,rfl,_,_,rfl,rfl,
      _,_,rfl,rfl,.inr ⟨by decide,by decide⟩,_,_,rfl,rfl,(by show (0:Int)<2147483629; decide),?_⟩
    generalize ((c+(k+1) * (k+1) * 7919+(k+1)) * 48271) % 2147483629=x at b1
    have b2:=emod_in (x * x) 2147483587 (by decide)
    refine ⟨_,rfl,_,rfl,_,_,rfl,rfl,.inl ⟨by omega,by omega⟩,_,_,rfl,rfl,(by show (0:Int)<2147483587; decide),?_⟩
    generalize (x * x) % 2147483587=y at b2
    refine ⟨_,rfl,_,rfl,_,_,rfl,rfl,_,_,rfl,rfl,.inl ⟨by omega,by omega⟩,_,_,rfl,rfl,(by show (0:Int)<2147483579; decide),_,_,rfl,rfl,⟨by decide,by decide⟩,?_⟩
    exact q _ _ _ e1 s1
theorem ok_drawsD {f:Addr} {fd:FuncData} (F:Fun K "_law_draws" "_law_draws" sDraws f fd):FnOk P w K mg base CX0 1 f fd ["_law_cell"] spDrawsD:=ok_draws F
theorem ok_nextD {f:Addr} {fd:FuncData} (F:Fun K "_law_next" "_law_next" sNext f fd):FnOk P w K mg base CX0 1 f fd ["_law_draws_here"] (SpW K dfNext):=next_ok (ok_next F)
end
end K63
namespace DL
open PySem L2 Nd
def sub (a b:List Int):Bool:=a.all fun i=>decide (i∈b)
def less (a b:List Int):List Int:=a.filter fun i=>decide (i∉b)
theorem sub_iff {a b:List Int}:sub a b=true↔∀ i∈a,i∈b:=by
  unfold sub
  simp [List.all_eq_true]
theorem less_nil {a b:List Int}:less a b=[]↔sub a b=true:=by
  unfold less
  rw [List.filter_eq_nil_iff,sub_iff]
  simp
theorem rnodup {h:Int} {a:List Int} (r:Rising h a):a.Nodup:=r.1.imp fun {x y} h=>Int.ne_of_lt h
theorem rising_set {a:List Int} (h:∀ x∈a,0≤x∧x<60):Rising 60 (sset a):=⟨sset_rise a,fun x hx=>h x (mem_sset.mp hx)⟩
theorem nodup_len {a:List Int} (nd:a.Nodup) (h:∀ x∈a,0≤x∧x<60):a.length≤60:=Nat.le_trans (NdS.len_leI nd fun e he=>mem_U60 (h e he).1 (h e he).2) (by decide)
theorem mod_in (a:Int) {b:Int} (h:0<b):0≤a % b∧a % b<b:=emod_in a b h
def pfIn:PF:=fun ds R=>∃ a b:List Int,ds=[wordD a,wordD b]∧R (.bool (sub a b))
end DL
namespace DL
open PySem L2 Nd
theorem zip_at {α:Type} {l:List α} {i:Nat} {p:α×Nat} (h:l.zipIdx[i]? = some p):p.2=i∧l[i]? = some p.1∧p.1∈l∧i<l.length:=by
  rw [List.getElem?_zipIdx] at h
  cases q:l[i]? with
  | none=>rw [q] at h; cases h
  | some a =>
    rw [q] at h
    cases h
    exact ⟨by simp,rfl,List.mem_of_getElem? q,(List.getElem?_eq_some_iff.mp q).1⟩
def pairD (p:Nat×Nat):PyData:=.tuple [.int p.1,.int p.2]
instance {p:Nat×Nat}:Im (pairD p):=⟨(inferInstance:Im (.tuple [.int p.1,.int p.2])).h⟩
instance {p:Nat×Nat}:Dp (pairD p) 1:=⟨(inferInstance:Dp (.tuple [.int p.1,.int p.2]) 1).h⟩
def tripD (p:Nat×Nat×List Int):PyData:=.tuple [.int p.1,.int p.2.1,wordD p.2.2]
instance {p:Nat×Nat×List Int}:Im (tripD p):=⟨(inferInstance:Im (.tuple [.int p.1,.int p.2.1,wordD p.2.2])).h⟩
instance {p:Nat×Nat×List Int}:Dp (tripD p) 2:=⟨(inferInstance:Dp (.tuple [.int p.1,.int p.2.1,wordD p.2.2]) 2).h⟩
end DL
namespace Nd
open PySem PySem.Spec PyProof.Rows L2
theorem funs_mono {h b b':Heap} (m:∀ a,b.get? a=none→b'.get? a=none):∀ {l:List Env},h.FunFrames b l→h.FunFrames b' l
  | [],x=>x
  | env::l,⟨k,⟨L,o,f,n,g,d⟩,r⟩=>⟨k,⟨L,o,f,m L n,g,d⟩,funs_mono m r⟩
theorem hide_none {h:Heap} {C a:Addr} (n:h.get? a=none):(PySem.W.hideAll h [C]).get? a=none:=by
  cases q:(PySem.W.hideAll h [C]).get? a with
  | none=>rfl
  | some o =>
    have:=PySem.W.of_hideAll _ q
    rw [n] at this
    cases this
theorem held_but {B h h':Heap} {l:List Env} {e L C:Addr} {cls a0:Value} {oC:Obj} (x:Heap.HeldW B l e cls a0 L h) (hC:B.get? C=some oC) (hs:Heap.SameBut C h h'):Heap.HeldW (PySem.W.hideAll B [C]) l e cls a0 L h':=by
  obtain ⟨k1,k2,k3,oe,vs,T,oT,ts,he,hc,hd,h1,hnT,hTe,hT,hdT,h3⟩:=x
  have ne:∀ {b:Addr},B.get? b=none→b≠C:=fun {b} n z=>by rw [z,hC] at n; cases n
  refine ⟨fun b o q=>?_,hide_none k2,?_,oe,vs,T,oT,ts,(hs.2 e (ne k2)).trans he,hc,hd,h1,hide_none hnT,hTe,(hs.2 T (ne hnT)).trans hT,hdT,h3⟩
  · by_cases z:b=C
    · rw [z,PySem.W.hideAll_none _ List.mem_cons_self] at q
      cases q
    · exact (hs.2 b z).trans (k1 b o (PySem.W.of_hideAll _ q))
  · have k4:h'.FunFrames B l:=by
      clear he hT k1
      induction l with
      | nil=>exact k3
      | cons env l ih =>
        obtain ⟨a,⟨L',o,f,n,g,d⟩,r⟩:=k3
        exact ⟨a,⟨L',o,f,n,(hs.2 L' (ne n)).trans g,d⟩,ih r⟩
    exact funs_mono (fun a n=>hide_none n) k4
section
variable {M:Model} {A:Around} {E:Value→Shared→Prop} {s:Shared}
theorem flight_held {base:Heap} {l:List Env} {e L:Addr} {cls a0:Value} {Q:Unit→Shared→Prop} (hh:Heap.HeldW base l e cls a0 L s.heap) (h:∀ h',Heap.HeldW base l e cls a0 L h'→s.heap.UpToSlots h'→Q () { s with heap:=h' }):wpAny M A (setFlight (.ref e) (some L)) Q E s:=by
  obtain ⟨hkb,hen,hl,oe,vs,T,oT,ts,he,hcls,hd,h1,hnT,hTe,hT,hdT,h3⟩:=hh
  have hsz3:3<ts.size:=(Array.getElem?_eq_some_iff.mp h3).1
  have other:∀ b,b≠T→(s.heap.update T (Obj.mapFields (·.setIfInBounds 3 (rawInt L)))).get? b=s.heap.get? b:=fun b hb=>Heap.get?_update_other _ _ (Ne.symm hb)
  have noR:∀ b o,s.heap.get? b=some o→(∀ vs,o.data≠.fields vs)→b≠T:=fun b o hb hnf q=>by
    rw [q,hT] at hb; injection hb with hb; subst hb; exact hnf ts hdT
  unfold setFlight
  refine wpAny_bind (wpAny_field he hd h1 ?_)
  rw [if_pos (show (Value.ref T != Value.none)=true from by simp)]
  refine wpAny_setField hT hdT hsz3 (h _ ⟨fun b o hbo=>(other b fun q=>by rw [q,hnT] at hbo; cases hbo).trans (hkb b o hbo),hen,
    hl.of_keeps fun b o hb hnf=>⟨o,(other b (noR b o hb hnf)).trans hb,rfl⟩,?_⟩ fun b o hb hnf=>⟨o.slots,(other b (noR b o hb hnf)).trans hb⟩)
  exact ⟨oe,vs,T,_,_,(other e (Ne.symm hTe)).trans he,hcls,hd,h1,hnT,hTe,Heap.get?_update_self _ hT (Obj.isFreed_of_fields (Obj.data_mapFields hdT _)),Obj.data_mapFields hdT _,by simp [hsz3]⟩
theorem passOn_held {α:Type} {what:String} {base:Heap} {l:List Env} {e L:Addr} {cls a0:Value} {env:Env} {Q:α→Shared→Prop} (hf:env.frame=some L) (hh:Heap.HeldW base l e cls a0 L s.heap) (h:∀ h',Heap.HeldW base l e cls a0 L h'→s.heap.UpToSlots h'→E (.ref e) { s with heap:=h' }):wpAny M A (PySem.passOn what (.ref e) env:Sem α) Q E s:=by
  obtain ⟨_,_,_,oe,vs,T,oT,ts,he,hcls,hd,h1,_⟩:=id hh
  unfold PySem.passOn
  refine wpAny_bind (wpAny_field he hd h1 ?_)
  rw [if_neg (show ¬ ((Value.ref T == Value.none)=true) from by simp),hf]
  exact wpAny_bind (flight_held hh fun h' k1 k2=>wpAny_throw (h h' k1 k2))
end
def XeB (P:Program) (w:World) (stk:List Env) (HD:Hp) (sD:Shared) (E:XK) (Cb:Addr):Value→Shared→Prop:=fun ev s'=>∃ (e C t:Addr) (H':Hp) (B:Heap),ev=.ref e∧Fly P w stk HD H' sD s' e C t B∧E (.ref C) none H'∧H' Cb=none∧∃ m,B.Ns Cb m
section
variable {P:Program} {w:World} {K:PySem.W.Frag} {mg:Str→Option Value} {base:Heap} {N:List Str} {qual:Str} {scope:Scope} {f:Addr} {cd:Value} {A:Around} {outer:List Env} {s:Shared} {H:Hp} {E:XK}
structure BOk (stk:List Env) (HD:Hp) (sD:Shared) (fp:List Addr) (s3:Shared) (H3:Hp):Prop where
  os:s3.os=sD.os
  un:Un (frs stk) [] HD H3 sD.heap s3.heap
  old:∀ b∈fp,sD.heap.objs.size≤b
theorem pass_block {scope':Scope} {cl:List (Str×Addr)} {N':List Str} {fp:List Addr} {s3:Shared} {H3:Hp} {X:Cx} (hP:X.prog=P) (hw:X.w=w) (b0:BOk X.stack H s fp s3 H3):Passes (CXN P w) ((cxComp X scope' cl N' fp s3 H3).wish (XeB P w X.stack H s E s3.heap.objs.size)) E:=by
  intro pins σ H1 s1 ev s' I h
  obtain ⟨e,C,t,H',B,rfl,F,q⟩:=h
  have F:Fly P w X.stack H1 H' s1 s' e C t B:=F
  have hb:Un (frs X.stack) fp H3 H1 s3.heap s1.heap:=I.base
  have u:=b0.un
  have nf:∀ b o,s.heap.get? b=some o→b∉fp:=fun b o e1 z=>absurd (Heap.lt_size e1) (Nat.not_lt.mpr (b0.old b z))
  obtain ⟨m,hm,_⟩:=I.loc
  have hm:s1.heap.Ns s3.heap.objs.size m:=hm
  have fr:H1 s3.heap.objs.size=none:=I.free
  obtain ⟨oC,es,ep,g1,g2,g3,g4⟩:=hm
  have nC:s3.heap.objs.size∉frs X.stack:=fun z=>by
    have:=(I.ok.funs.mem z)
    obtain ⟨_,o',e1,_⟩:=this
    exact absurd (Heap.lt_size e1) (Nat.lt_irrefl _)
  refine ⟨e,C,t,H',B,rfl,⟨(F.os.trans I.os).trans b0.os,F.bare,F.fly,fun b o e1 hn=>?_,fun b o e1 hm n=>?_,fun b o e1 n=>?_,fun b xs z=>F.tups b xs (hb.tups b xs (u.tups b xs z)),fun b o v z=>F.frzs b o v (hb.frzs b o v (u.frzs b o v z)),fun b ps z=>?_,F.hok⟩,q,F.free _ oC g1 fr,m,?_⟩
  · obtain ⟨o3,e3⟩:=u.there b o e1 (fun z=>nomatch z)
    obtain ⟨o1,e4⟩:=hb.there b o3 e3 (nf b o e1)
    obtain ⟨o',e5,e6⟩:=F.cov b o1 e4 hn
    refine ⟨o',e5,fun n=>?_⟩
    have k3:=u.keep b o e1 n hn (fun z=>nomatch z)
    have n3:=u.free b o e1 n (fun z=>nomatch z)
    have k1:=hb.keep b o k3 n3 hn (nf b o e1)
    rw [e6 (hb.free b o k3 n3 (nf b o e1))]
    rw [k1] at e4
    exact (Option.some.inj e4).symm
  · obtain ⟨sl,e2⟩:=u.slot b o e1 n hm (fun z=>nomatch z)
    have n3:=u.free b o e1 n (fun z=>nomatch z)
    obtain ⟨sl2,e3⟩:=hb.slot b _ e2 n3 hm (nf b o e1)
    obtain ⟨sl3,e4⟩:=F.slot b _ e3 hm (hb.free b _ e2 n3 (nf b o e1))
    exact ⟨sl3,e4⟩
  · have n3:=u.free b o e1 n (fun z=>nomatch z)
    obtain ⟨o3,e3⟩:=u.there b o e1 (fun z=>nomatch z)
    obtain ⟨o1,e4⟩:=hb.there b o3 e3 (nf b o e1)
    exact F.free b o1 e4 (hb.free b o3 e3 n3 (nf b o e1))
  · obtain ⟨m1,z1⟩:=u.tbls b ps z
    obtain ⟨m2,z2⟩:=hb.tbls b _ z1
    obtain ⟨m3,z3⟩:=F.tbls b _ z2
    exact ⟨m1++m2++m3,by rw [z3]; simp⟩
  · obtain ⟨o',e5,e6⟩:=F.cov _ oC g1 nC
    rw [e6 fr] at e5
    exact ⟨oC,es,ep,e5,g2,g3,g4⟩
theorem block_out {what:String} {E':Value→Shared→Prop} {Cb:Addr} {ev:Value} {s':Shared} (hfr:(A.deeper (envOfC qual scope s.heap.objs.size f cd)).frames=some (envOfC qual scope s.heap.objs.size f cd::outer)) (hCb:s.heap.objs.size<Cb) (hx:XeB P w (envOfC qual scope s.heap.objs.size f cd::outer) H s E Cb ev s'):wpAny (model P w) (A.deeper (envOfC qual scope s.heap.objs.size f cd)) (noteFrame ev (envOfC qual scope s.heap.objs.size f cd)) (fun _ s2=>∃ m,s2.heap.Ns Cb m∧∀ h',Heap.SameBut Cb s2.heap h'→wpAny (model P w) (A.deeper (envOfC qual scope s.heap.objs.size f cd)) (PySem.passOn what ev (envOfC qual scope s.heap.objs.size f cd):Sem Value) (fun _ _=>False) (cxOf (CXN P w) P w K mg base N qual scope f cd A outer s H E).xe { s2 with heap:=h' }) E' s':=by
  obtain ⟨e,C,t,H',B,rfl,F,q,nCb,m,hN⟩:=hx
  obtain ⟨oC,es,ep,g1,g2,g3,g4⟩:=hN
  refine wpAny_looks_onW (L:=s.heap.objs.size) hfr rfl F.fly fun h1 hh u1=>⟨m,⟨oC,es,ep,hh.1 _ _ g1,g2,g3,g4⟩,fun h2 hs2=>?_⟩
  have hh2:=held_but hh g1 hs2
  refine passOn_held (L:=s.heap.objs.size) rfl hh2 fun h3 hh3 u3=>?_
  show wpAny (model P w) (A.deeper (envOfC qual scope s.heap.objs.size f cd)) (leaving (envOfC qual scope s.heap.objs.size f cd) (.ref e)) _ _ _
  unfold leaving
  refine wpAny_bind (wpAny_noteFrame_againW (L:=s.heap.objs.size) rfl hh3.2.2.2 ?_)
  refine wpAny_landsW hh3 fun h4 hfl u4=>?_
  obtain ⟨k1,k2,⟨_,_,k3⟩,k4⟩:=hfl
  have oldC:∀ b o,s.heap.get? b=some o→b≠Cb:=fun b o e1 z=>by
    have:=Heap.lt_size e1
    rw [z] at this
    exact absurd this (Nat.not_lt.mpr (Nat.le_of_lt hCb))
  have nL:∀ b o,s.heap.get? b=some o→b∉frs outer→b∉frs (envOfC qual scope s.heap.objs.size f cd::outer):=fun b o e1 hn hm=>by
    rcases mem_frs (L:=s.heap.objs.size) rfl hm with z | z
    · exact absurd (Heap.lt_size e1) (by rw [z]; exact Nat.lt_irrefl _)
    · exact hn z
  refine ⟨e,C,t,H',PySem.W.hideAll B [Cb],rfl,⟨F.os,F.bare,⟨k1,k2,k3,k4⟩,fun b o e1 hn=>?_,fun b o e1 hm n=>?_,F.free,F.tups,F.frzs,F.tbls,fun a v e1=>?_⟩,q⟩
  · obtain ⟨o',e2,e3⟩:=F.cov b o e1 (nL b o e1 hn)
    exact ⟨o',PySem.W.hideAll_get _ e2 fun z=>oldC b o e1 (List.mem_singleton.mp z),e3⟩
  · have hm':b∈frs (envOfC qual scope s.heap.objs.size f cd::outer):=by
      obtain ⟨x,hx',hf⟩:=List.mem_filterMap.mp hm
      exact List.mem_filterMap.mpr ⟨x,List.mem_cons_of_mem _ hx',hf⟩
    obtain ⟨sl,e2⟩:=F.slot b o e1 hm' n
    obtain ⟨_,o',e3,nf⟩:=F.fly.2.2.1.mem hm'
    rw [e2] at e3
    cases e3
    obtain ⟨sl1,e4⟩:=u1 b _ e2 nf
    have e5:=(hs2.2 b (oldC b o e1)).trans e4
    obtain ⟨sl2,e6⟩:=u3 b _ e5 nf
    obtain ⟨sl3,e7⟩:=u4 b _ e6 nf
    exact ⟨sl3,e7⟩
  · refine (F.hok a v e1).stay (fun b v' hc e2=>PySem.W.hideAll_get _ e2 fun hm=>?_) (fun _ z=>z) (fun _ _ z=>z)
    rw [List.mem_singleton.mp hm] at hc
    rcases hc with r | r
    · rw [← r,nCb] at e1; cases e1
    · rw [nCb] at r; cases r
end
end Nd
namespace Nd
open PySem PySem.Spec PyProof.Rows L2
section
variable {prog:Program} {w:World} {A:Around} {R:Result→Shared→Prop} {s:Shared}
theorem comp_turnsX {Ex:Value→Shared→Prop} {elt tg iter:Expr} {ifs:List Expr} {scope:Scope} {pos:Pos} {it acc:Value} {env:Env} (J:Nat→Shared→Prop) (hE:∀ x s',Ex x s'→notedBy (model prog w) A env (fun x s'=>R (.error x) s') x s') (turn:∀ n s,J n s→wpAny (model prog w) A (pyNext it) (fun r s1=>match r with
        | none=>R (.ok .next) s1
        | some v=>wpAny (model prog w) A (letOwnedTupleGo tg it v) (fun _ s2=>wpAny (model prog w) A (assign tg env v) (fun _ s3 =>
            wpAny (model prog w) A (forIn ifs true fun c r=>if r=true then (do
                let ok ← isTrue c env (eval c env)
                pure (ForInStep.yield ok)) else pure (ForInStep.yield r)) (fun ok s4 =>
              if ok=true then
                wpAny (model prog w) A (eval elt env) (fun x s5=>wpAny (model prog w) A (call (.builtin "list.append") [acc,x]) (fun _ s6=>∃ m,m<n∧J m s6) (fun _ _=>False) s5) Ex s4
              else ∃ m,m<n∧J m s4) (fun _ _=>False) s3) (fun _ _=>False) s2) (fun _ _=>False) s1) (fun _ _=>False) s)
    (n:Nat) (h:J n s):codeAny (model prog w) A (.compLoop (.ListComp elt [⟨tg,iter,ifs,0⟩] scope pos) 0 it acc env) R s:=by
  refine codeAny_loop rfl J (fun n s hJ=>?_) n h
  show wpAny _ A (Sem.onRaise (compTurn (.ListComp elt [⟨tg,iter,ifs,0⟩] scope pos) 0 it acc env) (fun x=>do noteFrame x env; theTreesLotGoes x)) _ _ s
  refine wpAny_noted ?_
  rw [compTurn_list]
  refine wpAny_bind (wpAny_standAt (wpAny_bind (wpAny_mono (turn n s hJ) (fun r s1 h1=>?_) fun _ _ z=>z.elim)))
  cases r with
  | none=>exact wpAny_pure h1
  | some v =>
    refine wpAny_bind (wpAny_mono h1 (fun _ s2 h2=>?_) fun _ _ z=>z.elim)
    refine wpAny_bind (wpAny_mono h2 (fun _ s3 h3=>?_) fun _ _ z=>z.elim)
    refine wpAny_bind (wpAny_mono h3 (fun ok s4 h4=>?_) fun _ _ z=>z.elim)
    cases ok with
    | false=>exact wpAny_pure ⟨rfl,h4⟩
    | true =>
      refine wpAny_bind (wpAny_bind (wpAny_mono h4 (fun x s5 h5=>?_) fun x s' hx=>hE x s' hx))
      exact wpAny_bind (wpAny_mono h5 (fun _ s6 h6=>wpAny_pure (wpAny_pure ⟨rfl,h6⟩)) fun _ _ z=>z.elim)
end
theorem inv_wish {X:Cx} {F:Value→Shared→Prop} {pins:List (Addr×Obj)} {σ:L2.St} {H:Hp} {s:Shared} (I:Inv X pins σ H s):Inv (X.wish F) pins σ H s :=
  ⟨⟨I.ok.mod,I.ok.kind,I.ok.glob,I.ok.blt,I.ok.above,I.ok.inj,I.ok.has,I.ok.cab,I.ok.hd,I.ok.frames,I.ok.stk,I.ok.exf,I.ok.bs,I.ok.bsz,I.ok.noex,I.ok.exfs,I.ok.funs,I.ok.frf⟩,I.os,I.bare,I.base,I.loc,I.cell,I.free,I.freeC,I.pin,I.hok,I.len⟩
theorem unwish {X:Cx} {F:Value→Shared→Prop} {pins:List (Addr×Obj)} {σ:L2.St} {H:Hp} {s:Shared} (I:Inv (X.wish F) pins σ H s):Inv X pins σ H s :=
  ⟨⟨I.ok.mod,I.ok.kind,I.ok.glob,I.ok.blt,I.ok.above,I.ok.inj,I.ok.has,I.ok.cab,I.ok.hd,I.ok.frames,I.ok.stk,I.ok.exf,I.ok.bs,I.ok.bsz,I.ok.noex,I.ok.exfs,I.ok.funs,I.ok.frf⟩,I.os,I.bare,I.base,I.loc,I.cell,I.free,I.freeC,I.pin,I.hok,I.len⟩
end Nd
namespace Nd
open PySem PySem.Spec PyProof.Rows L2
section
variable {M:Model} {A:Around} {E:Value→Shared→Prop} {s:Shared} {env:Env}
def postU (M:Model) (A:Around) (E:Value→Shared→Prop) (u:Value→Sem Unit) (Q:Value→Shared→Prop) (acc:Value) (cenv:Env) (r:Result) (s':Shared):Prop:=match r with
  | .ok _=>wpAny M A (u acc) (fun _ s''=>∃ m,s''.heap.Ns cenv.locals m∧∀ h',Heap.SameBut cenv.locals s''.heap h'→Q .none { s'' with heap:=h' }) E s'
  | .error x=>∃ m,s'.heap.Ns cenv.locals m∧∀ h',Heap.SameBut cenv.locals s'.heap h'→wpAny M A (PySem.passOn "comprehension.variables-let-go" x cenv:Sem Value) (fun _ _=>False) E { s' with heap:=h' }
theorem comprehensionU {u:Value→Sem Unit} {e:Expr} {scope:Scope} {pos:Pos} {newAcc first:Sem Value} {g:Comprehension} {gs:List Comprehension} {cl:List (Str×Addr)} {Q:Value→Shared→Prop} (hcl:clausesOf e=g::gs) (hs:∀ x,foldedSetIterable g.iter env x=pure x) (hclos:closureFor scope env=pure cl) (hkind:scope.kind=.function) (hnames:∀ x∈scope.names,x.2=.local→scope.names.lookup x.1=some .local) (h:wpAny M A first (fun x s₁=>wpAny M A (pyIter x) (fun it s₂=>wpAny M A newAcc (fun acc s₃=>wpAny M A (newFunctionEnv scope env.globals cl [] env.qual none .none (some env)) (fun cenv s₄=>codeAny M A (.compStart e 0 it acc { cenv with scope:=relabel scope env }) (postU M A E u Q acc { cenv with scope:=relabel scope env }) s₄) E s₃) E s₂) E s₁) E s):wpAny M A (comprehension e scope env pos newAcc false first (some u)) Q E s:=by
  unfold comprehension
  rw [hclos,hcl]
  refine wpAny_bind (wpAny_mono h (fun x s₁ h₁=>wpAny_bind (wpAny_standAt (wpAny_bind (wpAny_of_eq (hs x) (wpAny_bind (wpAny_holding (wpAny_mono h₁ (fun it s₂ h₂ =>
    wpAny_standIf (wpAny_bind (wpAny_mono h₂ (fun acc s₃ h₃=>wpAny_bind (wpAny_pure (wpAny_bind (wpAny_mono h₃ (fun cenv s₄ h₄=>?_) fun _ _ h'=>h')))) fun _ _ h'=>h')))
      fun _ _ h'=>h'))))))) fun _ _ h'=>h')
  dsimp only
  have hv:∀ x∈(scope.names.filter fun x=>(x.2 == .local || x.2 == .cell) && x.1 != (".0" : Str)).reverse,x.2=.local →
      Env.kindOf { cenv with scope:=relabel scope env } x.1=some .local:=fun x hx hl=>lookup_relabel_local (hnames x (List.mem_filter.mp (List.mem_reverse.mp hx)).1 hl)
  have hv':∀ x∈(scope.names.filter fun x=>(x.2 == .local || x.2 == .cell) && x.1 != (".0" : Str)).reverse.drop 1++(scope.names.filter fun x=>(x.2 == .local || x.2 == .cell) && x.1 != (".0" : Str)).reverse.take 1,
      x.2=.local→Env.kindOf { cenv with scope:=relabel scope env } x.1=some .local:=fun x hx hl=>by
    rcases List.mem_append.mp hx with h1 | h1
    · exact hv x (List.mem_of_mem_drop h1) hl
    · exact hv x (List.mem_of_mem_take h1) hl
  refine wpAny_holding (wpAny_bind (wpAny_attempt (wpAny_holding (wpAny_run (codeAny_mono h₄ fun r s' hr=>?_)))))
  cases r with
  | ok f =>
    refine wpAny_bind (wpAny_rule (wpAny_bind (wpAny_holding (wpAny_mono hr (fun _ s'' hr'=>?_) fun _ _ h'=>h'))))
    obtain ⟨m,hn,hr'⟩:=hr'
    exact wpAny_bind (wpAny_comp_letGo (cenv:={ cenv with scope:=relabel scope env }) hkind _ s'' m hv' hn fun h' m' _ hs'=>wpAny_pure (hr' h' hs'))
  | error x =>
    obtain ⟨m,hn,hr⟩:=hr
    exact wpAny_bind (wpAny_holding (wpAny_comp_letGo (cenv:={ cenv with scope:=relabel scope env }) hkind _ s' m hv hn fun h' m' _ hs'=>wpAny_mono (hr h' hs') (fun _ _ f=>f.elim) fun _ _ y=>y))
end
section
variable {P:Program} {w:World} {K:PySem.W.Frag} {mg:Str→Option Value} {base:Heap} {N:List Str} {qual:Str} {scopeD:Scope} {f:Addr} {cd:Value} {A:Around} {outer:List Env} {sD:Shared} {HD:Hp} {E:XK}
theorem ps_setCX {X:Cx} {elt iter:Expr} {x y0:Str} {px py pos spos:Pos} {i0:Nat} {ifs:List Expr} {scope:Scope} {cl:List (Str×Addr)} {ys:List Str} {js:List Nat} {wi:TI} {tc:TT} {te:TE} (hN:X.N.Nodup) (hi0:X.N[i0]? = some y0) (hy0:X.env.scope.names.lookup y0=some .local) (hX0:X=(cxOf (CXN P w) P w K mg base N qual scopeD f cd A outer sD HD E)) (C:CompScope X scope cl x ys js) (hc:X.calm=true) (hi:PI X (.Name x px) iter wi) (ht:∀ fp s H,PTs (cxComp X scope cl (x::ys) fp s H) ifs tc) (he:∀ fp s H,BOk X.stack HD sD fp s H→PE ((cxComp X scope cl (x::ys) fp s H).wish (XeB P w X.stack HD sD E s.heap.objs.size)) elt te) (hs:∀ x,foldedSetIterable iter X.env x=pure x:=by intro _; rfl) (hsw:swapsWith (.ListComp elt [⟨.Name x px,iter,ifs,0⟩] scope pos) (some (.Name y0 py)) spos.line X.env=pure true:=by rfl):PS X (.Assign [.Name y0 py] (.ListComp elt [⟨.Name x px,iter,ifs,0⟩] scope pos) spos) (tAsg (tComp wi js tc te) (gName i0)):=by
  intro pins s σ H De I h
  have h:tComp wi js tc te σ H fun v H1=>De.nx (σ.set i0 (some v)) H1:=h
  rw [exec_Assign_Name_used _ _ _ _ hsw]
  refine wpAny_bind (wpAny_standAt (wpAny_bind ?_))
  show wpAny _ X.A (do let _ ← comprehension (.ListComp elt [⟨.Name x px,iter,ifs,0⟩] scope pos) scope X.env _ (newList []) false (eval iter X.env) (some (assign (.Name y0 py) X.env))) _ _ s
  refine wpAny_bind (wpAny_mono (comprehensionU (u:=assign (.Name y0 py) X.env) (Q:=fun _ s'=>SP X pins De .next s') rfl hs C.clos C.kind C.locs (thn (hi pins s σ H _ I h) fun v s1 h1=>thn h1 fun itv s2 h2=>?_)) (fun _ s' hq=>wpAny_pure (wpAny_pure hq)) fun _ _ e=>e)
  obtain ⟨it,fp,tn,J,H2,e,I2,T,st2,f2,q2⟩:=h2
  subst e
  have fD:H2 s2.heap.objs.size=none:=I2.hok.fresh (Nat.le_refl _)
  obtain ⟨W,⟨m0,w0⟩,turn⟩:=q2 s2.heap.objs.size fD
  refine wpAny_newObj_type ?_
  have I3:Inv X pins σ (upd H2 s2.heap.objs.size (.lst [])) { s2 with heap:=s2.heap.push { cls:=.type "list",dict:=none,data:=.seq ([]:List Value).toArray } } :=
    I2.laid (t':=s2.toks) (fun b u q=>Heap.get?_push_of_some _ q) (Nat.le_refl _) ⟨Nat.zero_le _,[],0,.nil,Heap.get?_push_size _ rfl⟩
  have nfp:∀ b∈fp,b≠s2.heap.objs.size:=fun b hb z=>by
    obtain ⟨o,q,_⟩:=T.obj _ _ st2 b hb
    have:=Heap.lt_size q
    rw [z] at this
    exact absurd this (Nat.lt_irrefl _)
  have f3:∀ b∈fp,FpOk X pins (upd H2 s2.heap.objs.size (.lst [])) b:=fun b hb=>⟨by rw [upd_ne (nfp b hb)]; exact (f2 b hb).1,(f2 b hb).2⟩
  generalize hS3:({ s2 with heap:=s2.heap.push { cls:=.type "list",dict:=none,data:=.seq ([]:List Value).toArray } }:Shared)=s3 at I3
  have st3:tn 0 s3.heap:=T.keep 0 _ _ st2 fun b hb o q=>by rw [← hS3]; exact Heap.get?_push_of_some _ q
  have o3:∀ b∈fp,∃ o,s3.heap.get? b=some o:=fun b hb=>let ⟨o,q,_⟩:=T.obj _ _ st3 b hb; ⟨o,q⟩
  show wpAny _ _ (newFunctionEnv scope X.env.globals cl [] X.env.qual none .none (some X.env)) _ _ _
  refine new_block C fun h4 hns4 keep4 new4=>?_
  have I4:∀ tk,Inv (cxComp X scope cl (x::ys) fp s3 (upd H2 s2.heap.objs.size (.lst []))) [] (none::frees σ js) (upd H2 s2.heap.objs.size (.lst [])) { s3 with heap:=h4,toks:=tk }:=fun tk=>comp_start (pre:=[x]) C I3 f3 o3 hns4 keep4 new4
  have st4:tn 0 h4:=T.keep 0 _ _ st3 fun b hb o q=>keep4 b o q
  generalize hX':cxComp X scope cl (x::ys) fp s3 (upd H2 s2.heap.objs.size (.lst []))=X' at I4
  have eP:X'.prog=X.prog:=by rw [← hX']; rfl
  have eW:X'.w=X.w:=by rw [← hX']; rfl
  have eK:X'.K=X.K:=by rw [← hX']; rfl
  have eA:X'.A=X.A:=by rw [← hX']; rfl
  have eC:X'.calm=true:=by rw [← hX']; exact hc
  have stat:∀ {H':Hp},(∀ b∈fp,H' b=none)→∀ b∈fp,FpOk X' [] H' b:=fun {H'} hn b hb=>by
    have ok:=(I4 0).ok
    have hex:b∈X'.ex:=by rw [← hX']; exact hb
    exact ⟨hn b hb,(ok.exf b hex).1,ok.exfs b hex,.inl hex,(ok.exf b hex).2,fun p hp=>by rw [← hX'] at hp; cases (show p∈([]:List (Addr×Obj)) from hp)⟩
  have b0:BOk X.stack HD sD fp s3 (upd H2 s2.heap.objs.size (.lst [])):=by
    subst hX0
    have hb:Un (frs outer) [] HD (upd H2 s2.heap.objs.size (.lst [])) sD.heap s3.heap:=I3.base
    have nL:∀ b o,sD.heap.get? b=some o→b∈frs (envOfC qual scopeD sD.heap.objs.size f cd::outer)→b∈frs outer:=fun b o e1 hm=>by
      rcases mem_frs (L:=sD.heap.objs.size) rfl hm with z | z
      · exact absurd (Heap.lt_size e1) (by rw [z]; exact Nat.lt_irrefl _)
      · exact z
    have up:∀ b,b∈frs outer→b∈frs (envOfC qual scopeD sD.heap.objs.size f cd::outer):=fun b hm=>by
      obtain ⟨x,hx',hf⟩:=List.mem_filterMap.mp hm
      exact List.mem_filterMap.mpr ⟨x,List.mem_cons_of_mem _ hx',hf⟩
    refine ⟨I3.os,⟨fun b o q n hn hx=>hb.keep b o q n (fun z=>hn (up b z)) hx,fun b o q n hm hx=>hb.slot b o q n (nL b o q hm) hx,hb.free,hb.there,hb.tups,hb.frzs,hb.tbls⟩,fun b hb'=>?_⟩
    rcases (f3 b hb').2.2.2.1 with z | z
    · exact absurd z (fun z=>nomatch z)
    · exact z
  have hout:∀ (ev:Value) (s':Shared),XeB P w X.stack HD sD E s3.heap.objs.size ev s'→notedBy (model X.prog X.w) X.A (compEnvC scope (cellsFrom (s3.heap.objs.size+1) scope.names cl) s3.heap.objs.size X.env) (fun x s'=>postU (model X.prog X.w) X.A X.xe (assign (.Name y0 py) X.env) (fun _ s'=>SP X pins De .next s') (.ref s2.heap.objs.size) (compEnvC scope (cellsFrom (s3.heap.objs.size+1) scope.names cl) s3.heap.objs.size X.env) (.error x) s') ev s':=by
    intro ev s' hx
    subst hX0
    have hCb:sD.heap.objs.size<s3.heap.objs.size:=by
      obtain ⟨m,hm,_⟩:=I3.loc
      exact (show s3.heap.Ns sD.heap.objs.size m from hm).lt
    exact block_out (K:=K) (mg:=mg) (base:=base) (N:=N) I3.ok.frames hCb hx
  have loop:∀ s5:Shared,s5={ s3 with heap:=h4,toks:=s3.toks+([]:List (Str×Value)).length } →
      codeAny (model X.prog X.w) X.A (.compLoop (.ListComp elt [⟨.Name x px,iter,ifs,0⟩] scope pos) 0 (.ref it) (.ref s2.heap.objs.size) (compEnvC scope (cellsFrom (s3.heap.objs.size+1) scope.names cl) s3.heap.objs.size X.env))
        (postU (model X.prog X.w) X.A X.xe (assign (.Name y0 py) X.env) (fun _ s'=>SP X pins De .next s') (.ref s2.heap.objs.size) (compEnvC scope (cellsFrom (s3.heap.objs.size+1) scope.names cl) s3.heap.objs.size X.env)) s5:=by
    rintro s5 rfl
    refine comp_turnsX (Ex:=XeB P w X.stack HD sD E s3.heap.objs.size) (fun n s'=>∃ i o H',Inv X' [] (o::frees σ js) H' s'∧tn i s'.heap∧(∀ b∈fp,H' b=none)∧W i n H') (fun ev s' hx=>?_) ?_ m0
      ⟨0,none,_,I4 _,st4,fun b hb=>(f3 b hb).1,w0⟩
    · exact hout ev s' hx
    rintro n s6 ⟨i,o,H6,I6,st6,fr6,w6⟩
    rcases turn i n H6 w6 with ⟨stop,qn⟩ | ⟨go,step⟩
    · have hd:=T.done X' eP eW eK eC i [] s6 _ H6 (fun _ _=>False) I6 (stat fr6) st6 stop
      rw [eA] at hd
      refine thn hd fun r s7 ⟨hr,I7⟩=>?_
      subst hr
      obtain ⟨m7,hn7,_⟩:=I7.loc
      have hn7':s7.heap.Ns s3.heap.objs.size m7:=by rw [← hX'] at hn7; exact hn7
      have I7f:H6 s3.heap.objs.size=none:=by have:=I7.free; rw [← hX'] at this; exact this
      have b7:Un (frs X.stack) fp (upd H2 s2.heap.objs.size (.lst [])) H6 s3.heap s7.heap:=by have:=I7.base; rw [← hX'] at this; exact this
      have os7:s7.os=s3.os:=by have:=I7.os; rw [← hX'] at this; exact this
      have hok7:HOk X.prog X.w H6 s7.heap:=by have:=I7.hok; rw [eP,eW] at this; exact this
      have J7:Inv X pins σ H6 s7:=I3.call' (s':=s7) (ch:=fp) os7 b7 hok7 I7.bare (fun b hb=>⟨(f3 b hb).2.2.2.1,(f3 b hb).2.1,(f3 b hb).2.2.2.2.1,(f3 b hb).2.2.2.2.2⟩)
      have fC:FpOk X pins H6 s3.heap.objs.size:=I3.fpOk (Nat.le_refl _) I7f
      obtain ⟨oC,esC,epC,hoC,rC⟩:=id hn7'
      have J8:Inv X (pins++[(s3.heap.objs.size,oC)]) σ H6 s7:=J7.pins_of fun p hp=>by
        rcases List.mem_append.mp hp with z | z
        · have q:=J7.pin p (List.mem_append_right _ z)
          exact q
        · rw [List.mem_singleton.mp z]
          exact ⟨hoC,I7f,fC.2.1,fC.2.2.1,fun v hv=>by rw [rC.1] at hv; cases hv⟩
      refine thn (pg_name (X:=X) (i:=i0) (x:=y0) (pos:=py) hN hi0 (.inl hy0) (.inr hy0) (pins++[(s3.heap.objs.size,oC)]) s7 σ H6 (.ref s2.heap.objs.size) (.ref s2.heap.objs.size) (fun σ' H'=>σ'=σ.set i0 (some (.ref s2.heap.objs.size))∧H'=H6) J8 rfl ⟨rfl,rfl⟩) fun _ s9 ⟨σ9,H9,I9,e9,e9'⟩=>?_
      subst e9 e9'
      have hoC9:=(I9.pin (s3.heap.objs.size,oC) (List.mem_append_right _ (List.mem_append_right _ List.mem_cons_self))).1
      have I9':Inv X pins (σ.set i0 (some (.ref s2.heap.objs.size))) H9 s9:=I9.pins_of fun p hp=>I9.pin p (List.mem_append_right _ (List.mem_append_left _ hp))
      refine ⟨m7,hn7'.at fun o e=>by rw [hoC] at e; cases e; exact hoC9,fun h10 hs10=>?_⟩
      exact ⟨_,H9,turnedL (t':=s9.toks) (fp:=[s3.heap.objs.size]) I9' (fun b o hb e=>(hs10.2 b (fun z=>hb (by rw [z]; exact List.mem_cons_self))).trans e) (fun b hb=>by rw [List.mem_singleton.mp hb]; exact fC),qn⟩
    · have hit:=T.item X' eP eW eK eC i [] s6 _ H6 (fun _ _=>False) I6 (stat fr6) st6 go
      rw [eA] at hit
      refine thn hit fun r s7 ⟨u,hr,h7⟩=>?_
      subst hr
      refine thn h7 fun _ s8 ⟨y,H8,I8,r8,y8,st8,fr8⟩=>?_
      have I8':=I8.pinned (stat fr8) (T.obj _ _ st8)
      obtain ⟨N1,N2,hN1,hN2,hst⟩:=step y H8 y8
      have again:∀ {H9:Hp} {s9:Shared} {m':Nat},Inv X' ([]++pinsAt fp s8.heap) (some y::frees σ js) H9 s9→m'<n→W (i+1) m' H9→∃ m,m<n∧∃ i o H',Inv X' [] (o::frees σ js) H' s9∧tn i s9.heap∧(∀ b∈fp,H' b=none)∧W i m H':=fun {H9 s9 m'} I9 hm w9=>by
        refine ⟨m',hm,i+1,some y,H9,I9.unpinned,T.keep _ _ _ st8 fun b hb o e=>(I9.pin (b,o) (List.mem_append_right _ (List.mem_append_right _ (mem_pinsAt hb e)))).1,fun b hb=>?_,w9⟩
        obtain ⟨o,e,_⟩:=T.obj _ _ st8 b hb
        exact (I9.pin (b,o) (List.mem_append_right _ (List.mem_append_right _ (mem_pinsAt hb e)))).2.1
      subst hX'
      refine thn (pg_name (i:=0) (x:=x) (pos:=px) C.nd rfl (own_loc C.own) (own_fn C.own) _ s8 _ H8 y u (fun σ' H'=>σ'=some y::frees σ js∧H'=H8) I8' r8 ⟨rfl,rfl⟩) fun _ s9 ⟨σ9,H9,I9,e9,e9'⟩=>?_
      subst e9 e9'
      refine thn (ht fp s3 _ _ s9 _ _ _ I9 hst) fun ok s10 ⟨H10,I10,q10⟩=>?_
      cases ok with
      | false =>
        rw [if_neg Bool.false_ne_true] at q10 ⊢
        obtain ⟨m',hm,w10⟩:=hN1 _ q10
        exact again I10 hm w10
      | true =>
        rw [if_pos rfl] at q10 ⊢
        refine thn (he fp s3 _ b0 _ s10 _ _ _ (inv_wish I10) q10) fun z s11 ⟨vz,H11,I11',r11,q11⟩=>?_
        have I11:=unwish I11'
        obtain ⟨acc,ha,hz,m',hm,w11⟩:=hN2 _ _ q11
        refine thn (mt_append _ s11 _ H11 (.ref s2.heap.objs.size) [vz] (.ref s2.heap.objs.size) [z] (fun _ H'=>H'=upd H11 s2.heap.objs.size (.lst (acc++[vz]))) I11 rfl (.cons r11 .nil) ⟨_,acc,vz,rfl,rfl,ha,hz,rfl⟩) fun _ s12 ⟨_,H12,I12,_,e12⟩=>?_
        subst e12
        exact again I12 hm w11
  exact codeAny_compStart_list (loop _ rfl) (T.self X.A 0 _ _ _ st4 (loop _ rfl))
end
end Nd
namespace DL
open PySem PySem.Spec PyProof.Rows L2 Nd
section
variable {K:PySem.W.Frag} {H0 H:Hp} {n:Nat} {S T:List Ent}
theorem step_leX {b:Bool} {dc:DT} {de:DE} {δ:DS} {yes:PyData→Nat→Prop} {no:Nat→Prop} {D:Addr} {G:List Addr} {acc:List PyData} {N1:Hp→Prop} {N2:VK} (hS:Sl S δ) (hb:b=true→G=[]) (hA:At K H0 (fun _=>False) δ.n (S++⟨some (.ref D),.acc acc,D::G⟩::T) H) (h:compStepG b dc de δ yes no) (hz:acc.length+1≤sizeLine) (k1:∀ n' H',At K H0 (fun _=>False) n' (⟨some (.ref D),.acc acc,D::G⟩::T) H'→no n'→N1 H') (k2:∀ e n' v H' G',(b=true→G'=[])→(∃ xs,H' D=some (.lst xs)∧xs.length=acc.length∧At K H0 (fun _=>False) n' (⟨some (.ref D),.acc (acc++[e]),D::G'⟩::T) (upd H' D (.lst (xs++[v]))))→yes e n'→N2 v H'):LT K dc (vs S) H fun c H2=>if c=true then LEX K H0 de (vs S) H2 N2 else N1 H2:=by
  refine ⟨H0,_,S,⟨some (.ref D),.acc acc,D::G⟩::T,δ,_,rfl,hS,hA,h,fun c δ2 S2 H2 e1 e2 hA2 p2=>?_⟩
  cases c with
  | false=>exact iteF (k1 _ _ (hA2.sub (List.sublist_append_right _ _)) p2)
  | true =>
    refine iteT ⟨S2,⟨some (.ref D),.acc acc,D::G⟩::T,δ2,_,e1,e2,hA2,p2,fun y δ3 v F S3 H3 e3 e4 hA3 p3=>?_⟩
    split at p3
    · rename_i m e
      have r:=hA3.told mem_mid
      cases b with
      | true =>
        obtain rfl:=r.imm p3.1
        obtain rfl:=hb rfl
        exact k2 _ _ _ _ [] (fun _=>rfl) ((hA3.drop.sub (List.sublist_append_right _ _)).accPut r hz) p3.2
      | false =>
        have hA4:At K H0 (fun _=>False) δ3.n (⟨some v,.dat m e,F⟩::⟨some (.ref D),.acc acc,D::G⟩::T) H3:=hA3.sub (List.sublist_append_right _ _)
        exact k2 _ _ _ _ (G++F) (fun z=>nomatch z) ((hA4.perm (List.Perm.swap _ _ _)).accPutG p3.1 hz) p3.2
    · exact p3.elim
theorem comp_leX {b:Bool} {di:DI} {js:List Nat} {dc:DT} {de:DE}:∀ σ H Q,LEX K H0 (dCompG b di js dc de) σ H Q→tComp (LI K di) js (LT K dc) (LEX K H0 de) σ H Q:=by
  intro σ H Q h
  obtain ⟨S,T,δ,P,rfl,hS,hA,hd,k⟩:=h
  refine ⟨H0,_,S,T,δ,_,rfl,hS,hA,hd,fun m ds δ1 J hid S1 H1 e1 e2 hA1 it hz p1=>?_⟩
  obtain ⟨I,h0,hs,hf⟩:=p1
  rw [← e1]
  intro D hD
  refine ⟨fun i q H=>q=ds.length - i∧i≤ds.length∧∃ acc n G,(b=true→G=[])∧At K H0 (fun _=>False) n (⟨some (.ref D),.acc acc,D::G⟩::(S1++(hid++T))) H∧acc.length≤i∧I i acc n,⟨ds.length,by simp,Nat.zero_le _,[],δ1.n,[],fun _=>rfl,hA1.accNew hD,Nat.le_refl _,h0⟩,?_⟩
  rintro i q H ⟨rfl,hi,acc,n,G,hG,hA2,hl,hI⟩
  have hid_ok:∀ e∈hid,EntOk K H n e:=fun e he=>hA2.ok e (List.mem_cons_of_mem _ (List.mem_append_right _ (List.mem_append_left _ he)))
  by_cases hlt:i<ds.length
  · refine .inr ⟨it.go H n i hid_ok hlt,fun x H' y=>?_⟩
    obtain ⟨s1,d,F,h1,h2,h3⟩:=it.yld H n i x H' hid_ok hlt y
    have hA3:At K H0 (fun _=>False) n ((⟨some (.ref D),.acc acc,D::G⟩::S1)++⟨some x,.dat m d,F⟩::(hid++T)) H':=At.item (S:=⟨some (.ref D),.acc acc,D::G⟩::S1) hA2 s1 h2 h3 it.md it.hd it.np
    have hA4:=hA3.mid
    have hA5:=At.view (S:=S1) hA4 (fun e he=>List.mem_cons_of_mem _ (List.mem_append_left _ (List.mem_cons_of_mem _ he))) js
    have hA6:At K H0 (fun _=>False) n ((⟨some x,.dat m d,F⟩::frE S1 js)++⟨some (.ref D),.acc acc,D::G⟩::(S1++(hid++T))) H':=hA5.mid
    have hS6:Sl (⟨some x,.dat m d,F⟩::frE S1 js) ⟨.dat m d::frD δ1.sl js,n⟩:=by
      unfold Sl
      rw [List.map_cons,sl_fr e2]
    have hv:vs (⟨some x,.dat m d,F⟩::frE S1 js)=some x::frees (vs S1) js:=by
      rw [← vs_fr]
      rfl
    refine ⟨fun H2=>∃ m',m'<ds.length - i∧_,fun y H3=>∃ acc,H3 D=some (.lst acc)∧acc.length<sizeLine∧∃ m',m'<ds.length - i∧_,fun H2 q=>q,fun y H3 q=>q,?_⟩
    rw [← hv]
    refine step_leX hS6 hG hA6 (hs i d acc n h1 hI) (by omega) (fun n' H2 hA7 p=>?_) (fun e n' v H2 G' hG' hA7 p=>?_)
    · exact ⟨ds.length - (i+1),by omega,rfl,hlt,acc,n',G,hG,hA7,by omega,p⟩
    · obtain ⟨xs,g1,g2,g3⟩:=hA7
      exact ⟨xs,g1,by omega,ds.length - (i+1),by omega,rfl,hlt,acc++[e],n',G',hG',g3,by rw [List.length_append]; simp; omega,p⟩
  · have e:i=ds.length:=by omega
    subst e
    refine .inl ⟨it.stop H n hid_ok,k _ ⟨δ1.sl,n⟩ _ (D::G) S1 H e1 e2 ?_ (hf acc n hI)⟩
    have hA3:=hA2.accGetG hG
    have hA4:At K H0 (fun _=>False) n (⟨some (.ref D),.dat (accMd b) (.list acc),D::G⟩::(S1++T)) H:=hA3.sub (((List.Sublist.refl S1).append (List.sublist_append_right hid T)).cons₂ _)
    exact hA4.tomid
end
section
variable {P:Program} {w:World} {K:PySem.W.Frag} {mg:Str→Option Value} {base:Heap} {N:List Str} {qual:Str} {scopeD:Scope} {f:Addr} {cd:Value} {A:Around} {outer:List Env} {sD:Shared} {HD H0:Hp} {E:XK}
variable {X:Cx} {elt iter:Expr} {x y0:Str} {px py pos spos:Pos} {i0:Nat} {ifs:List Expr} {scope:Scope} {cl:List (Str×Addr)} {ys:List Str} {js:List Nat} {di:DI} {dc:DT} {de:DE}
theorem dsx_setC {o:Bool} (hX0:X=cxOf (CXN P w) P w K mg base N qual scopeD f cd A outer sD HD E) (hN:X.N.Nodup) (hi0:X.N[i0]? = some y0) (hy0:X.env.scope.names.lookup y0=some .local) (C:CompScope X scope cl x ys js) (hc:X.calm=true) (hi:PID X (.Name x px) iter di) (ht:∀ fp s H,PTs (cxComp X scope cl (x::ys) fp s H) ifs (LT X.K dc)) (he:∀ fp s H,BOk X.stack HD sD fp s H→PE ((cxComp X scope cl (x::ys) fp s H).wish (XeB P w X.stack HD sD E s.heap.objs.size)) elt (LEX X.K H0 de)) (hs:∀ x,foldedSetIterable iter X.env x=pure x:=by intro _; rfl) (hsw:swapsWith (.ListComp elt [⟨.Name x px,iter,ifs,0⟩] scope pos) (some (.Name y0 py)) spos.line X.env=pure true:=by rfl):PS X (.Assign [.Name y0 py] (.ListComp elt [⟨.Name x px,iter,ifs,0⟩] scope pos) spos) (LSX X.K H0 (dAsg (dComp di js dc de) (dgN o i0))):=by
  refine PS.impD (ps_setCX hN hi0 hy0 hX0 C hc hi ht he hs hsw) fun D σ H h=>?_
  obtain ⟨S,T,δ,P,rfl,hS,hT,hA,hd,k1,k2,k3,k4⟩:=h
  have hd':dCompG true di js dc de δ (fun x δ'=>dgN o i0 x δ' P.nx):=hd
  refine comp_leX (b:=true) _ _ _ ⟨S,T,δ,_,rfl,hS,hA,hd',fun x δ' v F S' H' e1 e2 hA' p=>?_⟩
  exact n_le _ _ _ _ ⟨H0,_,S',T,δ',x,F,P.nx,e1,e2,hA',p,fun δ2 S2 H2 e3 hA2 q=>k1 δ2 S2 H2 e3 hA2 q⟩
end
end DL
namespace K63
open PySem L2 Nd DL
local macro_rules | `(tactic| array_get_dec) => do
  let ids:=(("e_seq e_skip e_ret e_if e_asg e_name e_name2 e_name3 e_name4 e_own e_nT e_nF e_gtup e_gsn e_gsc e_op e_var e_c e_imm e_immB e_take e_I e_I0 e_eqF e_eqT e_inFl e_inTl e_inFt_w1 e_inTt_w1 e_ixl e_ixt e_cat e_nlT e_nlF e_ntT e_pkOfsh e_pkOfow e_mdInpk e_mdInsh e_mdInow e_mdNewow e_mdItsh e_mdItow e_nil e_cons e_tup e_lst e_noPart e_part e_partB e_sl e_slBl e_cb e_lenl e_tuplel e_intb e_min2 e_all e_isi e_str e_v e_ss e_ssl e_b e_bB e_notT e_andT e_orT e_orTt e_orTf e_not e_notB e_and e_andt e_neg e_negB e_dL e_dTp e_lB e_tpB_w1 e_range1 e_rng1B e_enum e_enumB e_zip e_zipB e_for e_comp e_comp2 e_noTest e_step e_stepT e_yesB e_call e_callW e_draws e_drawsB e_append e_revL e_appendO e_stepK e_stepKB e_aug e_augB e_scrSl e_appI e_appIB e_callX e_raise e_compDL e_stepDL e_stepDLT e_yesBDL callXB ow_npk callB callBW tupB lstB datas pkMd allOw noPk appB appOB mmd revLB own1 npk retE retW retL args0 frD frD1 alD List.map_cons List.map_nil List.replicate List.getElem?_cons_zero List.getElem?_cons_succ List.set_cons_zero List.set_cons_succ List.cons_append List.nil_append Option.map_some List.length_cons List.length_nil List.append_nil rdAdd rdSub rdMul rdDiv rdMod rdLt rdGe if_true if_false mdZip Nat.reduceAdd Nat.reduceSub Nat.reduceLeDiff true_and im_e ima_e dp_e dpa_e any_int any_word eqD_intd eqD_str eqD_l0 ow_e tt_e cdiv_e cmul_r Int.reduceLT Int.reduceLE Int.reduceNeg and_self Int.reduceToNat fold_w isi_li isi_ib isi_ii Bool.not_true Bool.not_false String.reduceEq or_true true_or ifB_lt ifB_lf str_self Int.reduceEq atI_0 some_e catL_show catL_shtp" : String).splitOn " ").toArray.map fun (x:String)=>Lean.mkIdent x.toName
  `(tactic| try simp only [$[$ids:ident],*])
section
variable {P:Program} {w:World} {K:PySem.W.Frag} {mg:Str→Option Value} {base:Heap}
theorem sc_within:FnScope ["one", "other"] ["one", "other"] (defScope s_within):=⟨rfl,rfl,rfl,by decide +kernel,rfl,by decide +kernel,by decide +kernel⟩
theorem ok_within {f   : Addr} {fd  : FuncData} (F:Fun K "within" "within" s_within f fd) (mz_all:mg "all" = none):FnOk P w K mg base CX0 1 f fd ["one", "other"] (SpP K (pfIn)):=by
  refine' fn_pure (k:=0) F sc_within (fun cdv A outer s H E hr=>?hb) ?h
  case hb =>
    have hu64:=hr.units
    have CS1:∀ {scope:Scope} (h:scope={ kind:=.function,names:=[(".0",.local),("place",.local),("other",.free)],isGenerator:=false,isCoroutine:=false }),
        CompScope (cxOf CX0 P w K mg base ["one", "other"] "within" (defScope s_within) f cdv A outer s H E).nox scope [("other",s.heap.objs.size+1)] "place" ["other"] [1]:=by
      rintro scope rfl
      refine ⟨by rfl,.inl (by decide +kernel),by rfl,by decide +kernel,.inl rfl,fun y c h=>?_,by rfl,by decide +kernel,rfl,fun k y j e1 e2=>?_⟩
      · have z:=lookup_mem h
        simp only [List.mem_cons,List.not_mem_nil,or_false,Prod.mk.injEq] at z
        obtain ⟨rfl,rfl⟩:=z; rfl
      · match k,e1,e2 with
        | 0,e1,e2=>cases e1; cases e2; exact ⟨rfl,rfl,by first | exact .inl rfl | exact .inr rfl⟩
        | k+1,e1,e2=>cases e1
    exact ds_one (ds_ret (dp_callB (call_all rfl) cs_all rfl mz_all (by decide +kernel) (dpa_cons (dp_comp (CS1 rfl) rfl (dit (dp_var (pv 0))) (fun _ _ _=>dts_none) (fun _ _ _=>dp_in hu64 (dp_var (pv 0)) (dp_var (pv 1)))) dpa_nil)))
  case h =>
    rintro ds R ⟨a,b,rfl,hR⟩
    refine ⟨rfl,?_⟩
    array_get_dec
    refine compM (l:=a) (g:=PyData.int) rfl (fun i=>.bool (decide (i∈b))) (fun i _ yes no hy=>?_) ?_
    · array_get_dec
      exact hy
    · array_get_dec
      refine ⟨a.map fun i=>decide (i∈b),by rw [List.map_map]; rfl,?_⟩
      rw [List.all_map]
      exact hR
theorem scTg:FnScope ["one", "other"] ["one", "other"] (defScope s_together):=⟨rfl,rfl,rfl,by decide +kernel,rfl,by decide +kernel,by decide +kernel⟩
theorem ok_together {f:Addr} {fd:FuncData} (F:Fun K "together" "together" s_together f fd) (mT:mg "tuple" = none) (mS:mg "sorted" = none) (mE:mg "set" = none):FnOk P w K mg base CX0 1 f fd ["one", "other"] (spTog K):=by
  refine F.ok scTg (fun vs H Q E h=>?_) (fun cdv A outer s H vs Q E hr h=>?_)
  · obtain ⟨a,b,ns,ms,rfl,_⟩:=h
    rfl
  obtain ⟨a,b,ns,ms,rfl,hA,hB,rn,rm,q⟩:=h
  refine ⟨_,pss_one (ps_ret (pe_callTy call_tuple_of rfl mT (by decide +kernel) (pa_cons (pe_callB (r:=rSorted w) (call_sortedS rfl) rfl mS (by decide +kernel) (pa_cons
    (pe_op (r:=rOr w) op_setOr (pe_callTy (r:=rSet w K) (call_set rfl) rfl mE (by decide +kernel) (pa_cons (pv 0) pa_nil)) (pe_callTy (r:=rSet w K) (call_set rfl) rfl mE (by decide +kernel) (pa_cons (pv 1) pa_nil))) pa_nil)) pa_nil))),?_⟩
  refine ⟨_,rfl,a,ns,U60,rfl,hA,(by show U60.length≤62; decide),among rn,fun p1 n1=>?_⟩
  have s1:=same_new n1 (SetO w p1 ns)
  refine ⟨_,rfl,b,ms,U60,rfl,Same.tup s1 hB,(by show U60.length≤62; decide),among rm,fun p2 n2=>?_⟩
  have s2:=same_new n2 (SetO w p2 ms)
  refine ⟨p1,p2,ns,ms,U60,rfl,rfl,ne_of_none upd_same n2,s2 _ _ upd_same,upd_same,(by show U60.length≤62; decide),among rn,among rm,fun p3 n3=>?_⟩
  have s3:=same_new n3 (SetO w p3 (ns++ms))
  refine ⟨p3,_,rfl,upd_same,fun p4 ts n4 nd pw mem=>?_⟩
  have s4:=same_new n4 (.lst (ts.map V.int))
  refine ⟨p4,_,rfl,.inl ⟨SqL.of upd_same,fun p5 n5=>?_⟩⟩
  have s5:=same_new n5 (.tup (ts.map V.int))
  have sA:=((s1.trans s2).trans (s3.trans s4))
  exact q p5 ts _ (sA.free n5) upd_same nd pw mem (sA.trans s5)
theorem ok_togetherD {f:Addr} {fd:FuncData} (F:Fun K "together" "together" s_together f fd) (mT:mg "tuple" = none) (mS:mg "sorted" = none) (mE:mg "set" = none):FnOk P w K mg base CX0 1 f fd ["one", "other"] (SpP K pfTog):=tog_ok (ok_together F mT mS mE)
end
structure Fld where
  nm:Str
  ct:Int
  cd:List (List Int)
def Fld.d (f:Fld):PyData:=.tuple [.str f.nm,.int f.ct,.list (f.cd.map wordD)]
def FOk (f:Fld):Prop:=(reprText f.nm).length≤12∧0≤f.ct∧f.ct≤60∧f.cd.length≤40∧∀ w∈f.cd,Rising 60 w
def layD (fs:List Fld):PyData:=.list (fs.map Fld.d)
instance {f:Fld}:Dp f.d 3:=⟨(inferInstance:Dp (.tuple [.str f.nm,.int f.ct,.list (f.cd.map wordD)]) 3).h⟩
instance {fs:List Fld}:Dp (layD fs) 4:=⟨(inferInstance:Dp (.list (fs.map Fld.d)) 4).h⟩
def begM (fs:List Fld):List Int:=(List.range fs.length).map fun i=>((fs.take i).map Fld.ct).sum
theorem word_fits {w:List Int} (r:Rising 60 w):Fits 12 (wordD w):=by
  unfold wordD
  rw [Fits,fitsAll_iff]
  intro x hx
  obtain ⟨i,hi,rfl⟩:=List.mem_map.mp hx
  have:=r.2 i hi
  rw [Fits]
  omega
theorem lay_fits {fs:List Fld} (h:∀ f∈fs,FOk f):Fits 12 (layD fs):=by
  unfold layD
  rw [Fits,fitsAll_iff]
  intro x hx
  obtain ⟨f,hf,rfl⟩:=List.mem_map.mp hx
  obtain ⟨h1,h2,h3,h4,h5⟩:=h f hf
  unfold Fld.d
  rw [Fits,FitsAll,FitsAll,FitsAll,FitsAll,Fits,Fits,Fits,fitsAll_iff]
  refine ⟨h1,by omega,fun y hy=>?_,trivial⟩
  obtain ⟨w,hw,rfl⟩:=List.mem_map.mp hy
  exact word_fits (h5 w hw)
def pfBegins:PF:=fun ds R=>∃ fs:List Fld,ds=[layD fs]∧fs.length≤1000∧R (.list ((begM fs).map PyData.int))
section
variable {P:Program} {w:World} {K:PySem.W.Frag} {mg:Str→Option Value} {base:Heap}
theorem sc_begins:FnScope ["layout", "told", "begin", "name", "count", "code"] ["layout"] (defScope s_begins):=⟨rfl,rfl,rfl,by decide +kernel,rfl,by decide +kernel,by decide +kernel⟩
theorem ok_begins {f   : Addr} {fd  : FuncData} (F:Fun K "begins" "begins" s_begins f fd):FnOk P w K mg base CX0 1 f fd ["layout"] (SpP K (pfBegins)):=by
  refine' fn_pure (k:=0) F sc_begins (fun cdv A outer s H E hr=>?hb) ?h
  case hb =>
    have hu64:=hr.units
    exact ds_cons (ds_setO (i:=1) sc_begins.nd rfl (Or.inl rfl) (dp_lst dpa_nil))
      (ds_cons (ds_set (i:=2) sc_begins.nd rfl (Or.inl rfl) dp_int)
      (ds_cons (ds_for PassesOwn.never rfl (dil (dp_var (pv 0))) (dg_tup (n:=3) rfl (dgs_cons (dg_name (i:=3) sc_begins.nd rfl (Or.inl rfl)) (dgs_cons (dg_name (i:=4) sc_begins.nd rfl (Or.inl rfl)) (dgs_cons (dg_name (i:=5) sc_begins.nd rfl (Or.inl rfl)) dgs_nil))))
      (ds_cons (ds_append (pv 1) (dp_var (pv 2)))
        (ds_one (ds_iadd (i:=2) sc_begins.nd rfl (Or.inl rfl) (dp_var (pv 4))))))
      (ds_one (ds_ret (dp_take (pv 1))))))
  case h =>
    rintro ds R ⟨fs,rfl,lf,hR⟩
    refine ⟨rfl,?_⟩
    unfold layD
    array_get_dec
    refine forI (l:=fs) (g:=Fld.d) rfl (fun i δ=>∃ v3 v4 v5:DV,δ=⟨[.dat .sh (.list (fs.map Fld.d)),.dat .ow (.list (((List.range i).map fun i=>((fs.take i).map Fld.ct).sum).map PyData.int)),.dat .sh (.int ((fs.take i).map Fld.ct).sum),v3,v4,v5],0⟩∧NP v3∧NP v4∧NP v5) ?_ ?_ ?_
    · exact ⟨_,_,_,rfl,np_un,np_un,np_un⟩
    · rintro i f _ hf ⟨v3,v4,v5,rfl,hv3,hv4,hv5⟩
      have hi:=(List.getElem?_eq_some_iff.mp hf).1
      unfold Fld.d
      array_get_dec
      refine ⟨by rw [List.length_map,List.length_map,List.length_range]; omega,?_⟩
      refine ⟨.dat .sh (.str f.nm),.dat .sh (.int f.ct),.dat .sh (.list (f.cd.map wordD)),ds_eq ?_ rfl,np_sh,np_sh,np_sh⟩
      rw [List.range_succ,List.map_append,List.map_append,List.take_succ,hf]
      rw [show ((some f).toList)=[f] from rfl,List.map_append,List.sum_append]
      simp [Fld.d]
    · rintro _ ⟨v3,v4,v5,rfl,hv3,hv4,hv5⟩
      array_get_dec
      exact hR
end
def dfSmall:DF:=fun ds n R=>∃ h:Int,ds=[.int h]∧0<h∧h≤60∧n≤90000∧∀ ns,Rising h ns→R (wordD ns) (n+1)
def pfWhole:PF:=fun ds R=>∃ i:Int,ds=[.int i]∧R (.bool true)
abbrev Val:=Str×Nat
def valD (v:Val):PyData:=.tuple [.str v.1,.int (v.2:Int)]
def valsD (vs:List Val):PyData:=.list (vs.map valD)
def cardsD (cs:List (List Val)):PyData:=.list (cs.map valsD)
def plcM:List Fld→Int→Val→Option (List Int)
  | [],_,_=>none
  | f::fs,b,v=>if f.nm=v.1 then (f.cd[v.2]?).map (fun w=>w.map (b + ·)) else plcM fs (b+f.ct) v
def plc (fs:List Fld) (v:Val):List Int:=(plcM fs 0 v).getD []
def wrM (fs:List Fld) (vs:List Val):List Int:=sset (vs.flatMap (plc fs))
def LOk (fs:List Fld):Prop:=fs.length≤8∧(∀ f∈fs,FOk f∧∀ w∈f.cd,Rising f.ct w)∧(fs.map Fld.ct).sum≤60
def foundM (cs:List (List Val)) (q:List Val):List Nat:=(cs.zipIdx.filter fun p=>q.all fun v=>decide (v∈p.1)).map (·.2)
def wrongM (fs:List Fld) (cs:List (List Val)) (q:List Val):List Nat:=(cs.zipIdx.filter fun p=>!(q.all fun v=>decide (v∈p.1)) && sub (wrM fs q) (wrM fs p.1)).map (·.2)
def natsD (l:List Nat):PyData:=.list (l.map fun i:Nat=>PyData.int (i:Int))
instance {l:List Nat}:Dp (natsD l) 1:=⟨(inferInstance:Dp (.list (l.map fun i:Nat=>PyData.int (i:Int))) 1).h⟩
theorem eqD_val (a b:Val):eqD (valD a) (valD b)=decide (a=b):=by
  unfold valD
  rw [eqD_tup,eqDs_cons,eqDs_cons,eqDs_nil,eqD_str,eqD_intd]
  rw [Bool.eq_iff_iff]
  simp only [Bool.and_true,Bool.and_eq_true,decide_eq_true_eq,beq_iff_eq]
  constructor
  · rintro ⟨h1,h2⟩
    exact Prod.ext h1 (by omega)
  · rintro rfl
    exact ⟨rfl,rfl⟩
theorem any_val (l:List Val) (v:Val):((l.map valD).any fun e=>eqD e (valD v))=decide (v∈l):=(any_map eqD_val l v).trans (decide_eq_decide.mpr Iff.rfl)
instance {v:Val}:Im (valD v):=⟨by unfold valD; simp [imm,immAll]⟩
instance {v:Val}:Dp (valD v) 1:=⟨by unfold valD; simp [PyData.depth,PyData.depthAll]⟩
section
variable {P:Program} {w:World} {K:PySem.W.Frag} {mg:Str→Option Value} {base:Heap}
theorem sc_is_whole:FnScope ["thing"] ["thing"] (defScope s_is_whole):=⟨rfl,rfl,rfl,by decide +kernel,rfl,by decide +kernel,by decide +kernel⟩
theorem ok_is_whole {f   : Addr} {fd  : FuncData} (F:Fun K "is_whole" "is_whole" s_is_whole f fd) (mz_bool:mg "bool" = none) (mz_isinstance:mg "isinstance" = none) (mz_int:mg "int" = none):FnOk P w K mg base CX0 1 f fd ["thing"] (SpP K (pfWhole)):=by
  refine' fn_pure (k:=0) F sc_is_whole (fun cdv A outer s H E hr=>?hb) ?h
  case hb =>
    have hu64:=hr.units
    exact ds_one (ds_ret (dp_and (dp_callB isi_ok cs_isi rfl mz_isinstance (by decide +kernel) (dpa_cons (dp_var (pv 0)) (dpa_cons (dp_ty (n := "int") rfl mz_int (by decide +kernel)) dpa_nil))) (dp_one (dp_not (dp_callB isi_ok cs_isi rfl mz_isinstance (by decide +kernel) (dpa_cons (dp_var (pv 0)) (dpa_cons (dp_ty (n := "bool") rfl mz_bool (by decide +kernel)) dpa_nil)))))))
  case h =>
    rintro ds R ⟨i,rfl,hR⟩
    refine ⟨rfl,?_⟩
    array_get_dec
    exact hR
end
theorem zip_beg {fs:List Fld} {i:Nat} {p:Int×Fld} (h:((begM fs).zip fs)[i]? = some p):fs[i]? = some p.2∧p.1=((fs.take i).map Fld.ct).sum:=by
  obtain ⟨h1,h2⟩:=List.getElem?_zip_eq_some.mp h
  refine ⟨h2,?_⟩
  unfold begM at h1
  rw [List.getElem?_map] at h1
  have hi:=(List.getElem?_eq_some_iff.mp h2).1
  rw [List.getElem?_eq_getElem (by rw [List.length_range]; exact hi),List.getElem_range] at h1
  exact (Option.some.inj h1).symm
theorem beg_len (fs:List Fld):(begM fs).length=fs.length:=by
  unfold begM
  rw [List.length_map,List.length_range]
theorem zip_d (fs:List Fld):((((begM fs).map PyData.int).zip (fs.map Fld.d)).map fun p=>PyData.tuple [p.1,p.2])=((begM fs).zip fs).map fun p=>.tuple [.int p.1,p.2.d]:=by
  rw [List.zip_map,List.map_map]
  rfl
abbrev VI:=Str×Int
def viD (v:VI):PyData:=.tuple [.str v.1,.int v.2]
def toI (v:Val):VI:=(v.1,(v.2:Int))
def plcI:List Fld→Int→VI→Option (List Int)
  | [],_,_=>none
  | f::fs,b,v=>if f.nm=v.1 then (if v.2<0 then none else (f.cd[v.2.toNat]?).map (fun w=>w.map (b + ·))) else plcI fs (b+f.ct) v
theorem plcI_nat:∀ (fs:List Fld) (b:Int) (v:Val),plcI fs b (toI v)=plcM fs b v
  | [],_,_=>rfl
  | f::fs,b,v=>by
    unfold plcI plcM
    rw [plcI_nat fs]
    by_cases h:f.nm=v.1
    · rw [if_pos (show f.nm=(toI v).1 from h),if_pos h,if_neg (show ¬ (toI v).2<0 by show ¬ (v.2:Int)<0; omega)]
      rfl
    · rw [if_neg (show ¬ f.nm=(toI v).1 from h),if_neg h]
def pfValX (CN:Addr):PX:=fun ds R Ex=>∃ (fs:List Fld) (v:VI),ds=[layD fs,.str v.1,.int v.2]∧LOk fs∧(∀ p,plcI fs 0 v=some p→R (wordD p))∧(plcI fs 0 v=none→Ex CN)
section
variable {P:Program} {w:World} {K:PySem.W.Frag} {mg:Str→Option Value} {base:Heap}
theorem sc_value_word:FnScope ["layout", "name", "number", "begin", "field", "count", "code"] ["layout", "name", "number"] (defScope s_value_word):=⟨rfl,rfl,rfl,by decide +kernel,rfl,by decide +kernel,by decide +kernel⟩
theorem ok_value_word {f f_is_whole f_begins CN:Addr} {fd d_is_whole d_begins:FuncData} (F:Fun K "value_word" "value_word" s_value_word f fd) (G_is_whole:FnOk P w K mg base CX0 1 f_is_whole d_is_whole ["thing"] (SpP K (pfWhole))) (b_is_whole:Binds K d_is_whole ["thing"] []) (k_is_whole:PySem.W.keepIn K (.ref f_is_whole)=true) (m_is_whole:mg "is_whole" = some (.ref f_is_whole)) (G_begins:FnOk P w K mg base CX0 1 f_begins d_begins ["layout"] (SpP K (pfBegins))) (b_begins:Binds K d_begins ["layout"] []) (k_begins:PySem.W.keepIn K (.ref f_begins)=true) (m_begins:mg "begins" = some (.ref f_begins)) (mz_zip:mg "zip" = none) (mz_len:mg "len" = none) (mz_tuple:mg "tuple" = none) (m_NoValue:mg "NoValue" = some (.ref CN)) (e_NoValue:PySem.W.excIn K CN bmV "ValueError.__new__" = true):FnOk P w K mg base (CXN P w) 2 f fd ["layout", "name", "number"] (SpX K (pfValX CN)):=by
  refine' fn_pureX (k:=1) F sc_value_word (fun cdv A outer s H E Ex hr hE=>?hb) ?h
  case hb =>
    have hr1:Room 1 _:=hr.mono (by decide)
    have hu64:=hr.units
    have CS1:∀ {scope:Scope} (h:scope={ kind:=.function,names:=[(".0",.local),("place",.local),("begin",.free)],isGenerator:=false,isCoroutine:=false }),
        CompScope (cxOf (CXN P w) P w K mg base ["layout", "name", "number", "begin", "field", "count", "code"] "value_word" (defScope s_value_word) f cdv A outer s H E) scope [("begin",s.heap.objs.size+1)] "place" ["begin"] [3]:=by
      rintro scope rfl
      refine ⟨by rfl,.inl (by decide +kernel),by rfl,by decide +kernel,.inl rfl,fun y c h=>?_,by rfl,by decide +kernel,rfl,fun k y j e1 e2=>?_⟩
      · have z:=lookup_mem h
        simp only [List.mem_cons,List.not_mem_nil,or_false,Prod.mk.injEq] at z
        obtain ⟨rfl,rfl⟩:=z; rfl
      · match k,e1,e2 with
        | 0,e1,e2=>cases e1; cases e2; exact ⟨rfl,rfl,by first | exact .inl rfl | exact .inr rfl⟩
        | k+1,e1,e2=>cases e1
    exact dsx_cons (dsx_for passOwnN rfl (di_zip rfl mz_zip (dpa_cons (dp_call G_begins hr1 rfl m_begins k_begins b_begins pass0 (dpa_cons (dp_var (pv 0)) dpa_nil)) (dpa_cons (dp_var (pv 0)) dpa_nil))) (dg_tup (n:=2) rfl (dgs_cons (dg_name (i:=3) sc_value_word.nd rfl (Or.inr rfl)) (dgs_cons (dg_tup (n:=3) rfl (dgs_cons (dg_name (i:=4) sc_value_word.nd rfl (Or.inl rfl)) (dgs_cons (dg_name (i:=5) sc_value_word.nd rfl (Or.inl rfl)) (dgs_cons (dg_name (i:=6) sc_value_word.nd rfl (Or.inl rfl)) dgs_nil)))) dgs_nil)))
      (dsx_one (dsx_if (dt_eq hu64 (dp_var (pv 4)) (dp_var (pv 1)))
        (dsx_cons (dsx_if (dt_w (dw_or (dt_not (dt_val (dp_call G_is_whole hr1 rfl m_is_whole k_is_whole b_is_whole pass0 (dpa_cons (dp_var (pv 2)) dpa_nil)))) (dw_or (dt_lt (dp_var (pv 2)) dp_int) (dw_or1 (dt_ge (dp_var (pv 2)) (dp_callB call_len cs_len rfl mz_len (by decide +kernel) (dpa_cons (dp_var (pv 6)) dpa_nil)))))))
          (dsx_one (dsx_raise hE rfl m_NoValue e_NoValue)) (dssx ds_nil))
          (dssx <| ds_one (ds_ret (dp_callTy tuple_ok (cs_tuple (i:=true)) rfl mz_tuple (by decide +kernel) (dpa_cons (dp_comp (CS1 rfl) rfl (dit (dp_ixS (dp_var (pv 6)) (dp_var (pv 2)))) (fun _ _ _=>dts_none) (fun _ _ _=>dp_add (dp_var (pv 1)) (dp_var (pv 0)))) dpa_nil))))) (dssx ds_nil))))
      (dsx_one (dsx_raise hE rfl m_NoValue e_NoValue))
  case h =>
    rintro ds R Ex ⟨fs,v,rfl,hL,hR,hX⟩
    refine ⟨rfl,?_⟩
    array_get_dec
    refine ⟨fs,rfl,by have:=hL.1; omega,?_⟩
    unfold layD
    array_get_dec
    rw [zip_d]
    refine forI (l:=(begM fs).zip fs) (g:=fun p=>.tuple [.int p.1,p.2.d]) rfl (fun i δ=>∃ (v3 v4 v5 v6:DV),δ=⟨[.dat .sh (.list (fs.map Fld.d)),.dat .sh (.str v.1),.dat .sh (.int v.2),v3,v4,v5,v6],0⟩∧plcI (fs.drop i) ((fs.take i).map Fld.ct).sum v=plcI fs 0 v) ?_ ?_ ?_
    · exact ⟨_,_,_,_,rfl,rfl⟩
    · rintro i q _ hq ⟨v3,v4,v5,v6,rfl,hp⟩
      obtain ⟨e1,e2⟩:=zip_beg hq
      obtain ⟨hi,e1'⟩:=List.getElem?_eq_some_iff.mp e1
      rw [List.drop_eq_getElem_cons hi,e1',plcI,← e2] at hp
      unfold Fld.d
      array_get_dec
      refine ifB_2 (fun hb=>?_) (fun hb=>?_)
      · have hb':q.2.nm=v.1:=by simpa using hb
        rw [if_pos hb'] at hp
        array_get_dec
        refine ⟨_,rfl,?_⟩
        array_get_dec
        by_cases h0':v.2<0
        · rw [decide_eq_true h0']
          rw [if_pos h0'] at hp
          array_get_dec
          exact hX hp.symm
        rw [if_neg h0'] at hp
        rw [decide_eq_false h0']
        array_get_dec
        by_cases h1':((q.2.cd.map wordD).length:Int)≤v.2
        · rw [decide_eq_true h1']
          rw [List.length_map] at h1'
          rw [List.getElem?_eq_none (by omega)] at hp
          array_get_dec
          exact hX hp.symm
        rw [decide_eq_false h1']
        rw [List.length_map] at h1'
        have hv:v.2.toNat<q.2.cd.length:=by omega
        have hw:q.2.cd[v.2.toNat]? = some (q.2.cd[v.2.toNat]'hv):=List.getElem?_eq_getElem hv
        generalize q.2.cd[v.2.toNat]=w at hw
        rw [hw] at hp
        have hR:=hR _ hp.symm
        array_get_dec
        refine ⟨wordD w,by rw [atI_map,show v.2=((v.2.toNat:Nat):Int) by omega,atI_nat hw]; rfl,?_⟩
        array_get_dec
        refine compM (l:=w) (g:=PyData.int) rfl (fun x=>.int (q.1+x)) (fun x hx yes no hy=>?_) ?_
        · array_get_dec
          exact hy
        · array_get_dec
          unfold wordD at hR
          rw [List.map_map] at hR
          exact hR
      · have hb':¬ q.2.nm=v.1:=by simpa using hb
        rw [if_neg hb'] at hp
        array_get_dec
        refine ⟨_,_,_,_,rfl,?_⟩
        rw [take_more e1,List.map_append,List.sum_append]
        simpa [e2] using hp
    · rintro _ ⟨v3,v4,v5,v6,rfl,hp⟩
      rw [List.length_zip,beg_len,Nat.min_self,List.drop_length] at hp
      array_get_dec
      exact hX hp.symm
end
theorem sset_ext {a b:List Int} (h:∀ x,x∈a↔x∈b):sset a=sset b:=sset_eq (sset_rise a) fun x=>mem_sset.trans (h x)
theorem plcM_rise:∀ {fs:List Fld} {b:Int} {v:Val} {p:List Int},(∀ f∈fs,FOk f∧∀ w∈f.cd,Rising f.ct w)→0≤b→plcM fs b v=some p→Rising (b+(fs.map Fld.ct).sum) p
  | [],_,_,_,_,_,h=>by cases h
  | f::fs,b,v,p,hf,hb,h=>by
    have h0:=hf f (List.mem_cons_self ..)
    have ih:=fun c hc hp=>plcM_rise (fs:=fs) (b:=c) (v:=v) (p:=p) (fun g hg=>hf g (List.mem_cons_of_mem _ hg)) hc hp
    have hs:0≤(fs.map Fld.ct).sum:=by
      have : ∀ x∈fs.map Fld.ct,0≤x:=fun x hx=>by
        obtain ⟨g,hg,rfl⟩:=List.mem_map.mp hx
        exact (hf g (List.mem_cons_of_mem _ hg)).1.2.1
      clear ih hf h
      generalize fs.map Fld.ct=l at this
      induction l with
      | nil=>exact Int.le_refl _
      | cons x l ih =>
        rw [List.sum_cons]
        have:=this x (List.mem_cons_self ..)
        have:=ih fun y hy=>by (expose_names; exact this_1 y (List.mem_cons_of_mem _ hy))
        omega
    rw [List.map_cons,List.sum_cons]
    unfold plcM at h
    split at h
    · cases hw:f.cd[v.2]? with
      | none=>rw [hw] at h; cases h
      | some w =>
        rw [hw] at h
        have h:w.map (b + ·)=p:=Option.some.inj h
        subst h
        have rw_:=h0.2 w (List.mem_of_getElem? hw)
        refine ⟨List.pairwise_map.mpr (rw_.1.imp fun z=>by omega),fun x hx=>?_⟩
        obtain ⟨y,hy,rfl⟩:=List.mem_map.mp hx
        have:=rw_.2 y hy
        omega
    · have:=ih (b+f.ct) (by have:=h0.1.2.1; omega) h
      rwa [Int.add_assoc] at this
theorem plc_rise {fs:List Fld} (hL:LOk fs) {v:Val} {p:List Int} (h:plcM fs 0 v=some p):Rising 60 p:=by
  have:=plcM_rise hL.2.1 (Int.le_refl 0) h
  exact this.up (by have:=hL.2.2; omega)
theorem plcI_rise:∀ {fs:List Fld} {b:Int} {v:VI} {p:List Int},plcI fs b v=some p→∃ u:Val,toI u=v∧plcM fs b u=some p
  | [],_,_,_,h=>by cases h
  | f::fs,b,v,p,h=>by
    unfold plcI at h
    split at h
    · rename_i e
      split at h
      · cases h
      · rename_i h0
        refine ⟨(v.1,v.2.toNat),?_,?_⟩
        · show (v.1,((v.2.toNat:Nat):Int))=v
          rw [Int.toNat_of_nonneg (by omega)]
        · unfold plcM
          rw [if_pos e]
          exact h
    · rename_i e
      obtain ⟨u,h1,h2⟩:=plcI_rise h
      refine ⟨u,h1,?_⟩
      unfold plcM
      rw [if_neg (by rw [← h1] at e; exact e)]
      exact h2
def plI (fs:List Fld) (v:VI):List Int:=(plcI fs 0 v).getD []
def wrI (fs:List Fld) (vs:List VI):List Int:=sset (vs.flatMap (plI fs))
theorem wrI_nat (fs:List Fld) (vs:List Val):wrI fs (vs.map toI)=wrM fs vs:=by
  unfold wrI wrM
  rw [List.flatMap_map]
  congr 2
  funext v
  unfold plI plc
  rw [plcI_nat]
theorem wrI_rise {fs:List Fld} (hL:LOk fs) {vs:List VI}:Rising 60 (wrI fs vs):=by
  unfold wrI
  refine rising_set fun x hx=>?_
  obtain ⟨v,hv',hx'⟩:=List.mem_flatMap.mp hx
  unfold plI at hx'
  cases hp:plcI fs 0 v with
  | none=>rw [hp] at hx'; cases hx'
  | some p =>
    rw [hp] at hx'
    obtain ⟨u,_,h2⟩:=plcI_rise hp
    exact (plc_rise hL h2).2 x hx'
def pfWriteX (CN:Addr):PX:=fun ds R Ex=>∃ (fs:List Fld) (vs:List VI),ds=[layD fs,.list (vs.map viD)]∧LOk fs∧((∀ v∈vs,∃ p,plcI fs 0 v=some p)→R (wordD (wrI fs vs)))∧((∃ v∈vs,plcI fs 0 v=none)→Ex CN)
section
variable {P:Program} {w:World} {K:PySem.W.Frag} {mg:Str→Option Value} {base:Heap}
theorem sc_written_as:FnScope ["layout", "values", "word", "name", "number"] ["layout", "values"] (defScope s_written_as):=⟨rfl,rfl,rfl,by decide +kernel,rfl,by decide +kernel,by decide +kernel⟩
theorem ok_written_as {f f_together f_value_word CN:Addr} {fd d_together d_value_word:FuncData} (F:Fun K "written_as" "written_as" s_written_as f fd) (G_together:FnOk P w K mg base CX0 1 f_together d_together ["one", "other"] (SpP K pfTog)) (b_together:Binds K d_together ["one", "other"] []) (k_together:PySem.W.keepIn K (.ref f_together)=true) (m_together:mg "together" = some (.ref f_together)) (G_value_word:FnOk P w K mg base (CXN P w) 2 f_value_word d_value_word ["layout", "name", "number"] (SpX K (pfValX CN))) (b_value_word:Binds K d_value_word ["layout", "name", "number"] []) (k_value_word:PySem.W.keepIn K (.ref f_value_word)=true) (m_value_word:mg "value_word" = some (.ref f_value_word)):FnOk P w K mg base (CXN P w) 3 f fd ["layout", "values"] (SpX K (pfWriteX CN)):=by
  refine' fn_pureX (k:=2) F sc_written_as (fun cdv A outer s H E Ex hr hE=>?hb) ?h
  case hb =>
    have hr1:Room 1 _:=hr.mono (by decide)
    have hr2:Room 2 _:=hr.mono (by decide)
    have hu64:=hr.units
    exact dsx_cons (dsx <| ds_set (i:=2) sc_written_as.nd rfl (Or.inl rfl) (dp_tup dpa_nil))
      (dsx_cons (dsx_for passOwnN rfl (dil (dp_var (pv 1))) (dg_tup (n:=2) rfl (dgs_cons (dg_name (i:=3) sc_written_as.nd rfl (Or.inl rfl)) (dgs_cons (dg_name (i:=4) sc_written_as.nd rfl (Or.inl rfl)) dgs_nil)))
      (dsx_one (dsx_set (i:=2) sc_written_as.nd rfl (Or.inl rfl) (dpx_call G_together hr1 rfl m_together k_together b_together pass0 (dpax_cons (dpx <| dp_var (pv 2)) (dpax_cons (dpx_callX hE G_value_word hr2 rfl m_value_word k_value_word b_value_word passN (dpax <| dpa_cons (dp_var (pv 0)) (dpa_cons (dp_var (pv 3)) (dpa_cons (dp_var (pv 4)) dpa_nil)))) (dpax dpa_nil)))))))
      (dssx <| ds_one (ds_ret (dp_imm (dp_var (pv 2))))))
  case h =>
    rintro ds R Ex ⟨fs,vs,rfl,hL,hR,hX⟩
    refine ⟨rfl,?_⟩
    array_get_dec
    refine forI (l:=vs) (g:=viD) rfl (fun i δ=>∃ (v3 v4:DV),δ=⟨[.dat .sh (layD fs),.dat .sh (.list (vs.map viD)),.dat .sh (wordD (wrI fs (vs.take i))),v3,v4],0⟩∧∀ v∈vs.take i,∃ p,plcI fs 0 v=some p) ?_ ?_ ?_
    · exact ⟨_,_,rfl,fun _ z=>(nomatch z)⟩
    · rintro i v _ hi ⟨v3,v4,rfl,hg⟩
      have hvm:=List.mem_of_getElem? hi
      unfold viD
      array_get_dec
      refine ⟨fs,v,rfl,hL,fun p hp=>?_,fun hn=>hX ⟨v,hvm,hn⟩⟩
      obtain ⟨u,_,h2⟩:=plcI_rise hp
      array_get_dec
      refine ⟨_,p,rfl,wrI_rise hL,plc_rise hL h2,?_⟩
      array_get_dec
      refine ⟨.dat .sh (.str v.1),.dat .sh (.int v.2),ds_eq ?_ rfl,fun x hx=>?_⟩
      · have : wrI fs (vs.take (i+1))=sset (wrI fs (vs.take i)++p):=by
          unfold wrI
          refine sset_ext fun x=>?_
          rw [take_more hi,List.flatMap_append,List.mem_append,List.mem_append,mem_sset]
          refine or_congr_right ?_
          rw [List.flatMap_cons,List.flatMap_nil,List.append_nil]
          unfold plI
          rw [hp]
          exact Iff.rfl
        rw [this]
      · rw [take_more hi] at hx
        rcases List.mem_append.mp hx with z | z
        · exact hg x z
        · rw [List.mem_singleton.mp z]; exact ⟨p,hp⟩
    · rintro _ ⟨v3,v4,rfl,hg⟩
      rw [List.take_length] at hg ⊢
      array_get_dec
      exact hR hg
theorem sc__law_small:FnScope ["_law_draws_here", "_law_holes", "_law_pick", "_law_told", "_law_place"] ["_law_draws_here", "_law_holes"] (defScope s__law_small):=⟨rfl,rfl,rfl,by decide +kernel,rfl,by decide +kernel,by decide +kernel⟩
theorem ok__law_small {f f_L_next  : Addr} {fd d_L_next:FuncData} (F:Fun K "_law_small" "_law_small" s__law_small f fd) (G_L_next:FnOk P w K mg base CX0 1 f_L_next d_L_next ["_law_draws_here"] (SpW K dfNext)) (b_L_next:Binds K d_L_next ["_law_draws_here"] []) (k_L_next:PySem.W.keepIn K (.ref f_L_next)=true) (m_L_next:mg "_law_next" = some (.ref f_L_next)) (mz_range:mg "range" = none) (mz_tuple:mg "tuple" = none):FnOk P w K mg base CX0 2 f fd ["_law_draws_here", "_law_holes"] (SpW K (dfSmall)):=by
  refine' fn_draw (k:=1) F sc__law_small (fun cdv A outer s H E hr=>?hb) ?h
  case hb =>
    have hr1:Room 1 _:=hr.mono (by decide)
    have hu64:=hr.units
    exact ds_cons (ds_set (i:=2) sc__law_small.nd rfl (Or.inl rfl) (dp_callW G_L_next hr1 rfl m_L_next k_L_next b_L_next pass0 (pv 0) dpa_nil))
      (ds_cons (ds_setO (i:=3) sc__law_small.nd rfl (Or.inl rfl) (dp_lst dpa_nil))
      (ds_cons (ds_for PassesOwn.never rfl (di_range1 rfl mz_range (dpa_cons (dp_var (pv 1)) dpa_nil)) (dg_name (i:=4) sc__law_small.nd rfl (Or.inl rfl))
      (ds_cons (ds_if (dt_eq hu64 (dp_mod (dp_var (pv 2)) dp_int) dp_int)
        (ds_one (ds_append (pv 3) (dp_var (pv 4)))) ds_nil)
        (ds_one (ds_set (i:=2) sc__law_small.nd rfl (Or.inl rfl) (dp_div (dp_var (pv 2)) dp_int)))))
      (ds_one (ds_ret (dp_callTy tuple_ok (cs_tuple (i:=true)) rfl mz_tuple (by decide +kernel) (dpa_cons (dp_var (pv 3)) dpa_nil))))))
  case h =>
    rintro ds n R ⟨h,rfl,h0,h1,hn,hR⟩
    refine ⟨rfl,?_⟩
    array_get_dec
    refine ⟨rfl,by omega,fun r1=>?_⟩
    array_get_dec
    refine ⟨by omega,by omega,?_⟩
    refine forI (l:=List.range h.toNat) (g:=fun i:Nat=>.int i) rfl (fun i δ=>∃ (p:Int) (ns:List Int) (v:DV),δ=⟨[.drw,.dat .sh (.int h),.dat .sh (.int p),.dat .ow (.list (ns.map PyData.int)),v],n+1⟩∧Rising i ns∧NP v) ?_ ?_ ?_
    · exact ⟨_,[],_,rfl,Rising.nil _,np_un⟩
    · rintro i a _ ha ⟨p,ns,v,rfl,hr,hv⟩
      obtain ⟨rfl,hi⟩:=range_at ha
      have l60:=nodup_len (rnodup hr) (fun x hx=>by have:=hr.2 x hx; omega)
      array_get_dec
      refine ifB_2 (fun hb=>?_) (fun hb=>?_)
      · array_get_dec
        refine ⟨by rw [List.length_map]; omega,?_⟩
        refine ⟨_,ns++[(a:Int)],_,ds_eq (by rw [List.map_append]; rfl) rfl,hr.more (by omega),np_sh⟩
      · array_get_dec
        exact ⟨_,ns,_,rfl,hr.up (by omega),np_sh⟩
    · rintro _ ⟨p,ns,v,rfl,hr,hv⟩
      rw [List.length_range] at hr
      array_get_dec
      exact ⟨by omega,hR ns (by rwa [show ((h.toNat:Nat):Int)=h by omega] at hr)⟩
end
def nmsL:List Str:=[Str.ofString "a",Str.ofString "ab",Str.ofString "b",Str.ofString "ba",Str.ofString "aa",Str.ofString "abc",Str.ofString "c",Str.ofString "x"]
def nmAt (i:Int):Str:=nmsL.getD i.toNat (Str.ofString "a")
theorem nms_inj:∀ i j:Fin 8,nmsL.getD i.1 (Str.ofString "a")=nmsL.getD j.1 (Str.ofString "a")→i=j:=by decide +kernel
theorem nm_short:∀ i:Fin 8,(reprText (nmsL.getD i.1 (Str.ofString "a"))).length≤12:=by decide +kernel
theorem nmAt_inj {i j:Int} (i0:0≤i) (i1:i<8) (j0:0≤j) (j1:j<8) (h:nmAt i=nmAt j):i=j:=by
  have:=nms_inj ⟨i.toNat,by omega⟩ ⟨j.toNat,by omega⟩ h
  have : i.toNat=j.toNat:=congrArg Fin.val this
  omega
theorem nmAt_short {i:Int} (i1:i<8) (i0:0≤i):(reprText (nmAt i)).length≤12:=nm_short ⟨i.toNat,by omega⟩
theorem nmAt_at {i:Int} (i0:0≤i) (i1:i<8):atI (nmsL.map PyData.str) i=some (.str (nmAt i)):=by
  have e:i=((i.toNat:Nat):Int):=by omega
  rw [e,atI_nat (j:=i.toNat) (v:=.str (nmAt i))]
  · rw [← e]
  · rw [List.getElem?_map]
    have hl:i.toNat<nmsL.length:=by show i.toNat<8; omega
    unfold nmAt
    rw [List.getElem?_eq_getElem hl,List.getD_eq_getElem?_getD,List.getElem?_eq_getElem hl]
    rfl
def GF (f:Fld):Prop:=(reprText f.nm).length≤12∧1≤f.ct∧f.ct≤7∧f.cd≠[]∧f.cd.length≤6∧∀ w∈f.cd,Rising f.ct w
def GL (fs:List Fld):Prop:=fs≠[]∧fs.length≤8∧(fs.map Fld.nm).Nodup∧∀ f∈fs,GF f
def dfLayP:DF:=fun ds n R=>ds=[]∧n≤50000∧∀ (fs:List Fld) n',n≤n'→n'≤n+1000→GL fs→(∀ f∈fs,f.nm∈nmsL)→R (layD fs) n'
theorem nmAt_mem (i:Int):nmAt i∈nmsL:=by
  unfold nmAt
  rw [List.getD_eq_getElem?_getD]
  cases h:nmsL[i.toNat]? with
  | none=>decide +kernel
  | some x=>exact List.mem_of_getElem? h
section
variable {P:Program} {w:World} {K:PySem.W.Frag} {mg:Str→Option Value} {base:Heap}
theorem sc__law_layout:FnScope ["_law_draws_here", "_law_pick", "_law_names", "_law_layout_here", "_law_k", "_law_count", "_law_code", "_law_turn", "_law_word"] ["_law_draws_here"] (defScope s__law_layout):=⟨rfl,rfl,rfl,by decide +kernel,rfl,by decide +kernel,by decide +kernel⟩
theorem ok__law_layout {f f_L_next f_L_small  : Addr} {fd d_L_next d_L_small:FuncData} (F:Fun K "_law_layout" "_law_layout" s__law_layout f fd) (G_L_next:FnOk P w K mg base CX0 1 f_L_next d_L_next ["_law_draws_here"] (SpW K dfNext)) (b_L_next:Binds K d_L_next ["_law_draws_here"] []) (k_L_next:PySem.W.keepIn K (.ref f_L_next)=true) (m_L_next:mg "_law_next" = some (.ref f_L_next)) (G_L_small:FnOk P w K mg base CX0 2 f_L_small d_L_small ["_law_draws_here", "_law_holes"] (SpW K (dfSmall))) (b_L_small:Binds K d_L_small ["_law_draws_here", "_law_holes"] []) (k_L_small:PySem.W.keepIn K (.ref f_L_small)=true) (m_L_small:mg "_law_small" = some (.ref f_L_small)) (mz_int:mg "int" = none) (mz_range:mg "range" = none):FnOk P w K mg base CX0 3 f fd ["_law_draws_here"] (SpW K (dfLayP)):=by
  refine' fn_draw (k:=2) F sc__law_layout (fun cdv A outer s H E hr=>?hb) ?h
  case hb =>
    have hr1:Room 1 _:=hr.mono (by decide)
    have hr2:Room 2 _:=hr.mono (by decide)
    have hu64:=hr.units
    exact ds_cons (ds_set (i:=1) sc__law_layout.nd rfl (Or.inl rfl) (dp_callW G_L_next hr1 rfl m_L_next k_L_next b_L_next pass0 (pv 0) dpa_nil))
      (ds_cons (ds_set (i:=2) sc__law_layout.nd rfl (Or.inl rfl) (dp_lst (dpa_cons dp_str (dpa_cons dp_str (dpa_cons dp_str (dpa_cons dp_str (dpa_cons dp_str (dpa_cons dp_str (dpa_cons dp_str (dpa_cons dp_str dpa_nil))))))))))
      (ds_cons (ds_setO (i:=3) sc__law_layout.nd rfl (Or.inl rfl) (dp_lst dpa_nil))
      (ds_cons (ds_for PassesOwn.never rfl (di_range1 rfl mz_range (dpa_cons (dp_ixS (dp_lst (dpa_cons (dp_add dp_int (dp_mod (dp_div (dp_var (pv 1)) dp_int) dp_int)) (dpa_cons dp_int dpa_nil))) (dp_callTy call_int1 cs_int rfl mz_int (by decide +kernel) (dpa_cons (dp_eq hu64 (dp_mod (dp_var (pv 1)) dp_int) dp_int) dpa_nil))) dpa_nil)) (dg_name (i:=4) sc__law_layout.nd rfl (Or.inl rfl))
      (ds_cons (ds_set (i:=5) sc__law_layout.nd rfl (Or.inl rfl) (dp_add dp_int (dp_mod (dp_callW G_L_next hr1 rfl m_L_next k_L_next b_L_next pass0 (pv 0) dpa_nil) dp_int)))
        (ds_cons (ds_setO (i:=6) sc__law_layout.nd rfl (Or.inl rfl) (dp_lst dpa_nil))
        (ds_cons (ds_for PassesOwn.never rfl (di_range1 rfl mz_range (dpa_cons (dp_add dp_int (dp_mod (dp_callW G_L_next hr1 rfl m_L_next k_L_next b_L_next pass0 (pv 0) dpa_nil) dp_int)) dpa_nil)) (dg_name (i:=7) sc__law_layout.nd rfl (Or.inl rfl))
        (ds_cons (ds_set (i:=8) sc__law_layout.nd rfl (Or.inl rfl) (dp_callW G_L_small hr2 rfl m_L_small k_L_small b_L_small pass0 (pv 0) (dpa_cons (dp_var (pv 5)) dpa_nil)))
          (ds_one (ds_if (dt_notIn hu64 (dp_var (pv 8)) (dp_var (pv 6)))
          (ds_one (ds_append (pv 6) (dp_var (pv 8)))) ds_nil))))
        (ds_one (ds_appendO (pv 3) (dp_tup (dpa_cons (dp_imm (dp_ixS (dp_var (pv 2)) (dp_mod (dp_add (dp_var (pv 4)) (dp_div (dp_var (pv 1)) dp_int)) dp_int))) (dpa_cons (dp_imm (dp_var (pv 5))) (dpa_cons (dp_take (pv 6)) dpa_nil))))))))))
      (ds_one (ds_ret (dp_take (pv 3)))))))
  case h =>
    rintro ds n R ⟨rfl,hn,hR⟩
    refine ⟨rfl,?_⟩
    array_get_dec
    refine ⟨rfl,by omega,fun r1=>?_⟩
    array_get_dec
    obtain ⟨c,hc,c0,c1⟩ : ∃ c,atI [PyData.int (1+r1 / 8 % 4),.int 8] (if decide (r1 % 8=1)=true then 1 else 0)=some (.int c)∧1≤c∧c≤8:=by
      rw [pick2]
      have:=mod_in (r1 / 8) (b:=4) (by decide)
      cases decide (r1 % 8=1)
      · exact ⟨_,rfl,by omega,by omega⟩
      · exact ⟨8,rfl,by decide,by decide⟩
    refine ⟨_,hc,?_⟩
    array_get_dec
    refine ⟨by omega,by omega,?_⟩
    rw [show [PyData.str (Str.ofString "a"),.str (Str.ofString "ab"),.str (Str.ofString "b"),.str (Str.ofString "ba"),.str (Str.ofString "aa"),.str (Str.ofString "abc"),.str (Str.ofString "c"),.str (Str.ofString "x")]=nmsL.map PyData.str from rfl]
    refine forI (l:=List.range c.toNat) (g:=fun i:Nat=>.int i) rfl (fun i δ=>∃ (fs:List Fld) (v4 v5 v6 v7 v8:DV) (n':Nat),δ=⟨[.drw,.dat .sh (.int r1),.dat .sh (.list (nmsL.map PyData.str)),.dat .ow (.list (fs.map Fld.d)),v4,v5,v6,v7,v8],n'⟩∧n≤n'∧n'≤n+1+20 * i∧fs.map Fld.nm=((List.range i).map fun k:Nat=>nmAt (((k:Int)+r1 / 64) % 8))∧(∀ f∈fs,GF f)∧NP v4∧NP v5∧NP v6∧NP v7∧NP v8) ?_ ?_ ?_
    · exact ⟨[],_,_,_,_,_,_,rfl,by omega,by omega,rfl,fun _ z=>(nomatch z),np_un,np_un,np_un,np_un,np_un⟩
    · rintro i a _ ha ⟨fs,v4,v5,v6,v7,v8,n1,rfl,k1,k2,lf,hf,hv4,hv5,hv6,hv7,hv8⟩
      obtain ⟨rfl,hi⟩:=range_at ha
      array_get_dec
      refine ⟨rfl,by omega,fun r2=>?_⟩
      array_get_dec
      refine ⟨rfl,by omega,fun r3=>?_⟩
      array_get_dec
      have lf':fs.length=a:=by have:=congrArg List.length lf; simpa using this
      have b7:=mod_in r2 (b:=7) (by decide)
      have b6:=mod_in r3 (b:=6) (by decide)
      refine ⟨by omega,by omega,?_⟩
      refine forI (l:=List.range (1+r3 % 6).toNat) (g:=fun i:Nat=>.int i) rfl (fun j δ=>∃ (cd:List (List Int)) (v7 v8:DV) (n':Nat),δ=⟨[.drw,.dat .sh (.int r1),.dat .sh (.list (nmsL.map PyData.str)),.dat .ow (.list (fs.map Fld.d)),.dat .sh (.int a),.dat .sh (.int (1+r2 % 7)),.dat .ow (.list (cd.map wordD)),v7,v8],n'⟩∧n≤n'∧n'≤n1+2+j∧cd.length≤j∧(0<j→cd≠[])∧(∀ w∈cd,Rising (1+r2 % 7) w)∧NP v7∧NP v8) ?_ ?_ ?_
      · exact ⟨[],_,_,_,rfl,by omega,by omega,Nat.le_refl _,fun z=>absurd z (Nat.lt_irrefl _),fun _ z=>(nomatch z),hv7,hv8⟩
      · clear hv7 hv8
        rintro j b _ hb ⟨cd,v7,v8,n2,rfl,k3,k4,lc,nc,hw,hv7,hv8⟩
        obtain ⟨rfl,hj⟩:=range_at hb
        array_get_dec
        refine ⟨_,rfl,by omega,by omega,by omega,fun w rw_=>?_⟩
        array_get_dec
        refine ifB_2 (fun hb=>?_) (fun hb=>?_)
        · array_get_dec
          refine ⟨by rw [List.length_map]; omega,?_⟩
          refine ⟨cd++[w],_,_,_,ds_eq (by rw [List.map_append]; rfl) rfl,by omega,by omega,by rw [List.length_append]; simp; omega,fun _=>by simp,fun x hx=>?_,np_sh,np_sh⟩
          rcases List.mem_append.mp hx with z | z
          · exact hw x z
          · rw [List.mem_singleton.mp z]; exact rw_
        · array_get_dec
          have hb':w∈cd:=by simpa using hb
          exact ⟨cd,_,_,_,rfl,by omega,by omega,by omega,fun _=>List.ne_nil_of_mem hb',hw,np_sh,np_sh⟩
      · clear hv7 hv8
        rintro _ ⟨cd,v7,v8,n2,rfl,k3,k4,lc,nc,hw,hv7,hv8⟩
        rw [List.length_range] at k4 lc nc
        array_get_dec
        have b8:=mod_in ((a:Int)+r1 / 64) (b:=8) (by decide)
        refine ⟨_,nmAt_at b8.1 b8.2,?_⟩
        array_get_dec
        refine ⟨by simp [npk,hv7 _,hv8 _],by rw [List.length_map]; omega,?_⟩
        refine ⟨fs++[⟨nmAt (((a:Int)+r1 / 64) % 8),1+r2 % 7,cd⟩],_,_,_,_,_,_,ds_eq (by rw [List.map_append]; rfl) rfl,by omega,by omega,by rw [List.map_append,lf,List.range_succ,List.map_append]; rfl,fun f hx=>?_,np_sh,np_sh,np_un,hv7,hv8⟩
        rcases List.mem_append.mp hx with z | z
        · exact hf f z
        · rw [List.mem_singleton.mp z]
          exact ⟨nmAt_short b8.2 b8.1,by show (1:Int)≤1+r2 % 7; omega,by show 1+r2 % 7≤(7:Int); omega,nc (by omega),by show cd.length≤6; omega,hw⟩
    · rintro _ ⟨fs,v4,v5,v6,v7,v8,n1,rfl,k1,k2,lf,hf,hv4,hv5,hv6,hv7,hv8⟩
      rw [List.length_range] at k2 lf
      array_get_dec
      have lf':fs.length=c.toNat:=by have:=congrArg List.length lf; simpa using this
      refine ⟨by omega,hR fs _ (by omega) (by omega) ⟨fun z=>?_,by omega,?_,hf⟩ fun f hf'=>?_⟩
      · rw [z] at lf'
        have : (0:Nat)=c.toNat:=lf'
        omega
      · rw [lf]
        refine List.pairwise_map.mpr (List.nodup_range.imp_of_mem fun {x y} hx hy hne z=>?_)
        have hx:=List.mem_range.mp hx
        have hy:=List.mem_range.mp hy
        have m1:=mod_in ((x:Int)+r1 / 64) (b:=8) (by decide)
        have m2:=mod_in ((y:Int)+r1 / 64) (b:=8) (by decide)
        have:=nmAt_inj m1.1 m1.2 m2.1 m2.2 z
        omega
      · have:=List.mem_map_of_mem (f:=Fld.nm) hf'
        rw [lf] at this
        obtain ⟨k,_,e⟩:=List.mem_map.mp this
        rw [← e]
        exact nmAt_mem _
end
def VIn (fs:List Fld) (v:Val):Prop:=∃ f∈fs,f.nm=v.1∧v.2<f.cd.length
theorem vok_of:∀ {fs:List Fld} {v:Val} (b:Int),(fs.map Fld.nm).Nodup→VIn fs v→∃ p,plcM fs b v=some p
  | [],v,b,_,h=>by obtain ⟨f,hf,_⟩:=h; cases hf
  | f::fs,v,b,nd,h=>by
    rw [List.map_cons,List.nodup_cons] at nd
    unfold plcM
    split
    · rename_i e
      obtain ⟨g,hg,h1,h2⟩:=h
      rcases List.mem_cons.mp hg with rfl | hg
      · rw [List.getElem?_eq_getElem h2]
        exact ⟨_,rfl⟩
      · exact absurd (List.mem_map.mpr ⟨g,hg,h1.trans e.symm⟩) nd.1
    · rename_i e
      obtain ⟨g,hg,h1,h2⟩:=h
      rcases List.mem_cons.mp hg with rfl | hg
      · exact absurd h1 e
      · exact vok_of _ nd.2 ⟨g,hg,h1,h2⟩
def zb:List Fld→Int→List (Int×Fld)
  | [],_=>[]
  | f::fs,b=>(b,f)::zb fs (b+f.ct)
theorem zb_snd:∀ (fs:List Fld) (b:Int),(zb fs b).map (·.2)=fs
  | [],_=>rfl
  | f::fs,b=>by rw [zb,List.map_cons,zb_snd fs]
theorem zb_at:∀ {fs:List Fld} {b:Int} {i:Nat} {q:Int×Fld},(zb fs b)[i]? = some q→q.1=b+((fs.take i).map Fld.ct).sum∧fs[i]? = some q.2
  | [],_,_,_,h=>by cases h
  | f::fs,b,0,q,h=>by
    cases h
    exact ⟨by simp,rfl⟩
  | f::fs,b,i+1,q,h=>by
    obtain ⟨h1,h2⟩:=zb_at (fs:=fs) (b:=b+f.ct) (i:=i) (q:=q) (by simpa [zb] using h)
    refine ⟨?_,by simpa using h2⟩
    rw [h1,List.take_succ_cons,List.map_cons,List.sum_cons]
    omega
def cM (q:Int×Fld) (v:Val):List Int:=if q.2.nm=v.1 then (q.2.cd.getD v.2 []).map (q.1 + ·) else []
theorem cM_no {fs:List Fld} {v:Val} (h:v.1∉fs.map Fld.nm):∀ {b:Int} {x:Int},¬ ∃ q∈zb fs b,x∈cM q v:=by
  intro b x
  rintro ⟨q,hq,hx⟩
  obtain ⟨i,hi⟩:=List.mem_iff_getElem?.mp hq
  have:=(zb_at hi).2
  unfold cM at hx
  split at hx
  · rename_i e
    exact h (List.mem_map.mpr ⟨q.2,List.mem_of_getElem? this,e⟩)
  · cases hx
theorem plcM_mem:∀ {fs:List Fld} {b:Int} {v:Val} {p:List Int},(fs.map Fld.nm).Nodup→plcM fs b v=some p→∀ x,x∈p↔∃ q∈zb fs b,x∈cM q v
  | [],_,_,_,_,h,_=>by cases h
  | f::fs,b,v,p,nd,h,x=>by
    rw [List.map_cons,List.nodup_cons] at nd
    unfold plcM at h
    have e0:(∃ q∈zb (f::fs) b,x∈cM q v)↔x∈cM (b,f) v∨∃ q∈zb fs (b+f.ct),x∈cM q v:=by
      rw [zb]
      simp only [List.mem_cons,exists_eq_or_imp]
    rw [e0]
    split at h
    · rename_i e
      have hn:v.1∉fs.map Fld.nm:=e▸nd.1
      have hno:=cM_no hn (b:=b+f.ct) (x:=x)
      cases hw:f.cd[v.2]? with
      | none=>rw [hw] at h; cases h
      | some w =>
        rw [hw] at h
        have h:w.map (b + ·)=p:=Option.some.inj h
        subst h
        have ec:cM (b,f) v=w.map (b + ·):=by
          unfold cM
          rw [if_pos (show (b,f).2.nm=v.1 from e),List.getD_eq_getElem?_getD,hw]
          rfl
        rw [ec]
        exact ⟨fun z=>.inl z,fun z=>z.resolve_right hno⟩
    · rename_i e
      have ec:cM (b,f) v=[]:=if_neg e
      rw [ec,plcM_mem nd.2 h x]
      exact ⟨fun z=>.inr z,fun z=>z.resolve_left (fun y=>nomatch y)⟩
def LL (fs:List Fld):Prop:=LOk fs∧(fs.map Fld.nm).Nodup
def PL (fs:List Fld):Prop:=fs≠[]∧LL fs∧(∀ f∈fs,f.cd≠[])∧∀ f∈fs,f.nm∈nmsL
def dfVals:DF:=fun ds n R=>∃ (fs:List Fld) (m:Int),ds=[layD fs,.int m]∧PL fs∧0≤m∧m≤8∧n≤60000∧∀ (vs:List Val) n',n≤n'→n'≤n+20→vs.length≤8→(∀ v∈vs,VIn fs v)→R (valsD vs) n'
def pfLW:PF:=fun ds R=>∃ (fs:List Fld) (vs:List Val),ds=[layD fs,valsD vs]∧LL fs∧vs.length≤8∧(∀ v∈vs,VIn fs v)∧R (wordD (wrM fs vs))
theorem wr_mem {fs:List Fld} {vs:List Val} (hL:LL fs) (hv:∀ v∈vs,VIn fs v) {x:Int}:x∈(zb fs 0).flatMap (fun q=>vs.flatMap (cM q))↔x∈vs.flatMap (plc fs):=by
  simp only [List.mem_flatMap]
  constructor
  · rintro ⟨q,hq,v,hv',hx⟩
    obtain ⟨p,hp⟩:=vok_of 0 hL.2 (hv v hv')
    refine ⟨v,hv',?_⟩
    unfold plc
    rw [hp]
    exact (plcM_mem hL.2 hp x).mpr ⟨q,hq,hx⟩
  · rintro ⟨v,hv',hx⟩
    obtain ⟨p,hp⟩:=vok_of 0 hL.2 (hv v hv')
    unfold plc at hx
    rw [hp] at hx
    obtain ⟨q,hq,hx⟩:=(plcM_mem hL.2 hp x).mp hx
    exact ⟨q,hq,v,hv',hx⟩
theorem gl_ll {fs:List Fld} (h:GL fs):LL fs:=by
  refine ⟨⟨h.2.1,fun f hf=>?_,?_⟩,h.2.2.1⟩
  · obtain ⟨g1,g2,g3,g4,g5,g6⟩:=h.2.2.2 f hf
    exact ⟨⟨g1,by omega,by omega,by omega,fun w hw=>(g6 w hw).up (by omega)⟩,g6⟩
  · have : ∀ l:List Fld,(∀ f∈l,GF f)→(l.map Fld.ct).sum≤7 * (l.length:Int):=by
      intro l
      induction l with
      | nil=>intro _; decide
      | cons f l ih =>
        intro hl
        have h1:=(hl f (List.mem_cons_self ..)).2.2.1
        have h2:=ih fun g hg=>hl g (List.mem_cons_of_mem _ hg)
        rw [List.map_cons,List.sum_cons,List.length_cons]
        omega
    have:=this fs h.2.2.2
    have:=h.2.1
    omega
theorem gl_pl {fs:List Fld} (h:GL fs) (hn:∀ f∈fs,f.nm∈nmsL):PL fs:=⟨h.1,gl_ll h,fun f hf=>(h.2.2.2 f hf).2.2.2.1,hn⟩
def dfGreat:DF:=fun ds n R=>ds=[]∧n≤50000∧∀ (fs:List Fld) n',n≤n'→n'≤n+1000→PL fs→R (layD fs) n'
section
variable {P:Program} {w:World} {K:PySem.W.Frag} {mg:Str→Option Value} {base:Heap}
theorem sc__law_great_layout:FnScope ["_law_draws_here", "_law_pick", "_law_wide", "_law_code", "_law_k", "_law_word"] ["_law_draws_here"] (defScope s__law_great_layout):=⟨rfl,rfl,rfl,by decide +kernel,rfl,by decide +kernel,by decide +kernel⟩
theorem ok__law_great_layout {f f_L_next  : Addr} {fd d_L_next:FuncData} (F:Fun K "_law_great_layout" "_law_great_layout" s__law_great_layout f fd) (G_L_next:FnOk P w K mg base CX0 1 f_L_next d_L_next ["_law_draws_here"] (SpW K dfNext)) (b_L_next:Binds K d_L_next ["_law_draws_here"] []) (k_L_next:PySem.W.keepIn K (.ref f_L_next)=true) (m_L_next:mg "_law_next" = some (.ref f_L_next)) (mz_min:mg "min" = none) (mz_range:mg "range" = none) (mz_sorted:mg "sorted" = none) (mz_set:mg "set" = none) (mz_tuple:mg "tuple" = none):FnOk P w K mg base CX0 2 f fd ["_law_draws_here"] (SpW K (dfGreat)):=by
  refine' fn_draw (k:=1) F sc__law_great_layout (fun cdv A outer s H E hr=>?hb) ?h
  case hb =>
    have hr1:Room 1 _:=hr.mono (by decide)
    have hu64:=hr.units
    exact ds_cons (ds_set (i:=1) sc__law_great_layout.nd rfl (Or.inl rfl) (dp_callW G_L_next hr1 rfl m_L_next k_L_next b_L_next pass0 (pv 0) dpa_nil))
      (ds_cons (ds_set (i:=2) sc__law_great_layout.nd rfl (Or.inl rfl) (dp_add dp_int (dp_mod (dp_var (pv 1)) dp_int)))
      (ds_cons (ds_setO (i:=3) sc__law_great_layout.nd rfl (Or.inl rfl) (dp_lst dpa_nil))
      (ds_cons (ds_for PassesOwn.never rfl (di_range1 rfl mz_range (dpa_cons (dp_callB (call_min2 rfl) cs_min2 rfl mz_min (by decide +kernel) (dpa_cons dp_int (dpa_cons (dp_var (pv 2)) dpa_nil))) dpa_nil)) (dg_name (i:=4) sc__law_great_layout.nd rfl (Or.inl rfl))
      (ds_cons (ds_set (i:=5) sc__law_great_layout.nd rfl (Or.inl rfl) (dp_callTy tuple_ok (cs_tuple (i:=true)) rfl mz_tuple (by decide +kernel) (dpa_cons (dp_ss rfl rfl mz_sorted rfl mz_set (dpa_cons (dp_slice (i:=true) (dp_lst (dpa_cons (dp_imm (dp_var (pv 4))) (dpa_cons (dp_mod (dp_add (dp_mul (dp_var (pv 4)) dp_int) (dp_var (pv 1))) (dp_var (pv 2))) (dpa_cons (dp_mod (dp_div (dp_var (pv 1)) (dp_add dp_int (dp_var (pv 4)))) (dp_var (pv 2))) dpa_nil)))) dpo_none (dpo_some (dp_add dp_int (dp_mod (dp_div (dp_var (pv 1)) dp_int) dp_int)))) dpa_nil)) dpa_nil)))
        (ds_one (ds_if (dt_notIn hu64 (dp_var (pv 5)) (dp_var (pv 3)))
        (ds_one (ds_append (pv 3) (dp_var (pv 5)))) ds_nil))))
      (ds_one (ds_ret ((dp_stepK (i:=false) (dp_lst (dpa_cons (dp_tup (dpa_cons dp_str (dpa_cons (dp_imm (dp_var (pv 2))) (dpa_cons (dp_take (pv 3)) dpa_nil)))) (dpa_cons (dp_tup (dpa_cons dp_str (dpa_cons (dp_add dp_int (dp_mod (dp_div (dp_var (pv 1)) dp_int) dp_int)) (dpa_cons (dp_lst (dpa_cons (dp_tup (dpa_cons dp_int dpa_nil)) (dpa_cons (dp_tup dpa_nil) dpa_nil))) dpa_nil)))) dpa_nil))) (dp_ixS (dp_lst (dpa_cons dp_int (dpa_cons (dp_neg dp_int) dpa_nil))) (dp_mod (dp_div (dp_var (pv 1)) dp_int) dp_int)))))))))
  case h =>
    rintro ds n R ⟨rfl,hn,hR⟩
    refine ⟨rfl,?_⟩
    array_get_dec
    refine ⟨rfl,by omega,fun r1=>?_⟩
    array_get_dec
    have b41:=mod_in r1 (b:=41) (by decide)
    have hm:(if 12+r1 % 41<40 then 12+r1 % 41 else (40:Int))≤40∧1≤(if 12+r1 % 41<40 then 12+r1 % 41 else (40:Int))∧(if 12+r1 % 41<40 then 12+r1 % 41 else (40:Int))≤12+r1 % 41:=by split <;> omega
    generalize (if 12+r1 % 41<40 then 12+r1 % 41 else (40:Int))=c at hm
    refine ⟨by omega,by omega,?_⟩
    refine forI (l:=List.range c.toNat) (g:=fun i:Nat=>.int i) rfl (fun j δ=>∃ (cd:List (List Int)) (v4 v5:DV),δ=⟨[.drw,.dat .sh (.int r1),.dat .sh (.int (12+r1 % 41)),.dat .ow (.list (cd.map wordD)),v4,v5],n+1⟩∧cd.length≤j∧(0<j→cd≠[])∧(∀ w∈cd,Rising (12+r1 % 41) w)∧NP v4∧NP v5) ?_ ?_ ?_
    · exact ⟨[],_,_,rfl,Nat.le_refl _,fun z=>absurd z (Nat.lt_irrefl _),fun _ z=>(nomatch z),np_un,np_un⟩
    · rintro j a _ ha ⟨cd,v4,v5,rfl,lc,nc,hw,hv4,hv5⟩
      obtain ⟨rfl,hj⟩:=range_at ha
      have w0:(0:Int)<12+r1 % 41:=by omega
      have m1:=mod_in ((a:Int) * 7+r1) w0
      have m2:=mod_in (r1 / (1+(a:Int))) w0
      have ec:=cutG_map PyData.int [(a:Int),((a:Int) * 7+r1) % (12+r1 % 41),r1 / (1+(a:Int)) % (12+r1 % 41)] none (some (1+r1 / 41 % 3))
      rw [List.map_cons,List.map_cons,List.map_cons,List.map_nil] at ec
      have bd0:∀ x∈cutG [(a:Int),((a:Int) * 7+r1) % (12+r1 % 41),r1 / (1+(a:Int)) % (12+r1 % 41)] none (some (1+r1 / 41 % 3)),0≤x∧x<12+r1 % 41:=fun x hx=>by
        have:=(cutG_sub _ _ _).subset hx
        simp only [List.mem_cons,List.not_mem_nil,or_false] at this
        rcases this with rfl | rfl | rfl <;> omega
      have bd:=fun (x:Int) hx=>(⟨(bd0 x hx).1,by have:=(bd0 x hx).2; omega⟩ : 0≤x∧x<60)
      array_get_dec
      rw [ec]
      refine ⟨w0,⟨by omega,by omega⟩,w0,ima,_,rfl,bd,?_⟩
      have rw_:Rising (12+r1 % 41) (sset (cutG [(a:Int),((a:Int) * 7+r1) % (12+r1 % 41),r1 / (1+(a:Int)) % (12+r1 % 41)] none (some (1+r1 / 41 % 3)))):=⟨sset_rise _,fun x hx=>bd0 x (mem_sset.mp hx)⟩
      generalize sset (cutG [(a:Int),((a:Int) * 7+r1) % (12+r1 % 41),r1 / (1+(a:Int)) % (12+r1 % 41)] none (some (1+r1 / 41 % 3)))=w at rw_
      refine ifB_2 (fun hb=>?_) (fun hb=>?_)
      · array_get_dec
        refine ⟨by rw [List.length_map]; omega,?_⟩
        refine ⟨cd++[w],_,_,ds_eq (by rw [List.map_append]; rfl) rfl,by rw [List.length_append]; simp; omega,fun _=>by simp,fun x hx=>?_,np_sh,np_sh⟩
        rcases List.mem_append.mp hx with z | z
        · exact hw x z
        · rw [List.mem_singleton.mp z]; exact rw_
      · array_get_dec
        have hb':w∈cd:=by simpa using hb
        exact ⟨cd,_,_,rfl,by omega,fun _=>List.ne_nil_of_mem hb',hw,np_sh,np_sh⟩
    · rintro _ ⟨cd,v4,v5,rfl,lc,nc,hw,hv4,hv5⟩
      rw [List.length_range] at lc nc
      array_get_dec
      have b7:=mod_in (r1 / 1000) (b:=7) (by decide)
      have b2:=mod_in (r1 / 7000) (b:=2) (by decide)
      have hA:(FOk ⟨Str.ofString "ab",12+r1 % 41,cd⟩∧∀ w∈cd,Rising (12+r1 % 41) w)∧cd≠[]∧Str.ofString "ab" ∈ nmsL:=⟨⟨⟨by show (reprText (Str.ofString "ab")).length≤12; decide +kernel,by show (0:Int)≤12+r1 % 41; omega,by show 12+r1 % 41≤(60:Int); omega,by show cd.length≤40; omega,fun w h=>(hw w h).up (by omega)⟩,hw⟩,nc (by omega),by decide +kernel⟩
      have hr:∀ w∈([[0],[]]:List (List Int)),Rising (1+r1 / 1000 % 7) w:=fun w hm=>by
        simp only [List.mem_cons,List.not_mem_nil,or_false] at hm
        rcases hm with rfl | rfl
        · exact ⟨List.pairwise_singleton _ _,fun x hx=>by rw [List.mem_singleton.mp hx]; omega⟩
        · exact Rising.nil _
      have hB:(FOk ⟨Str.ofString "b",1+r1 / 1000 % 7,[[0],[]]⟩∧∀ w∈([[0],[]]:List (List Int)),Rising (1+r1 / 1000 % 7) w)∧([[0],[]]:List (List Int))≠[]∧Str.ofString "b" ∈ nmsL:=⟨⟨⟨by show (reprText (Str.ofString "b")).length≤12; decide +kernel,by show (0:Int)≤1+r1 / 1000 % 7; omega,by show 1+r1 / 1000 % 7≤(60:Int); omega,by show 2≤40; decide,fun w h=>(hr w h).up (by omega)⟩,hr⟩,by simp,by decide +kernel⟩
      rcases (by omega:r1 / 7000 % 2=0∨r1 / 7000 % 2=1) with h2 | h2
      · rw [h2]
        refine ⟨_,atI_0 _ _,?_⟩
        array_get_dec
        refine ⟨by omega,hR [⟨Str.ofString "ab",12+r1 % 41,cd⟩,⟨Str.ofString "b",1+r1 / 1000 % 7,[[0],[]]⟩] _ (by omega) (by omega) ⟨by simp,⟨⟨by simp,fun f hf=>?_,?_⟩,?_⟩,fun f hf=>?_,fun f hf=>?_⟩⟩
        · simp only [List.mem_cons,List.not_mem_nil,or_false] at hf
          rcases hf with rfl | rfl
          · exact hA.1
          · exact hB.1
        · show (12+r1 % 41+(1+r1 / 1000 % 7+0):Int)≤60
          omega
        · show [Str.ofString "ab",Str.ofString "b"].Nodup
          decide +kernel
        · simp only [List.mem_cons,List.not_mem_nil,or_false] at hf
          rcases hf with rfl | rfl
          · exact hA.2.1
          · exact hB.2.1
        · simp only [List.mem_cons,List.not_mem_nil,or_false] at hf
          rcases hf with rfl | rfl
          · exact hA.2.2
          · exact hB.2.2
      · rw [h2]
        refine ⟨_,atI_1 _ _ _,?_⟩
        array_get_dec
        refine ⟨by omega,hR [⟨Str.ofString "b",1+r1 / 1000 % 7,[[0],[]]⟩,⟨Str.ofString "ab",12+r1 % 41,cd⟩] _ (by omega) (by omega) ⟨by simp,⟨⟨by simp,fun f hf=>?_,?_⟩,?_⟩,fun f hf=>?_,fun f hf=>?_⟩⟩
        · simp only [List.mem_cons,List.not_mem_nil,or_false] at hf
          rcases hf with rfl | rfl
          · exact hB.1
          · exact hA.1
        · show (1+r1 / 1000 % 7+(12+r1 % 41+0):Int)≤60
          omega
        · show [Str.ofString "b",Str.ofString "ab"].Nodup
          decide +kernel
        · simp only [List.mem_cons,List.not_mem_nil,or_false] at hf
          rcases hf with rfl | rfl
          · exact hB.2.1
          · exact hA.2.1
        · simp only [List.mem_cons,List.not_mem_nil,or_false] at hf
          rcases hf with rfl | rfl
          · exact hB.2.2
          · exact hA.2.2
theorem sc__law_values:FnScope ["_law_draws_here", "_law_layout_here", "_law_limit", "_law_told", "_law_turn", "_law_pick", "_law_name", "_law_count", "_law_code", "_law_value"] ["_law_draws_here", "_law_layout_here", "_law_limit"] (defScope s__law_values):=⟨rfl,rfl,rfl,by decide +kernel,rfl,by decide +kernel,by decide +kernel⟩
theorem ok__law_values {f f_L_next  : Addr} {fd d_L_next:FuncData} (F:Fun K "_law_values" "_law_values" s__law_values f fd) (G_L_next:FnOk P w K mg base CX0 1 f_L_next d_L_next ["_law_draws_here"] (SpW K dfNext)) (b_L_next:Binds K d_L_next ["_law_draws_here"] []) (k_L_next:PySem.W.keepIn K (.ref f_L_next)=true) (m_L_next:mg "_law_next" = some (.ref f_L_next)) (mz_range:mg "range" = none) (mz_len:mg "len" = none):FnOk P w K mg base CX0 2 f fd ["_law_draws_here", "_law_layout_here", "_law_limit"] (SpW K (dfVals)):=by
  refine' fn_draw (k:=1) F sc__law_values (fun cdv A outer s H E hr=>?hb) ?h
  case hb =>
    have hr1:Room 1 _:=hr.mono (by decide)
    have hu64:=hr.units
    exact ds_cons (ds_setO (i:=3) sc__law_values.nd rfl (Or.inl rfl) (dp_lst dpa_nil))
      (ds_cons (ds_for PassesOwn.never rfl (di_range1 rfl mz_range (dpa_cons (dp_mod (dp_callW G_L_next hr1 rfl m_L_next k_L_next b_L_next pass0 (pv 0) dpa_nil) (dp_add (dp_var (pv 2)) dp_int)) dpa_nil)) (dg_name (i:=4) sc__law_values.nd rfl (Or.inl rfl))
      (ds_cons (ds_set (i:=5) sc__law_values.nd rfl (Or.inl rfl) (dp_callW G_L_next hr1 rfl m_L_next k_L_next b_L_next pass0 (pv 0) dpa_nil))
        (ds_cons (ds_asg (dp_ixS (dp_var (pv 1)) (dp_mod (dp_var (pv 5)) (dp_callB call_len cs_len rfl mz_len (by decide +kernel) (dpa_cons (dp_var (pv 1)) dpa_nil)))) (dg_tup (n:=3) rfl (dgs_cons (dg_name (i:=6) sc__law_values.nd rfl (Or.inl rfl)) (dgs_cons (dg_name (i:=7) sc__law_values.nd rfl (Or.inl rfl)) (dgs_cons (dg_name (i:=8) sc__law_values.nd rfl (Or.inl rfl)) dgs_nil)))))
        (ds_cons (ds_set (i:=9) sc__law_values.nd rfl (Or.inl rfl) (dp_tup (dpa_cons (dp_imm (dp_var (pv 6))) (dpa_cons (dp_mod (dp_div (dp_var (pv 5)) dp_int) (dp_callB call_len cs_len rfl mz_len (by decide +kernel) (dpa_cons (dp_var (pv 8)) dpa_nil))) dpa_nil))))
        (ds_one (ds_if (dt_notIn hu64 (dp_var (pv 9)) (dp_var (pv 3)))
        (ds_one (ds_append (pv 3) (dp_var (pv 9)))) ds_nil))))))
      (ds_one (ds_ret (dp_take (pv 3)))))
  case h =>
    rintro ds n R ⟨fs,m,rfl,hG,m0,m1,hn,hR⟩
    refine ⟨rfl,?_⟩
    have lp:0<fs.length:=List.length_pos_iff.mpr hG.1
    unfold layD
    array_get_dec
    refine ⟨rfl,by omega,fun r1=>?_⟩
    array_get_dec
    have bm:=mod_in r1 (b:=m+1) (by omega)
    refine ⟨by omega,by omega,by omega,?_⟩
    refine forI (l:=List.range (r1 % (m+1)).toNat) (g:=fun i:Nat=>.int i) rfl (fun i δ=>∃ (vs:List Val) (v4 v5 v6 v7 v8 v9:DV),δ=⟨[.drw,.dat .sh (.list (fs.map Fld.d)),.dat .sh (.int m),.dat .ow (.list (vs.map valD)),v4,v5,v6,v7,v8,v9],n+1+i⟩∧vs.length≤i∧(∀ v∈vs,VIn fs v)∧NP v4∧NP v5∧NP v6∧NP v7∧NP v8∧NP v9) ?_ ?_ ?_
    · exact ⟨[],_,_,_,_,_,_,rfl,Nat.le_refl _,fun _ z=>(nomatch z),np_un,np_un,np_un,np_un,np_un,np_un⟩
    · rintro i a _ ha ⟨vs,v4,v5,v6,v7,v8,v9,rfl,lv,hv,hv4,hv5,hv6,hv7,hv8,hv9⟩
      obtain ⟨rfl,hi⟩:=range_at ha
      array_get_dec
      refine ⟨rfl,by omega,fun r2=>?_⟩
      array_get_dec
      have bl:=mod_in r2 (b:=(fs.length:Int)) (by omega)
      obtain ⟨f,_,e2,e3⟩:=atI_some (l:=fs) bl.1 bl.2
      have lc:0<f.cd.length:=List.length_pos_iff.mpr (hG.2.2.1 f e3)
      refine ⟨by rw [List.length_map]; omega,f.d,by rw [List.length_map,atI_map,e2]; rfl,?_⟩
      unfold Fld.d
      array_get_dec
      have bc:=mod_in (r2 / 8) (b:=(f.cd.length:Int)) (by omega)
      rw [List.length_map]
      refine ⟨by omega,?_⟩
      rw [show PyData.tuple [.str f.nm,.int (r2 / 8 % (f.cd.length:Int))]=valD (f.nm,(r2 / 8 % (f.cd.length:Int)).toNat) by unfold valD; rw [Int.toNat_of_nonneg bc.1]]
      generalize hvv:((f.nm,(r2 / 8 % (f.cd.length:Int)).toNat):Val)=v
      have hvin:VIn fs v:=⟨f,e3,by rw [← hvv],by rw [← hvv]; show (r2 / 8 % (f.cd.length:Int)).toNat<f.cd.length; omega⟩
      rw [any_val]
      refine ifB_2 (fun hb=>?_) (fun hb=>?_)
      · array_get_dec
        refine ⟨by rw [List.length_map]; omega,?_⟩
        refine ⟨vs++[v],_,_,_,_,_,_,ds_eq (by rw [List.map_append]; rfl) (by omega),by rw [List.length_append,List.length_singleton]; omega,fun u hu=>?_,np_sh,np_sh,np_sh,np_sh,np_sh,np_sh⟩
        rcases List.mem_append.mp hu with z | z
        · exact hv u z
        · rw [List.mem_singleton.mp z]; exact hvin
      · array_get_dec
        exact ⟨vs,_,_,_,_,_,_,ds_eq rfl (by omega),by omega,hv,np_sh,np_sh,np_sh,np_sh,np_sh,np_sh⟩
    · rintro _ ⟨vs,v4,v5,v6,v7,v8,v9,rfl,lv,hv,hv4,hv5,hv6,hv7,hv8,hv9⟩
      rw [List.length_range] at lv ⊢
      array_get_dec
      exact ⟨by omega,hR vs _ (by omega) (by omega) (by omega) hv⟩
theorem sc__law_written:FnScope ["_law_layout_here", "_law_values_here", "_law_told", "_law_place", "_law_name", "_law_count", "_law_code", "_law_field", "_law_number"] ["_law_layout_here", "_law_values_here"] (defScope s__law_written):=⟨rfl,rfl,rfl,by decide +kernel,rfl,by decide +kernel,by decide +kernel⟩
theorem ok__law_written {f   : Addr} {fd  : FuncData} (F:Fun K "_law_written" "_law_written" s__law_written f fd) (mz_sorted:mg "sorted" = none) (mz_set:mg "set" = none) (mz_tuple:mg "tuple" = none):FnOk P w K mg base CX0 1 f fd ["_law_layout_here", "_law_values_here"] (SpP K (pfLW)):=by
  refine' fn_pure (k:=0) F sc__law_written (fun cdv A outer s H E hr=>?hb) ?h
  case hb =>
    have hu64:=hr.units
    have CS1:∀ {scope:Scope} (h:scope={ kind:=.function,names:=[(".0",.local),("_law_notch",.local),("_law_place",.free)],isGenerator:=false,isCoroutine:=false }),
        CompScope (cxOf CX0 P w K mg base ["_law_layout_here", "_law_values_here", "_law_told", "_law_place", "_law_name", "_law_count", "_law_code", "_law_field", "_law_number"] "_law_written" (defScope s__law_written) f cdv A outer s H E).nox scope [("_law_place",s.heap.objs.size+1)] "_law_notch" ["_law_place"] [3]:=by
      rintro scope rfl
      refine ⟨by rfl,.inl (by decide +kernel),by rfl,by decide +kernel,.inl rfl,fun y c h=>?_,by rfl,by decide +kernel,rfl,fun k y j e1 e2=>?_⟩
      · have z:=lookup_mem h
        simp only [List.mem_cons,List.not_mem_nil,or_false,Prod.mk.injEq] at z
        obtain ⟨rfl,rfl⟩:=z; rfl
      · match k,e1,e2 with
        | 0,e1,e2=>cases e1; cases e2; exact ⟨rfl,rfl,by first | exact .inl rfl | exact .inr rfl⟩
        | k+1,e1,e2=>cases e1
    exact ds_cons (ds_set (i:=2) sc__law_written.nd rfl (Or.inl rfl) (dp_lst dpa_nil))
      (ds_cons (ds_set (i:=3) sc__law_written.nd rfl (Or.inr rfl) dp_int)
      (ds_cons (ds_for PassesOwn.never rfl (dil (dp_var (pv 0))) (dg_tup (n:=3) rfl (dgs_cons (dg_name (i:=4) sc__law_written.nd rfl (Or.inl rfl)) (dgs_cons (dg_name (i:=5) sc__law_written.nd rfl (Or.inl rfl)) (dgs_cons (dg_name (i:=6) sc__law_written.nd rfl (Or.inl rfl)) dgs_nil))))
      (ds_cons (ds_for PassesOwn.never rfl (dil (dp_var (pv 1))) (dg_tup (n:=2) rfl (dgs_cons (dg_name (i:=7) sc__law_written.nd rfl (Or.inl rfl)) (dgs_cons (dg_name (i:=8) sc__law_written.nd rfl (Or.inl rfl)) dgs_nil)))
        (ds_one (ds_if (dt_eq hu64 (dp_var (pv 7)) (dp_var (pv 4)))
          (ds_one (ds_set (i:=2) sc__law_written.nd rfl (Or.inl rfl) (dp_cat (dp_var (pv 2)) (dp_comp (CS1 rfl) rfl (dit (dp_ixS (dp_var (pv 6)) (dp_var (pv 8)))) (fun _ _ _=>dts_none) (fun _ _ _=>dp_add (dp_var (pv 1)) (dp_var (pv 0))))))) ds_nil)))
        (ds_one (ds_set (i:=3) sc__law_written.nd rfl (Or.inr rfl) (dp_add (dp_var (pv 3)) (dp_var (pv 5)))))))
      (ds_one (ds_ret (dp_callTy tuple_ok (cs_tuple (i:=true)) rfl mz_tuple (by decide +kernel) (dpa_cons (dp_ss rfl rfl mz_sorted rfl mz_set (dpa_cons (dp_var (pv 2)) dpa_nil)) dpa_nil))))))
  case h =>
    rintro ds R ⟨fs,vs,rfl,hL,lv,hv,hR⟩
    refine ⟨rfl,?_⟩
    unfold layD valsD
    array_get_dec
    have e0:fs.map Fld.d=(zb fs 0).map fun q=>q.2.d:=by
      conv=>lhs; rw [← zb_snd fs 0]
      rw [List.map_map]
      rfl
    have lz:(zb fs 0).length=fs.length:=by have:=congrArg List.length (zb_snd fs 0); simpa using this
    have rc:∀ (q:Int×Fld),q∈zb fs 0→∀ v∈vs,∀ x∈cM q v,0≤x∧x<60:=fun q hq v hv' x hx=>by
      obtain ⟨p,hp⟩:=vok_of 0 hL.2 (hv v hv')
      exact (plc_rise hL.1 hp).2 x ((plcM_mem hL.2 hp x).mpr ⟨q,hq,hx⟩)
    refine forI (l:=zb fs 0) (g:=fun q=>q.2.d) e0 (fun i δ=>∃ (v4 v5 v6 v7 v8:DV),δ=⟨[.dat .sh (.list (fs.map Fld.d)),.dat .sh (.list (vs.map valD)),.dat .sh (.list ((((zb fs 0).take i).flatMap fun q=>vs.flatMap (cM q)).map PyData.int)),.dat .sh (.int ((fs.take i).map Fld.ct).sum),v4,v5,v6,v7,v8],0⟩∧(((zb fs 0).take i).flatMap fun q=>vs.flatMap (cM q)).length≤1000 * i) ?_ ?_ ?_
    · exact ⟨_,_,_,_,_,rfl,Nat.le_refl _⟩
    · rintro i q _ hq ⟨v4,v5,v6,v7,v8,rfl,lt⟩
      obtain ⟨q1,q2⟩:=zb_at hq
      have qm:=List.mem_of_getElem? hq
      have fm:=List.mem_of_getElem? q2
      have hi:=(List.getElem?_eq_some_iff.mp q2).1
      have hi8:fs.length≤8:=hL.1.1
      unfold Fld.d
      array_get_dec
      generalize hB:((zb fs 0).take i).flatMap (fun q=>vs.flatMap (cM q))=B at lt
      refine forI (l:=vs) (g:=valD) rfl (fun j δ=>∃ (v7 v8:DV),δ=⟨[.dat .sh (.list (fs.map fun f=>.tuple [.str f.nm,.int f.ct,.list (f.cd.map wordD)])),.dat .sh (.list (vs.map valD)),.dat .sh (.list ((B++(vs.take j).flatMap (cM q)).map PyData.int)),.dat .sh (.int ((fs.take i).map Fld.ct).sum),.dat .sh (.str q.2.nm),.dat .sh (.int q.2.ct),.dat .sh (.list (q.2.cd.map wordD)),v7,v8],0⟩∧((vs.take j).flatMap (cM q)).length≤60 * j) ?_ ?_ ?_
      · exact ⟨v7,v8,ds_eq (by rw [List.take_zero,List.flatMap_nil,List.append_nil]) rfl,Nat.le_refl _⟩
      · rintro j v _ hj ⟨v7,v8,rfl,lj⟩
        have vm:=List.mem_of_getElem? hj
        have jl:=(List.getElem?_eq_some_iff.mp hj).1
        unfold valD
        array_get_dec
        refine ifB_2 (fun hb=>?_) (fun hb=>?_)
        · have hb':v.1=q.2.nm:=by simpa using hb
          obtain ⟨g,hg,g1,g2⟩:=hv v vm
          have egq:g=q.2:=by
            obtain ⟨k1,hk1⟩:=List.mem_iff_getElem?.mp hg
            have l1:=(List.getElem?_eq_some_iff.mp hk1).1
            have:=List.getElem?_inj (l:=fs.map Fld.nm) (i:=k1) (j:=i) (by rw [List.length_map]; exact l1) hL.2
            have e:=this.mp (by rw [List.getElem?_map,List.getElem?_map,hk1,q2]; exact congrArg some (g1.trans hb'))
            subst e
            rw [hk1] at q2
            exact Option.some.inj q2
          subst egq
          have hw:q.2.cd[v.2]? = some (q.2.cd[v.2]'g2):=List.getElem?_eq_getElem g2
          generalize q.2.cd[v.2]=w at hw
          have rw_:=(hL.1.2.1 q.2 fm).2 w (List.mem_of_getElem? hw)
          have l60:=rising_len (rw_.up (hL.1.2.1 q.2 fm).1.2.2.1)
          have ec:cM q v=w.map (q.1 + ·):=by
            unfold cM
            rw [if_pos hb'.symm,List.getD_eq_getElem?_getD,hw]
            rfl
          array_get_dec
          refine ⟨wordD w,by rw [atI_map,atI_nat hw]; rfl,?_⟩
          array_get_dec
          refine compM (l:=w) (g:=PyData.int) rfl (fun x=>.int (((fs.take i).map Fld.ct).sum+x)) (fun x hx yes no hy=>?_) ?_
          · array_get_dec
            exact hy
          array_get_dec
          have lm:(B++(vs.take j).flatMap (cM q)).length≤100000:=by rw [List.length_append]; omega
          refine ⟨by rw [List.length_map,List.length_map]; omega,.dat .sh (.str v.1),.dat .sh (.int v.2),ds_eq ?_ rfl,?_⟩
          · rw [take_more hj,List.flatMap_append,List.flatMap_cons,List.flatMap_nil,List.append_nil,ec,q1,Int.zero_add]
            rw [← List.append_assoc,List.map_append (l₁:=B++(vs.take j).flatMap (cM q)),List.map_map]
            rfl
          · rw [take_more hj,List.flatMap_append,List.length_append,List.flatMap_cons,List.flatMap_nil,List.append_nil,ec,List.length_map]
            omega
        · have hb':¬ q.2.nm=v.1:=fun z=>by simp [z] at hb
          have ec:cM q v=[]:=if_neg hb'
          array_get_dec
          refine ⟨.dat .sh (.str v.1),.dat .sh (.int v.2),ds_eq ?_ rfl,?_⟩
          · rw [take_more hj,List.flatMap_append,List.flatMap_cons,List.flatMap_nil,List.append_nil,ec,List.append_nil]
          · rw [take_more hj,List.flatMap_append,List.length_append,List.flatMap_cons,List.flatMap_nil,List.append_nil,ec,List.length_nil]
            omega
      · rintro _ ⟨v7,v8,rfl,lj⟩
        rw [List.take_length] at lj ⊢
        array_get_dec
        refine ⟨.dat .sh (.str q.2.nm),.dat .sh (.int q.2.ct),.dat .sh (.list (q.2.cd.map wordD)),v7,v8,ds_eq ?_ rfl,?_⟩
        · have es:((fs.take (i+1)).map Fld.ct).sum=((fs.take i).map Fld.ct).sum+q.2.ct:=by
            rw [take_more q2,List.map_append,List.sum_append,List.map_cons,List.map_nil,List.sum_cons,List.sum_nil,Int.add_zero]
          rw [es,take_more hq,List.flatMap_append,hB,List.flatMap_cons,List.flatMap_nil,List.append_nil]
        · rw [take_more hq,List.flatMap_append,List.length_append,hB,List.flatMap_cons,List.flatMap_nil,List.append_nil]
          omega
    · rintro _ ⟨v4,v5,v6,v7,v8,rfl,lt⟩
      rw [lz,List.take_length,show (zb fs 0).take fs.length=zb fs 0 from List.take_of_length_le (by omega)]
      array_get_dec
      refine ⟨_,rfl,fun x hx=>?_,?_⟩
      · obtain ⟨q,hq,hx⟩:=List.mem_flatMap.mp hx
        obtain ⟨v,hv',hx⟩:=List.mem_flatMap.mp hx
        exact rc q hq v hv' x hx
      · array_get_dec
        unfold wrM at hR
        rw [sset_ext fun x=>wr_mem hL hv (x:=x)]
        exact hR
end
theorem plcI_out:∀ {fs:List Fld} {b:Int} {v:VI},(∀ f∈fs,f.nm≠v.1)→plcI fs b v=none
  | [],_,_,_=>rfl
  | f::fs,b,v,h=>by
    unfold plcI
    rw [if_neg (h f (List.mem_cons_self ..))]
    exact plcI_out fun g hg=>h g (List.mem_cons_of_mem _ hg)
theorem plcI_in:∀ {fs:List Fld} {b:Int} {f:Fld} {n:Int},f∈fs→(fs.map Fld.nm).Nodup→(n<0∨(f.cd.length:Int)≤n)→plcI fs b (f.nm,n)=none
  | [],_,_,_,h,_,_=>by cases h
  | g::fs,b,f,n,h,nd,hn=>by
    rw [List.map_cons,List.nodup_cons] at nd
    unfold plcI
    rcases List.mem_cons.mp h with rfl | h
    · rw [if_pos rfl]
      split
      · rfl
      · rename_i h0
        rw [List.getElem?_eq_none (by rcases hn with hn | hn; exact absurd hn h0; show f.cd.length≤n.toNat; omega)]
        rfl
    · rw [if_neg (fun e=>nd.1 (List.mem_map.mpr ⟨f,h,e.symm⟩))]
      exact plcI_in h nd.2 hn
theorem nm_q:∀ x∈nmsL,(reprText (x++Str.ofString "q")).length≤30∧(reprText x).length≤30∧∀ y∈nmsL,y≠x++Str.ofString "q" ∧ y≠Str.ofString "none" ∧ y≠Str.ofString "zz" := by decide +kernel
theorem eqD_vi (a b:VI):eqD (viD a) (viD b)=decide (a=b):=by
  unfold viD
  rw [eqD_tup,eqDs_cons,eqDs_cons,eqDs_nil,eqD_str,eqD_intd,Bool.and_true]
  obtain ⟨a1,a2⟩:=a
  obtain ⟨b1,b2⟩:=b
  rw [Bool.eq_iff_iff]
  simp
theorem any_vi (l:List VI) (v:VI):((l.map viD).any fun e=>eqD e (viD v))=decide (v∈l):=(any_map eqD_vi l v).trans (decide_eq_decide.mpr Iff.rfl)
instance {v:VI}:Im (viD v):=⟨by unfold viD; simp [imm,immAll]⟩
instance {v:VI}:Dp (viD v) 1:=⟨by unfold viD; simp [PyData.depth,PyData.depthAll]⟩
def visD (vs:List VI):PyData:=.list (vs.map viD)
def okI (fs:List Fld) (v:VI):Prop:=∃ p,plcI fs 0 v=some p
def foundI (cs:List (List VI)) (q:List VI):List Nat:=(cs.zipIdx.filter fun p=>q.all fun v=>decide (v∈p.1)).map (·.2)
def wrongI (fs:List Fld) (cs:List (List VI)) (q:List VI):List Nat:=(cs.zipIdx.filter fun p=>!(q.all fun v=>decide (v∈p.1)) && sub (wrI fs q) (wrI fs p.1)).map (·.2)
def findI (fs:List Fld) (cs:List (List VI)) (q:List VI):PyData:=.tuple [natsD (foundI cs q),natsD (wrongI fs cs q)]
def pfFindX (CN:Addr):PX:=fun ds R Ex=>∃ (fs:List Fld) (cs:List (List VI)) (q:List VI),ds=[layD fs,.list (cs.map visD),visD q]∧LOk fs∧cs.length≤60∧((∀ c∈cs,∀ v∈c,okI fs v)→(∀ v∈q,okI fs v)→R (findI fs cs q))∧((∃ c∈cs,∃ v∈c,plcI fs 0 v=none)→Ex CN)∧((∃ v∈q,plcI fs 0 v=none)→Ex CN)
section
variable {P:Program} {w:World} {K:PySem.W.Frag} {mg:Str→Option Value} {base:Heap}
theorem sc_find:FnScope ["layout", "cards", "question", "words", "needles", "found", "wrong", "number", "word"] ["layout", "cards", "question"] (defScope s_find):=⟨rfl,rfl,rfl,by decide +kernel,rfl,by decide +kernel,by decide +kernel⟩
theorem ok_find {f f_within f_written_as CN:Addr} {fd d_within d_written_as:FuncData} (F:Fun K "find" "find" s_find f fd) (G_within:FnOk P w K mg base CX0 1 f_within d_within ["one", "other"] (SpP K (pfIn))) (b_within:Binds K d_within ["one", "other"] []) (k_within:PySem.W.keepIn K (.ref f_within)=true) (m_within:mg "within" = some (.ref f_within)) (G_written_as:FnOk P w K mg base (CXN P w) 3 f_written_as d_written_as ["layout", "values"] (SpX K (pfWriteX CN))) (b_written_as:Binds K d_written_as ["layout", "values"] []) (k_written_as:PySem.W.keepIn K (.ref f_written_as)=true) (m_written_as:mg "written_as" = some (.ref f_written_as)) (mz_enumerate:mg "enumerate" = none) (mz_all:mg "all" = none):FnOk P w K mg base (CXN P w) 4 f fd ["layout", "cards", "question"] (SpX K (pfFindX CN)):=by
  refine' fn_pureX (k:=3) F sc_find (fun cdv A outer s H E Ex hr hE=>?hb) ?h
  case hb =>
    have hr1:Room 1 _:=hr.mono (by decide)
    have hr2:Room 2 _:=hr.mono (by decide)
    have hr3:Room 3 _:=hr.mono (by decide)
    have hu64:=hr.units
    have CS1:∀ {scope:Scope} (h:scope={ kind:=.function,names:=[(".0",.local),("values",.local),("written_as",.globalImplicit),("layout",.free)],isGenerator:=false,isCoroutine:=false }),
        CompScope (cxOf (CXN P w) P w K mg base ["layout", "cards", "question", "words", "needles", "found", "wrong", "number", "word"] "find" (defScope s_find) f cdv A outer s H E) scope [("layout",s.heap.objs.size+1)] "values" ["layout"] [0]:=by
      rintro scope rfl
      refine ⟨by rfl,.inl (by decide +kernel),by rfl,by decide +kernel,.inl rfl,fun y c h=>?_,by rfl,by decide +kernel,rfl,fun k y j e1 e2=>?_⟩
      · have z:=lookup_mem h
        simp only [List.mem_cons,List.not_mem_nil,or_false,Prod.mk.injEq] at z
        obtain ⟨rfl,rfl⟩:=z; rfl
      · match k,e1,e2 with
        | 0,e1,e2=>cases e1; cases e2; exact ⟨rfl,rfl,by first | exact .inl rfl | exact .inr rfl⟩
        | k+1,e1,e2=>cases e1
    have CS2:∀ {scope:Scope} (h:scope={ kind:=.function,names:=[(".0",.local),("value",.local),("cards",.free),("number",.free)],isGenerator:=false,isCoroutine:=false }),
        CompScope (cxOf (CXN P w) P w K mg base ["layout", "cards", "question", "words", "needles", "found", "wrong", "number", "word"] "find" (defScope s_find) f cdv A outer s H E) scope [("number",s.heap.objs.size+3),("cards",s.heap.objs.size+2)] "value" ["cards", "number"] [1,7]:=by
      rintro scope rfl
      refine ⟨by rfl,.inl (by decide +kernel),by rfl,by decide +kernel,.inl rfl,fun y c h=>?_,by rfl,by decide +kernel,rfl,fun k y j e1 e2=>?_⟩
      · have z:=lookup_mem h
        simp only [List.mem_cons,List.not_mem_nil,or_false,Prod.mk.injEq] at z
        rcases z with ⟨rfl,rfl⟩ | ⟨rfl,rfl⟩ <;> rfl
      · match k,e1,e2 with
        | 0,e1,e2=>cases e1; cases e2; exact ⟨rfl,rfl,by first | exact .inl rfl | exact .inr rfl⟩
        | 1,e1,e2=>cases e1; cases e2; exact ⟨rfl,rfl,by first | exact .inl rfl | exact .inr rfl⟩
        | k+2,e1,e2=>cases e1
    exact dsx_cons (dsx_setC (o:=false) rfl (i0:=3) sc_find.nd rfl rfl (CS1 rfl) rfl (dil (dp_var (pv 1))) (fun _ _ _=>dts_none) (fun _ _ _ b0=>dpx_callX hE G_written_as hr3 rfl m_written_as k_written_as b_written_as (pass_block rfl rfl b0) (dpax <| dpa_cons (dp_var (pv 1)) (dpa_cons (dp_var (pv 0)) dpa_nil))))
      (dsx_cons (dsx_set (i:=4) sc_find.nd rfl (Or.inl rfl) (dpx_callX hE G_written_as hr3 rfl m_written_as k_written_as b_written_as passN (dpax <| dpa_cons (dp_var (pv 0)) (dpa_cons (dp_var (pv 2)) dpa_nil))))
      (dssx <| ds_cons (ds_setO (i:=5) sc_find.nd rfl (Or.inl rfl) (dp_lst dpa_nil))
      (ds_cons (ds_setO (i:=6) sc_find.nd rfl (Or.inl rfl) (dp_lst dpa_nil))
      (ds_cons (ds_for passOwnN rfl (di_enum rfl mz_enumerate (dpa_cons (dp_var (pv 3)) dpa_nil)) (dg_tup (n:=2) rfl (dgs_cons (dg_name (i:=7) sc_find.nd rfl (Or.inr rfl)) (dgs_cons (dg_name (i:=8) sc_find.nd rfl (Or.inl rfl)) dgs_nil)))
      (ds_one (ds_if (dt_val (dp_callB (call_all rfl) cs_all rfl mz_all (by decide +kernel) (dpa_cons (dp_comp (CS2 rfl) rfl (dil (dp_var (pv 2))) (fun _ _ _=>dts_none) (fun _ _ _=>dp_in hu64 (dp_var (pv 0)) (dp_ixS (dp_var (pv 1)) (dp_var (pv 2))))) dpa_nil)))
        (ds_one (ds_append (pv 5) (dp_var (pv 7)))) (ds_one (ds_if (dt_val (dp_call G_within hr1 rfl m_within k_within b_within pass0 (dpa_cons (dp_var (pv 4)) (dpa_cons (dp_var (pv 8)) dpa_nil))))
          (ds_one (ds_append (pv 6) (dp_var (pv 7)))) ds_nil)))))
      (ds_one (ds_ret (dp_tup (dpa_cons (dp_take (pv 5)) (dpa_cons (dp_take (pv 6)) dpa_nil)))))))))
  case h =>
    rintro ds R Ex ⟨fs,cs,q,rfl,hL,lc,hR,hX1,hX2⟩
    refine ⟨rfl,?_⟩
    array_get_dec
    refine compBy (l:=cs) (g:=visD) rfl (fun i acc m=>m=0∧acc=(cs.take i).map (fun c=>wordD (wrI fs c))∧∀ c∈cs.take i,∀ v∈c,okI fs v) ?_ ?_ ?_
    · exact ⟨rfl,rfl,fun _ z=>(nomatch z)⟩
    · rintro i c acc m hc ⟨rfl,rfl,hg⟩
      have cm:=List.mem_of_getElem? hc
      unfold visD
      array_get_dec
      refine ⟨fs,c,rfl,hL,fun good=>?_,fun ⟨v,hv,hn⟩=>hX1 ⟨c,cm,v,hv,hn⟩⟩
      array_get_dec
      refine ⟨by rw [take_more hc,List.map_append]; rfl,fun x hx=>?_⟩
      rw [take_more hc] at hx
      rcases List.mem_append.mp hx with z | z
      · exact hg x z
      · rw [List.mem_singleton.mp z]; exact good
    rintro acc m ⟨rfl,rfl,hg⟩
    rw [List.take_length] at hg ⊢
    array_get_dec
    refine ⟨fs,q,rfl,hL,fun goodq=>?_,hX2⟩
    array_get_dec
    rw [show (cs.map fun c=>wordD (wrI fs c)).zipIdx.map (fun p=>PyData.tuple [.int (p.2:Int),p.1])=cs.zipIdx.map fun p=>.tuple [.int (p.2:Int),wordD (wrI fs p.1)] by rw [zip_map,List.map_map]; rfl]
    refine forI (l:=cs.zipIdx) (g:=fun p=>.tuple [.int (p.2:Int),wordD (wrI fs p.1)]) rfl (fun i δ=>∃ (v7 v8:DV),δ=⟨[.dat .sh (layD fs),.dat .sh (.list (cs.map visD)),.dat .sh (visD q),.dat .sh (.list (cs.map fun c=>wordD (wrI fs c))),.dat .sh (wordD (wrI fs q)),.dat .ow (.list (((cs.zipIdx.take i).filter fun p=>q.all fun v=>decide (v∈p.1)).map fun p=>.int (p.2:Int))),.dat .ow (.list (((cs.zipIdx.take i).filter fun p=>!(q.all fun v=>decide (v∈p.1)) && sub (wrI fs q) (wrI fs p.1)).map fun p=>.int (p.2:Int))),v7,v8],0⟩∧NP v7∧NP v8) ?_ ?_ ?_
    · exact ⟨_,_,rfl,np_un,np_un⟩
    · rintro i p _ hp ⟨v7,v8,rfl,hv7,hv8⟩
      obtain ⟨ep,hp1,hp2,hp3⟩:=zip_at hp
      have st1:=filt_take (fun p:List VI×Nat=>q.all fun v=>decide (v∈p.1)) (fun p=>PyData.int (p.2:Int)) hp
      have st2:=filt_take (fun p:List VI×Nat=>!(q.all fun v=>decide (v∈p.1)) && sub (wrI fs q) (wrI fs p.1)) (fun p=>PyData.int (p.2:Int)) hp
      have l1:=List.length_filter_le (fun p:List VI×Nat=>q.all fun v=>decide (v∈p.1)) (cs.zipIdx.take i)
      have l2:=List.length_filter_le (fun p:List VI×Nat=>!(q.all fun v=>decide (v∈p.1)) && sub (wrI fs q) (wrI fs p.1)) (cs.zipIdx.take i)
      rw [List.length_take] at l1 l2
      unfold visD
      array_get_dec
      rw [ep]
      refine compM (l:=q) (g:=viD) rfl (fun v=>.bool (decide (v∈p.1))) (fun v hv yes no hy=>?_) ?_
      · array_get_dec
        refine ⟨.list (p.1.map viD),atI_nat (by rw [List.getElem?_map,hp1]; rfl),?_⟩
        array_get_dec
        rw [any_vi]
        exact hy
      array_get_dec
      refine ⟨q.map fun v=>decide (v∈p.1),by rw [List.map_map]; rfl,?_⟩
      rw [List.all_map]
      show ifB _ _ _ (q.all fun v=>decide (v∈p.1)) _
      refine ifB_2 (fun hb=>?_) (fun hb=>?_)
      · array_get_dec
        refine ⟨by rw [List.length_map]; omega,.dat .sh (.int i),.dat .sh (wordD (wrI fs p.1)),ds_eq ?_ rfl,np_sh,np_sh⟩
        rw [st1,st2,hb,ep]
        simp [visD]
      · array_get_dec
        refine ⟨_,_,rfl,?_⟩
        refine ifB_2 (fun hb2=>?_) (fun hb2=>?_)
        · array_get_dec
          refine ⟨by rw [List.length_map]; omega,.dat .sh (.int i),.dat .sh (wordD (wrI fs p.1)),ds_eq ?_ rfl,np_sh,np_sh⟩
          rw [st1,st2,hb,hb2,ep]
          simp [visD]
        · array_get_dec
          refine ⟨.dat .sh (.int i),.dat .sh (wordD (wrI fs p.1)),ds_eq ?_ rfl,np_sh,np_sh⟩
          rw [st1,st2,hb,hb2]
          simp [visD]
    · rintro _ ⟨v7,v8,rfl,hv7,hv8⟩
      rw [List.length_zipIdx,show cs.zipIdx.take cs.length=cs.zipIdx from List.take_of_length_le (by rw [List.length_zipIdx]; exact Nat.le_refl _)]
      array_get_dec
      have hR:=hR hg goodq
      unfold findI foundI wrongI natsD at hR
      rw [List.map_map,List.map_map] at hR
      exact hR
end
structure KX (K:PySem.W.Frag) (NE CN:Addr) (os:List Addr):Prop where
  ek:ExcK K CN
  v:PySem.W.kitOne K (.ref CN) (.type "ValueError")=some true
  o:PySem.W.kitAny K (.ref CN) (os.map Value.ref)=some false
  c:PySem.W.kitOne K (.ref CN) (.ref CN)=some true
  n:PySem.W.subIn K (.ref CN) (.ref NE)=some true
def pfRef:PF:=fun ds R=>∃ (fs:List Fld) (cs:List (List VI)) (q:List VI),ds=[layD fs,.list (cs.map visD),visD q]∧LOk fs∧cs.length≤60∧((∃ c∈cs,∃ v∈c,plcI fs 0 v=none)∨∃ v∈q,plcI fs 0 v=none)∧R (.bool true)
section
variable {P:Program} {w:World} {K:PySem.W.Frag} {mg:Str→Option Value} {base:Heap}
theorem sc__law_refused:FnScope ["_law_layout_here", "_law_cards", "_law_question_here", "_law_kept", "e"] ["_law_layout_here", "_law_cards", "_law_question_here"] (defScope s__law_refused):=⟨rfl,rfl,rfl,by decide +kernel,rfl,by decide +kernel,by decide +kernel⟩
theorem ok__law_refused {f f_find CN NE:Addr} {fd d_find:FuncData} (F:Fun K "_law_refused" "_law_refused" s__law_refused f fd) (G_find:FnOk P w K mg base (CXN P w) 4 f_find d_find ["layout", "cards", "question"] (SpX K (pfFindX CN))) (b_find:Binds K d_find ["layout", "cards", "question"] []) (k_find:PySem.W.keepIn K (.ref f_find)=true) (m_find:mg "find" = some (.ref f_find)) (mz_isinstance:mg "isinstance" = none) (m_NoValue:mg "NoValue" = some (.ref CN)) (m_NeedleError:mg "NeedleError" = some (.ref NE)) (e_NeedleError:PySem.W.excIn K NE bmV "ValueError.__new__" = true) (T:KX K NE CN []):FnOk P w K mg base CX0 5 f fd ["_law_layout_here", "_law_cards", "_law_question_here"] (SpP K (pfRef)):=by
  refine F.ok sc__law_refused (fun us H Q E z=>?_) (fun cdv A outer s H us Q E hr z=>?_)
  · obtain ⟨As,n,ds,R,eu,ok,q,⟨fs,cs,qs,rfl,_⟩,_⟩:=z
    have l2:=datas_len q
    rw [List.length_map] at l2
    have l3:=congrArg List.length eu
    rw [List.length_map,List.length_map] at l3
    show us.length=3
    rw [← l3,l2]
    rfl
  obtain ⟨As,n,ds,R,eu,ok,q,⟨fs,cs,qs,rfl,hL,lc,hbad,hR⟩,k1⟩:=z
  have lu:us.length=3:=by
    have l2:=datas_len q
    rw [List.length_map] at l2
    have l3:=congrArg List.length eu
    rw [List.length_map,List.length_map] at l3
    rw [← l3,l2]
    rfl
  match us,lu,eu with
  | [u0,u1,u2],_,eu =>
  have hr4:Room 4 _:=hr.mono (by decide)
  have hu64:=hr.units
  refine ⟨_,pss_cons (ps_set (i:=3) sc__law_refused.nd rfl (Or.inl rfl) pe_non)
    (pss_cons (ps_tryE (k:=4) (j:=3) rfl rfl sc__law_refused.nd rfl rfl rfl rfl rfl m_NeedleError e_NeedleError G_find hr4 rfl m_find k_find b_find (pa_cons (pv 0) (pa_cons (pv 1) (pa_cons (pv 2) pa_nil))))
    (pss_one (ps_ret (pe_callB (r:=rIsx K) call_isx rfl mz_isinstance (by decide +kernel) (pa_cons (pv 3) (pa_cons (pe_glob (v:=.ref CN) rfl m_NoValue rfl) pa_nil)))))),?_⟩
  refine ⟨_,rfl,_,rfl,_,rfl,As,n,_,(fun _=>False),(fun C=>C=CN),eu,ok,q,⟨fs,cs,qs,rfl,hL,lc,fun g1 g2=>?_,fun _=>rfl,fun _=>rfl⟩,fun _ _ _ _ z=>z.elim,fun C H1 hC s1=>⟨C,rfl,by rw [hC]; exact T.n,fun y ny=>?_⟩⟩
  · rcases hbad with ⟨c,hc,v,hv,hn⟩ | ⟨v,hv,hn⟩
    · obtain ⟨p,hp⟩:=g1 c hc v hv
      rw [hn] at hp
      cases hp
    · obtain ⟨p,hp⟩:=g2 v hv
      rw [hn] at hp
      cases hp
  have hC:C=CN:=hC
  subst hC
  have s2:=same_new ny (ExO y C)
  have ey:=upd_same (H:=H1) (a:=y) (o:=ExO y C)
  generalize upd H1 y (ExO y C)=H2 at s2 ey
  exact ⟨_,rfl,y,C,.ref C,true,rfl,ey,T.ek,rfl,T.c,k1 _ _ [] _ hR (.bl true) List.nodup_nil (fun _ z=>(nomatch z)) (s1.trans s2)⟩
end
def pfDue:PF:=fun ds R=>∃ (fs:List Fld) (cs:List (List Val)) (q:List Val),ds=[layD fs,cardsD cs,valsD q]∧LL fs∧cs.length≤60∧(∀ c∈cs,c.length≤8∧∀ v∈c,VIn fs v)∧q.length≤8∧(∀ v∈q,VIn fs v)∧R (.tuple [natsD (foundM cs q),natsD (wrongM fs cs q)])
theorem found_any {cs:List (List Val)} (q:List Val) {i:Nat} {p:List Val×Nat} (h:cs.zipIdx[i]? = some p):(((cs.zipIdx.filter fun p=>q.all fun v=>decide (v∈p.1)).map fun p=>PyData.int (p.2:Int)).any fun e=>eqD e (.int (p.2:Int)))=q.all fun v=>decide (v∈p.1):=by
  rw [Bool.eq_iff_iff,List.any_map,List.any_eq_true]
  constructor
  · rintro ⟨r,hr,e⟩
    obtain ⟨h1,h2⟩:=List.mem_filter.mp hr
    have e:eqD (.int (r.2:Int)) (.int (p.2:Int))=true:=e
    rw [eqD_intd] at e
    have e2:r.2=p.2:=by have:=of_decide_eq_true e; omega
    have m1:=List.mem_zipIdx_iff_getElem?.mp h1
    have m2:=List.mem_zipIdx_iff_getElem?.mp (List.mem_of_getElem? h)
    rw [e2,m2] at m1
    rw [← Option.some.inj m1] at h2
    exact h2
  · intro hh
    exact ⟨p,List.mem_filter.mpr ⟨List.mem_of_getElem? h,hh⟩,by show eqD _ _=true; rw [eqD_intd,decide_eq_true rfl]⟩
def dfQuest:DF:=fun ds n R=>∃ (fs:List Fld) (cs:List (List Val)),ds=[layD fs,cardsD cs]∧PL fs∧cs.length≤60∧(∀ c∈cs,c.length≤8∧∀ v∈c,VIn fs v)∧n≤50000∧∀ (q:List Val) n',n≤n'→n'≤n+30→q.length≤8→(∀ v∈q,VIn fs v)→R (valsD q) n'
section
variable {P:Program} {w:World} {K:PySem.W.Frag} {mg:Str→Option Value} {base:Heap}
theorem sc__law_due:FnScope ["_law_layout_here", "_law_cards", "_law_question_here", "_law_needles", "_law_i", "_law_values_here", "_law_found", "_law_wrong", "_law_word"] ["_law_layout_here", "_law_cards", "_law_question_here"] (defScope s__law_due):=⟨rfl,rfl,rfl,by decide +kernel,rfl,by decide +kernel,by decide +kernel⟩
theorem ok__law_due {f f_L_written  : Addr} {fd d_L_written:FuncData} (F:Fun K "_law_due" "_law_due" s__law_due f fd) (G_L_written:FnOk P w K mg base CX0 1 f_L_written d_L_written ["_law_layout_here", "_law_values_here"] (SpP K (pfLW))) (b_L_written:Binds K d_L_written ["_law_layout_here", "_law_values_here"] []) (k_L_written:PySem.W.keepIn K (.ref f_L_written)=true) (m_L_written:mg "_law_written" = some (.ref f_L_written)) (mz_enumerate:mg "enumerate" = none):FnOk P w K mg base CX0 2 f fd ["_law_layout_here", "_law_cards", "_law_question_here"] (SpP K (pfDue)):=by
  refine' fn_pure (k:=1) F sc__law_due (fun cdv A outer s H E hr=>?hb) ?h
  case hb =>
    have hr1:Room 1 _:=hr.mono (by decide)
    have hu64:=hr.units
    have CS1:∀ {scope:Scope} (h:scope={ kind:=.function,names:=[(".0",.local),("_law_i",.local),("_law_values_here",.cell),("_law_question_here",.free)],isGenerator:=false,isCoroutine:=false }),
        CompScope (cxOf CX0 P w K mg base ["_law_layout_here", "_law_cards", "_law_question_here", "_law_needles", "_law_i", "_law_values_here", "_law_found", "_law_wrong", "_law_word"] "_law_due" (defScope s__law_due) f cdv A outer s H E).nox scope [("_law_question_here",s.heap.objs.size+1)] "_law_i" ["_law_question_here"] [2]:=by
      rintro scope rfl
      refine ⟨by rfl,.inr ⟨"_law_values_here",fun _=>rfl,rfl,by decide +kernel⟩,by rfl,by decide +kernel,.inl rfl,fun y c h=>?_,by rfl,by decide +kernel,rfl,fun k y j e1 e2=>?_⟩
      · have z:=lookup_mem h
        simp only [List.mem_cons,List.not_mem_nil,or_false,Prod.mk.injEq] at z
        obtain ⟨rfl,rfl⟩:=z; rfl
      · match k,e1,e2 with
        | 0,e1,e2=>cases e1; cases e2; exact ⟨rfl,rfl,by first | exact .inl rfl | exact .inr rfl⟩
        | k+1,e1,e2=>cases e1
    have CS2:∀ {scope:Scope} (h:scope={ kind:=.function,names:=[(".0",.local),("_law_value",.local),("_law_values_here",.free)],isGenerator:=false,isCoroutine:=false }) (fp0:List Addr) (s0:Shared) (H0:Hp),
        CompScope (cxComp (cxOf CX0 P w K mg base ["_law_layout_here", "_law_cards", "_law_question_here", "_law_needles", "_law_i", "_law_values_here", "_law_found", "_law_wrong", "_law_word"] "_law_due" (defScope s__law_due) f cdv A outer s H E).nox { kind:=.function,names:=[(".0",.local),("_law_i",.local),("_law_values_here",.cell),("_law_question_here",.free)],isGenerator:=false,isCoroutine:=false } [("_law_question_here",s.heap.objs.size+1)] ["_law_i", "_law_values_here", "_law_question_here"] fp0 s0 H0) scope [("_law_values_here",s0.heap.objs.size+1)] "_law_value" ["_law_values_here"] [1]:=by
      rintro scope rfl fp0 s0 H0
      refine ⟨by rfl,.inl (by decide +kernel),by rfl,by decide +kernel,.inl rfl,fun y c h=>?_,by rfl,by decide +kernel,rfl,fun k y j e1 e2=>?_⟩
      · have z:=lookup_mem h
        simp only [List.mem_cons,List.not_mem_nil,or_false,Prod.mk.injEq] at z
        obtain ⟨rfl,rfl⟩:=z; rfl
      · match k,e1,e2 with
        | 0,e1,e2=>cases e1; cases e2; exact ⟨rfl,rfl,by first | exact .inl rfl | exact .inr rfl⟩
        | k+1,e1,e2=>cases e1
    have CS3:∀ {scope:Scope} (h:scope={ kind:=.function,names:=[(".0",.local),("_law_place",.local),("_law_word",.free)],isGenerator:=false,isCoroutine:=false }),
        CompScope (cxOf CX0 P w K mg base ["_law_layout_here", "_law_cards", "_law_question_here", "_law_needles", "_law_i", "_law_values_here", "_law_found", "_law_wrong", "_law_word"] "_law_due" (defScope s__law_due) f cdv A outer s H E).nox scope [("_law_word",s.heap.objs.size+2)] "_law_place" ["_law_word"] [8]:=by
      rintro scope rfl
      refine ⟨by rfl,.inl (by decide +kernel),by rfl,by decide +kernel,.inl rfl,fun y c h=>?_,by rfl,by decide +kernel,rfl,fun k y j e1 e2=>?_⟩
      · have z:=lookup_mem h
        simp only [List.mem_cons,List.not_mem_nil,or_false,Prod.mk.injEq] at z
        obtain ⟨rfl,rfl⟩:=z; rfl
      · match k,e1,e2 with
        | 0,e1,e2=>cases e1; cases e2; exact ⟨rfl,rfl,by first | exact .inl rfl | exact .inr rfl⟩
        | k+1,e1,e2=>cases e1
    exact ds_cons (ds_set (i:=3) sc__law_due.nd rfl (Or.inl rfl) (dp_call G_L_written hr1 rfl m_L_written k_L_written b_L_written pass0 (dpa_cons (dp_var (pv 0)) (dpa_cons (dp_var (pv 2)) dpa_nil))))
      (ds_cons (ds_setC2 (o:=true) (i0:=6) sc__law_due.nd rfl rfl (CS1 rfl) (.inr rfl) (by decide +kernel) rfl (di_enum rfl mz_enumerate (dpa_cons (dp_var (pv 1)) dpa_nil)) (fun _ _ _=>dts_one (dt_eq hu64 (dp_comp (CS2 rfl _ _ _) rfl (dil (dp_var (pv 2))) (fun _ _ _=>dts_one (dt_notIn hu64 (dp_var (pv 0)) (dp_var (pv 1)))) (fun _ _ _=>dp_var (pv 0))) (dp_lst dpa_nil))) (fun _ _ _=>dp_var (pv 0)))
      (ds_cons (ds_setO (i:=7) sc__law_due.nd rfl (Or.inl rfl) (dp_lst dpa_nil))
      (ds_cons (ds_for PassesOwn.never rfl (di_enum rfl mz_enumerate (dpa_cons (dp_var (pv 1)) dpa_nil)) (dg_tup (n:=2) rfl (dgs_cons (dg_name (i:=4) sc__law_due.nd rfl (Or.inl rfl)) (dgs_cons (dg_name (i:=5) sc__law_due.nd rfl (Or.inl rfl)) dgs_nil)))
      (ds_cons (ds_set (i:=8) sc__law_due.nd rfl (Or.inr rfl) (dp_call G_L_written hr1 rfl m_L_written k_L_written b_L_written pass0 (dpa_cons (dp_var (pv 0)) (dpa_cons (dp_var (pv 5)) dpa_nil))))
        (ds_one (ds_if (dt_w (dw_and (dt_notIn hu64 (dp_var (pv 4)) (dp_var (pv 6))) (dw_and1 (dt_eq hu64 (dp_comp (CS3 rfl) rfl (dit (dp_var (pv 3))) (fun _ _ _=>dts_one (dt_notIn hu64 (dp_var (pv 0)) (dp_var (pv 1)))) (fun _ _ _=>dp_var (pv 0))) (dp_lst dpa_nil)))))
        (ds_one (ds_append (pv 7) (dp_var (pv 4)))) ds_nil))))
      (ds_one (ds_ret (dp_tup (dpa_cons (dp_take (pv 6)) (dpa_cons (dp_take (pv 7)) dpa_nil))))))))
  case h =>
    rintro ds R ⟨fs,cs,q,rfl,hL,lc,hc,lq,hq,hR⟩
    refine ⟨rfl,?_⟩
    unfold cardsD
    array_get_dec
    refine ⟨fs,q,rfl,hL,lq,hq,?_⟩
    array_get_dec
    refine compI2 (l:=cs.zipIdx) (g1:=fun p=>.int p.2) (g2:=fun p=>valsD p.1) (by rw [zip_map,List.map_map]; rfl) (fun p=>q.all fun v=>decide (v∈p.1)) (fun p=>.int p.2) (fun p hp yes no hy hn=>?_) ?_
    · unfold valsD
      array_get_dec
      refine compI (l:=q) (g:=valD) rfl (fun v=>decide (v∉p.1)) valD (fun v hv yes' no' hy' hn'=>?_) ?_
      · array_get_dec
        rw [any_val]
        refine stepB_2 (fun hb=>?_) (fun hb=>?_)
        · array_get_dec
          exact hy' (by simpa using hb)
        · exact hn' (by simpa using hb)
      · array_get_dec
        have e:((q.filter fun v=>decide (v∉p.1)).map valD).isEmpty=q.all fun v=>decide (v∈p.1):=by
          rw [Bool.eq_iff_iff,List.isEmpty_iff,List.map_eq_nil_iff,List.filter_eq_nil_iff,List.all_eq_true]
          simp
        rw [e]
        refine stepB_2 (fun hb=>?_) (fun hb=>?_)
        · array_get_dec
          exact hy hb
        · exact hn hb
    · array_get_dec
      rw [show (cs.map valsD).zipIdx.map (fun p=>PyData.tuple [.int (p.2:Int),p.1])=cs.zipIdx.map fun p=>.tuple [.int (p.2:Int),valsD p.1] by rw [zip_map,List.map_map]; rfl]
      refine forI (l:=cs.zipIdx) (g:=fun p=>.tuple [.int (p.2:Int),valsD p.1]) rfl (fun i δ=>∃ (v4 v5 v8:DV),δ=⟨[.dat .sh (layD fs),.dat .sh (.list (cs.map valsD)),.dat .sh (valsD q),.dat .sh (wordD (wrM fs q)),v4,v5,.dat .ow (.list ((cs.zipIdx.filter fun p=>q.all fun v=>decide (v∈p.1)).map fun p=>.int (p.2:Int))),.dat .ow (.list (((cs.zipIdx.take i).filter fun p=>!(q.all fun v=>decide (v∈p.1)) && sub (wrM fs q) (wrM fs p.1)).map fun p=>.int (p.2:Int))),v8],0⟩∧NP v4∧NP v5∧NP v8) ?_ ?_ ?_
      · exact ⟨_,_,_,rfl,np_un,np_un,np_un⟩
      · rintro i p _ hp ⟨v4,v5,v8,rfl,hv4,hv5,hv8⟩
        obtain ⟨ep,hp1,hp2,hp3⟩:=zip_at hp
        have st2:=filt_take (fun p:List Val×Nat=>!(q.all fun v=>decide (v∈p.1)) && sub (wrM fs q) (wrM fs p.1)) (fun p=>PyData.int (p.2:Int)) hp
        have l2:=List.length_filter_le (fun p:List Val×Nat=>!(q.all fun v=>decide (v∈p.1)) && sub (wrM fs q) (wrM fs p.1)) (cs.zipIdx.take i)
        rw [List.length_take] at l2
        have cm:p.1∈cs:=List.mem_of_getElem? hp1
        array_get_dec
        refine ⟨fs,p.1,rfl,hL,(hc _ cm).1,(hc _ cm).2,?_⟩
        array_get_dec
        rw [found_any q hp]
        refine andB_2 (fun hb=>?_) (fun hb=>?_)
        · have hb:(q.all fun v=>decide (v∈p.1))=false:=by rw [Bool.not_eq_true'] at hb; exact hb
          array_get_dec
          refine compI (l:=wrM fs q) (g:=PyData.int) rfl (fun j=>decide (j∉wrM fs p.1)) PyData.int (fun j hj yes no hy hn=>?_) ?_
          · array_get_dec
            refine stepB_2 (fun hb=>?_) (fun hb=>?_)
            · array_get_dec
              exact hy (by simpa using hb)
            · exact hn (by simpa using hb)
          · array_get_dec
            have e:(((wrM fs q).filter fun j=>decide (j∉wrM fs p.1)).map PyData.int).isEmpty=sub (wrM fs q) (wrM fs p.1):=by
              rw [Bool.eq_iff_iff,List.isEmpty_iff,List.map_eq_nil_iff]
              exact less_nil
            rw [e]
            refine ifB_2 (fun hb2=>?_) (fun hb2=>?_)
            · array_get_dec
              refine ⟨by rw [List.length_map]; omega,.dat .sh (.int p.2),.dat .sh (valsD p.1),.dat .sh (wordD (wrM fs p.1)),ds_eq ?_ rfl,np_sh,np_sh,np_sh⟩
              rw [st2,hb,hb2]
              rfl
            · array_get_dec
              refine ⟨.dat .sh (.int p.2),.dat .sh (valsD p.1),.dat .sh (wordD (wrM fs p.1)),ds_eq ?_ rfl,np_sh,np_sh,np_sh⟩
              rw [st2,hb,hb2]
              simp
        · have hb:(q.all fun v=>decide (v∈p.1))=true:=by rw [Bool.not_eq_false'] at hb; exact hb
          array_get_dec
          refine ⟨.dat .sh (.int p.2),.dat .sh (valsD p.1),.dat .sh (wordD (wrM fs p.1)),ds_eq ?_ rfl,np_sh,np_sh,np_sh⟩
          rw [st2,hb]
          simp
      · rintro _ ⟨v4,v5,v8,rfl,hv4,hv5,hv8⟩
        rw [List.length_zipIdx,show cs.zipIdx.take cs.length=cs.zipIdx from List.take_of_length_le (by rw [List.length_zipIdx]; exact Nat.le_refl _)]
        array_get_dec
        unfold foundM wrongM natsD at hR
        rw [List.map_map,List.map_map] at hR
        exact hR
theorem sc__law_question:FnScope ["_law_draws_here", "_law_layout_here", "_law_cards", "_law_question_here", "_law_pick", "_law_values_here"] ["_law_draws_here", "_law_layout_here", "_law_cards"] (defScope s__law_question):=⟨rfl,rfl,rfl,by decide +kernel,rfl,by decide +kernel,by decide +kernel⟩
theorem ok__law_question {f f_L_next f_L_values  : Addr} {fd d_L_next d_L_values:FuncData} (F:Fun K "_law_question" "_law_question" s__law_question f fd) (G_L_next:FnOk P w K mg base CX0 1 f_L_next d_L_next ["_law_draws_here"] (SpW K dfNext)) (b_L_next:Binds K d_L_next ["_law_draws_here"] []) (k_L_next:PySem.W.keepIn K (.ref f_L_next)=true) (m_L_next:mg "_law_next" = some (.ref f_L_next)) (G_L_values:FnOk P w K mg base CX0 2 f_L_values d_L_values ["_law_draws_here", "_law_layout_here", "_law_limit"] (SpW K (dfVals))) (b_L_values:Binds K d_L_values ["_law_draws_here", "_law_layout_here", "_law_limit"] []) (k_L_values:PySem.W.keepIn K (.ref f_L_values)=true) (m_L_values:mg "_law_values" = some (.ref f_L_values)) (mz_len:mg "len" = none):FnOk P w K mg base CX0 3 f fd ["_law_draws_here", "_law_layout_here", "_law_cards"] (SpW K (dfQuest)):=by
  refine' fn_draw (k:=2) F sc__law_question (fun cdv A outer s H E hr=>?hb) ?h
  case hb =>
    have hr1:Room 1 _:=hr.mono (by decide)
    have hr2:Room 2 _:=hr.mono (by decide)
    have hu64:=hr.units
    exact ds_cons (ds_setO (i:=3) sc__law_question.nd rfl (Or.inl rfl) (dp_callW G_L_values hr2 rfl m_L_values k_L_values b_L_values pass0 (pv 0) (dpa_cons (dp_var (pv 1)) (dpa_cons (dp_ixS (dp_lst (dpa_cons dp_int (dpa_cons dp_int (dpa_cons dp_int dpa_nil)))) (dp_mod (dp_callW G_L_next hr1 rfl m_L_next k_L_next b_L_next pass0 (pv 0) dpa_nil) dp_int)) dpa_nil))))
      (ds_cons (ds_set (i:=4) sc__law_question.nd rfl (Or.inl rfl) (dp_callW G_L_next hr1 rfl m_L_next k_L_next b_L_next pass0 (pv 0) dpa_nil))
      (ds_cons (ds_if (dt_w (dw_and (dt_ne hu64 (dp_var (pv 2)) (dp_lst dpa_nil)) (dw_and1 (dt_eq hu64 (dp_mod (dp_var (pv 4)) dp_int) dp_int))))
      (ds_cons (ds_set (i:=5) sc__law_question.nd rfl (Or.inl rfl) (dp_ixS (dp_var (pv 2)) (dp_mod (dp_div (dp_var (pv 4)) dp_int) (dp_callB call_len cs_len rfl mz_len (by decide +kernel) (dpa_cons (dp_var (pv 2)) dpa_nil)))))
        (ds_one (ds_setO (i:=3) sc__law_question.nd rfl (Or.inl rfl) (dp_revL (dp_slice (i:=true) (dp_var (pv 5)) dpo_none (dpo_some (dp_add dp_int (dp_mod (dp_div (dp_var (pv 4)) dp_int) dp_int)))) (pe_un un_neg pe_int) (fun _ _ _ h=>⟨_,rfl,h⟩))))) ds_nil)
      (ds_one (ds_ret (dp_take (pv 3))))))
  case h =>
    rintro ds n R ⟨fs,cs,rfl,hP,lc,hc,hn,hR⟩
    refine ⟨rfl,?_⟩
    unfold cardsD
    array_get_dec
    refine ⟨rfl,by omega,fun r1=>?_⟩
    array_get_dec
    obtain ⟨m,em,m0,m1⟩ : ∃ m:Int,atI [PyData.int 3,.int 3,.int 7] (r1 % 3)=some (.int m)∧0≤m∧m≤8:=by
      have b3:=mod_in r1 (b:=3) (by decide)
      rcases (show r1 % 3=0∨r1 % 3=1∨r1 % 3=2 by omega) with z | z | z <;> rw [z] <;> exact ⟨_,rfl,by decide,by decide⟩
    refine ⟨_,em,fs,m,rfl,hP,m0,m1,by omega,fun q n1 k1 k2 lq hq=>?_⟩
    refine ⟨rfl,by omega,fun r2=>?_⟩
    unfold valsD
    array_get_dec
    refine joinX (fun P=>andB _ _ _ P) (fun δ=>∃ (q:List Val) (v5:DV),δ=⟨[.drw,.dat .sh (layD fs),.dat .sh (.list (cs.map valsD)),.dat .ow (valsD q),.dat .sh (.int r2),v5],n1+1⟩∧q.length≤8∧(∀ v∈q,VIn fs v)∧NP v5) (fun N hN=>?_) ?_
    · refine andB_2 (fun hb=>?_) (fun hb=>?_)
      · have hne:cs≠[]:=fun z=>by rw [z] at hb; cases hb
        have lp:0<cs.length:=List.length_pos_iff.mpr hne
        array_get_dec
        refine ifB_2 (fun hb2=>?_) (fun hb2=>?_)
        · have bl:=mod_in (r2 / 2) (b:=(cs.length:Int)) (by omega)
          obtain ⟨c,_,e2,e3⟩:=atI_some (l:=cs) bl.1 bl.2
          have b8:=mod_in (r2 / 40) (b:=8) (by decide)
          array_get_dec
          refine ⟨by rw [List.length_map]; omega,valsD c,by rw [List.length_map,atI_map,e2]; rfl,?_⟩
          unfold valsD
          array_get_dec
          have eC:cutG (c.map valD) none (some (1+r2 / 40 % 8))=(cutG c none (some (1+r2 / 40 % 8))).map valD:=cutG_map ..
          have im:immAll (cutG (c.map valD) none (some (1+r2 / 40 % 8)))=true:=by rw [eC]; exact immAll_map (fun v=>Im.h) _
          have sb:=cutG_sub c none (some (1+r2 / 40 % 8))
          refine ⟨im,im,?_⟩
          rw [eC,← List.map_reverse]
          refine hN _ ⟨(cutG c none (some (1+r2 / 40 % 8))).reverse,.dat .sh (.list (c.map valD)),rfl,by rw [List.length_reverse]; exact Nat.le_trans sb.length_le (hc c e3).1,fun v hv=>(hc c e3).2 v (sb.subset (List.mem_reverse.mp hv)),np_sh⟩
        · array_get_dec
          exact hN _ ⟨q,_,rfl,lq,hq,np_un⟩
      · array_get_dec
        exact hN _ ⟨q,_,rfl,lq,hq,np_un⟩
    · rintro _ ⟨q,v5,rfl,lq,hq,hv5⟩
      array_get_dec
      exact ⟨by omega,hR q _ (by omega) (by omega) lq hq⟩
end
def VsOk (fs:List Fld) (vs:List Val):Prop:=vs.length≤8∧∀ v∈vs,VIn fs v
theorem val_fits {fs:List Fld} (hL:LL fs) {v:Val} (h:VIn fs v):Fits 12 (valD v):=by
  obtain ⟨f,hf,h1,h2⟩:=h
  have g:=(hL.1.2.1 f hf).1
  unfold valD
  rw [Fits,FitsAll,FitsAll,FitsAll,Fits,Fits]
  refine ⟨by rw [← h1]; exact g.1,?_,trivial⟩
  have:=g.2.2.2.1
  omega
theorem vals_fits {fs:List Fld} (hL:LL fs) {vs:List Val} (h:VsOk fs vs):Fits 12 (valsD vs):=by
  unfold valsD
  rw [Fits,fitsAll_iff]
  intro x hx
  obtain ⟨v,hv,rfl⟩:=List.mem_map.mp hx
  exact val_fits hL (h.2 v hv)
theorem vals_nodes {fs:List Fld} {vs:List Val} (h:VsOk fs vs):nodes (valsD vs)≤100:=by
  unfold valsD
  rw [nodes]
  have:=nodesAll_le (m:=3) (xs:=vs.map valD) fun x hx=>by
    obtain ⟨v,hv,rfl⟩:=List.mem_map.mp hx
    unfold valD
    simp [nodes,nodesAll]
  rw [List.length_map] at this
  have:=h.1
  omega
theorem rising_lenN {t:Int} {ns:List Int} (r:Rising t ns):ns.length≤t.toNat:=by
  have:=NdS.len_leI (l2:=(List.range t.toNat).map fun i:Nat=>(i:Int)) (r.1.imp fun {x y} h=>Int.ne_of_lt h) fun e he=>by
    have:=r.2 e he
    exact List.mem_map.mpr ⟨e.toNat,List.mem_range.mpr (by omega),by omega⟩
  rw [List.length_map,List.length_range] at this
  exact this
theorem lay_nodes2 {fs:List Fld} (h:LOk fs):nodes (layD fs)≤3000:=by
  have aux:∀ l:List Fld,(∀ f∈l,FOk f∧∀ w∈f.cd,Rising f.ct w)→(nodesAll (l.map Fld.d):Int)≤44 * l.length+40 * (l.map Fld.ct).sum:=by
    intro l
    induction l with
    | nil=>intro _; decide
    | cons f l ih =>
      intro hl
      obtain ⟨⟨g1,g2,g3,g4,g5⟩,g6⟩:=hl f (List.mem_cons_self ..)
      have h2:=ih fun g hg=>hl g (List.mem_cons_of_mem _ hg)
      have h3:nodes f.d≤44+40 * f.ct.toNat:=by
        unfold Fld.d
        simp only [nodes,nodesAll]
        have:=nodesAll_le (m:=f.ct.toNat+1) (xs:=f.cd.map wordD) fun y hy=>by
          obtain ⟨w,hw,rfl⟩:=List.mem_map.mp hy
          unfold wordD
          rw [nodes,nodes_ints]
          have:=rising_lenN (g6 w hw)
          omega
        rw [List.length_map] at this
        have h5:(f.ct.toNat+1) * f.cd.length≤(f.ct.toNat+1) * 40:=Nat.mul_le_mul_left _ g4
        omega
      rw [List.map_cons,nodesAll,List.map_cons,List.sum_cons,List.length_cons]
      omega
  have:=aux fs h.2.1
  have h1:=h.1
  have h2:=h.2.2
  unfold layD
  rw [nodes]
  omega
def CsK (fs:List Fld) (cs:List (List Val)):Prop:=cs.length≤39∧∀ c∈cs,VsOk fs c
def kqD (fs:List Fld) (cs:List (List Val)) (q:List Val):PyData:=.list [layD fs,cardsD cs,valsD q]
theorem kq_fits {fs:List Fld} (hP:PL fs) {cs:List (List Val)} {q:List Val} (hc:CsK fs cs) (hq:VsOk fs q):Fits 12 (kqD fs cs q)∧(12+12) * nodes (kqD fs cs q)≤sizeLine:=by
  have a1:=lay_nodes2 hP.2.1.1
  have a2:=vals_nodes hq
  have a3:=nodesAll_le (m:=100) (xs:=cs.map valsD) fun x hx=>by
    obtain ⟨c,hc',rfl⟩:=List.mem_map.mp hx
    exact vals_nodes (hc.2 c hc')
  rw [List.length_map] at a3
  have:=hc.1
  unfold kqD
  refine ⟨?_,sz2 ?_⟩
  · simp only [Fits,FitsAll]
    refine ⟨lay_fits fun f hf=>(hP.2.1.1.2.1 f hf).1,?_,vals_fits hP.2.1 hq,trivial⟩
    unfold cardsD
    rw [Fits,fitsAll_iff]
    intro x hx
    obtain ⟨c,hc',rfl⟩:=List.mem_map.mp hx
    exact vals_fits hP.2.1 (hc.2 c hc')
  · unfold cardsD
    simp only [nodes,nodesAll]
    omega
theorem kq_deep (fs:List Fld) (cs:List (List Val)) (q:List Val):(kqD fs cs q).depth≤90:=Nat.le_trans (m:=60) (by unfold kqD cardsD valsD; exact dp) (by decide)
theorem vals_vi (vs:List Val):valsD vs=visD (vs.map toI):=by
  unfold valsD visD
  rw [List.map_map]
  rfl
theorem cards_vi (cs:List (List Val)):cs.map valsD=(cs.map fun c=>c.map toI).map visD:=by
  rw [List.map_map]
  exact List.map_congr_left fun c _=>vals_vi c
theorem toI_inj {a b:Val} (h:toI a=toI b):a=b:=by
  obtain ⟨a1,a2⟩:=a
  obtain ⟨b1,b2⟩:=b
  unfold toI at h
  have h1:a1=b1:=congrArg Prod.fst h
  have h2:(a2:Int)=(b2:Int):=congrArg Prod.snd h
  rw [h1,show a2=b2 by omega]
theorem toI_mem {v:Val} {c:List Val}:toI v∈c.map toI↔v∈c:=by
  rw [List.mem_map]
  exact ⟨fun ⟨u,hu,e⟩=>by rw [← toI_inj e]; exact hu,fun h=>⟨v,h,rfl⟩⟩
theorem all_toI (c q:List Val):((q.map toI).all fun v=>decide (v∈c.map toI))=q.all fun v=>decide (v∈c):=by
  rw [List.all_map]
  congr 1
  funext v
  exact decide_eq_decide.mpr toI_mem
theorem find_nat (fs:List Fld) (cs:List (List Val)) (q:List Val):findI fs (cs.map fun c=>c.map toI) (q.map toI)=.tuple [natsD (foundM cs q),natsD (wrongM fs cs q)]:=by
  have e:(cs.map fun c=>c.map toI).zipIdx=cs.zipIdx.map fun p=>(p.1.map toI,p.2):=zip_map _ _
  unfold findI foundI wrongI foundM wrongM
  rw [e,List.filter_map,List.filter_map,List.map_map,List.map_map]
  have e1:((fun p:List VI×Nat=>(q.map toI).all fun v=>decide (v∈p.1)) ∘ fun p:List Val×Nat=>(p.1.map toI,p.2))=fun p=>q.all fun v=>decide (v∈p.1):=by
    funext p
    exact all_toI p.1 q
  have e2:((fun p:List VI×Nat=>!((q.map toI).all fun v=>decide (v∈p.1)) && sub (wrI fs (q.map toI)) (wrI fs p.1)) ∘ fun p:List Val×Nat=>(p.1.map toI,p.2))=fun p=>!(q.all fun v=>decide (v∈p.1)) && sub (wrM fs q) (wrM fs p.1):=by
    funext p
    show (!((q.map toI).all fun v=>decide (v∈p.1.map toI)) && sub (wrI fs (q.map toI)) (wrI fs (p.1.map toI)))=_
    rw [all_toI,wrI_nat,wrI_nat]
  rw [e1,e2]
  rfl
theorem nat_self (l:List Nat):eqD (natsD l) (natsD l)=true:=by
  unfold natsD
  rw [eqD_list,eqDs_map (f:=fun i:Nat=>PyData.int (i:Int)) (fun a b=>by rw [eqD_intd]; exact decide_eq_decide.mpr (by omega)),decide_eq_true rfl]
theorem found_len (cs:List (List Val)) (q:List Val):(foundM cs q).length≤cs.length:=by
  unfold foundM
  rw [List.length_map]
  exact Nat.le_trans (List.length_filter_le _ _) (Nat.le_of_eq List.length_zipIdx)
theorem wrong_len (fs:List Fld) (cs:List (List Val)) (q:List Val):(wrongM fs cs q).length≤cs.length:=by
  unfold wrongM
  rw [List.length_map]
  exact Nat.le_trans (List.length_filter_le _ _) (Nat.le_of_eq List.length_zipIdx)
theorem ok_nat {fs:List Fld} (hL:LL fs) {v:Val} (h:VIn fs v):okI fs (toI v):=by
  obtain ⟨p,hp⟩:=vok_of 0 hL.2 h
  exact ⟨p,by rw [plcI_nat]; exact hp⟩
section
variable {P:Program} {w:World} {K:PySem.W.Frag} {mg:Str→Option Value} {base:Heap}
theorem sc_law:FnScope ["_law_script", "_law_cell", "_law_draws_here", "_law_layout_here", "_law_cards", "_law_turn", "_law_question_here", "_law_kept", "_law_due_here", "_law_again", "_law_told", "_law_name", "_law_count", "_law_code"] ["_law_script"] (defScope sLaw):=⟨rfl,rfl,rfl,by decide +kernel,rfl,by decide +kernel,by decide +kernel⟩
theorem ok_law {f f_find f_L_draws f_L_next f_L_layout f_L_great_layout f_L_values f_L_refused f_L_due f_L_question  : Addr} {fd d_find d_L_draws d_L_next d_L_layout d_L_great_layout d_L_values d_L_refused d_L_due d_L_question:FuncData} (F:Fun K "law" "law" sLaw f fd) (G_find:FnOk P w K mg base (CXN P w) 4 f_find d_find ["layout", "cards", "question"] (SpX K (pfFindX CN))) (b_find:Binds K d_find ["layout", "cards", "question"] []) (k_find:PySem.W.keepIn K (.ref f_find)=true) (m_find:mg "find" = some (.ref f_find)) (G_L_draws:FnOk P w K mg base CX0 1 f_L_draws d_L_draws ["_law_cell"] (spDrawsD)) (b_L_draws:Binds K d_L_draws ["_law_cell"] []) (k_L_draws:PySem.W.keepIn K (.ref f_L_draws)=true) (m_L_draws:mg "_law_draws" = some (.ref f_L_draws)) (G_L_next:FnOk P w K mg base CX0 1 f_L_next d_L_next ["_law_draws_here"] (SpW K dfNext)) (b_L_next:Binds K d_L_next ["_law_draws_here"] []) (k_L_next:PySem.W.keepIn K (.ref f_L_next)=true) (m_L_next:mg "_law_next" = some (.ref f_L_next)) (G_L_layout:FnOk P w K mg base CX0 3 f_L_layout d_L_layout ["_law_draws_here"] (SpW K (dfLayP))) (b_L_layout:Binds K d_L_layout ["_law_draws_here"] []) (k_L_layout:PySem.W.keepIn K (.ref f_L_layout)=true) (m_L_layout:mg "_law_layout" = some (.ref f_L_layout)) (G_L_great_layout:FnOk P w K mg base CX0 2 f_L_great_layout d_L_great_layout ["_law_draws_here"] (SpW K (dfGreat))) (b_L_great_layout:Binds K d_L_great_layout ["_law_draws_here"] []) (k_L_great_layout:PySem.W.keepIn K (.ref f_L_great_layout)=true) (m_L_great_layout:mg "_law_great_layout" = some (.ref f_L_great_layout)) (G_L_values:FnOk P w K mg base CX0 2 f_L_values d_L_values ["_law_draws_here", "_law_layout_here", "_law_limit"] (SpW K (dfVals))) (b_L_values:Binds K d_L_values ["_law_draws_here", "_law_layout_here", "_law_limit"] []) (k_L_values:PySem.W.keepIn K (.ref f_L_values)=true) (m_L_values:mg "_law_values" = some (.ref f_L_values)) (G_L_refused:FnOk P w K mg base CX0 5 f_L_refused d_L_refused ["_law_layout_here", "_law_cards", "_law_question_here"] (SpP K (pfRef))) (b_L_refused:Binds K d_L_refused ["_law_layout_here", "_law_cards", "_law_question_here"] []) (k_L_refused:PySem.W.keepIn K (.ref f_L_refused)=true) (m_L_refused:mg "_law_refused" = some (.ref f_L_refused)) (G_L_due:FnOk P w K mg base CX0 2 f_L_due d_L_due ["_law_layout_here", "_law_cards", "_law_question_here"] (SpP K (pfDue))) (b_L_due:Binds K d_L_due ["_law_layout_here", "_law_cards", "_law_question_here"] []) (k_L_due:PySem.W.keepIn K (.ref f_L_due)=true) (m_L_due:mg "_law_due" = some (.ref f_L_due)) (G_L_question:FnOk P w K mg base CX0 3 f_L_question d_L_question ["_law_draws_here", "_law_layout_here", "_law_cards"] (SpW K (dfQuest))) (b_L_question:Binds K d_L_question ["_law_draws_here", "_law_layout_here", "_law_cards"] []) (k_L_question:PySem.W.keepIn K (.ref f_L_question)=true) (m_L_question:mg "_law_question" = some (.ref f_L_question)) (mz_range:mg "range" = none) (mz_len:mg "len" = none) (mz_str:mg "str" = none) (mz_list:mg "list" = none) (mz_isinstance:mg "isinstance" = none):FnOk P w K mg base CX0 6 f fd ["_law_script"] (spLawD K):=by
  refine' fn_law (k:=5) F sc_law (fun cdv A outer s H E hr=>?hb) ?h
  case hb =>
    have hr1:Room 1 _:=hr.mono (by decide)
    have hr2:Room 2 _:=hr.mono (by decide)
    have hr3:Room 3 _:=hr.mono (by decide)
    have hr4:Room 4 _:=hr.mono (by decide)
    have hr5:Room 5 _:=hr.mono (by decide)
    have hu64:=hr.units
    have hrx:Room 5 (cxOf CX0 P w K mg base ["_law_script", "_law_cell", "_law_draws_here", "_law_layout_here", "_law_cards", "_law_turn", "_law_question_here", "_law_kept", "_law_due_here", "_law_again", "_law_told", "_law_name", "_law_count", "_law_code"] "law" (defScope sLaw) f cdv A outer s H E).nox.A:=hr
    have hu100:(cxOf CX0 P w K mg base ["_law_script", "_law_cell", "_law_draws_here", "_law_layout_here", "_law_cards", "_law_turn", "_law_question_here", "_law_kept", "_law_due_here", "_law_again", "_law_told", "_law_name", "_law_count", "_law_code"] "law" (defScope sLaw) f cdv A outer s H E).nox.A.units+100<cLine:=by have:=hrx.un; omega
    have CS1:∀ {scope:Scope} (h:scope={ kind:=.function,names:=[(".0",.local),("_law_k",.local),("_law_values",.globalImplicit),("_law_draws_here",.free),("_law_layout_here",.free)],isGenerator:=false,isCoroutine:=false }),
        CompScope (cxOf CX0 P w K mg base ["_law_script", "_law_cell", "_law_draws_here", "_law_layout_here", "_law_cards", "_law_turn", "_law_question_here", "_law_kept", "_law_due_here", "_law_again", "_law_told", "_law_name", "_law_count", "_law_code"] "law" (defScope sLaw) f cdv A outer s H E).nox scope [("_law_layout_here",s.heap.objs.size+2),("_law_draws_here",s.heap.objs.size+1)] "_law_k" ["_law_draws_here", "_law_layout_here"] [2,3]:=by
      rintro scope rfl
      refine ⟨by rfl,.inl (by decide +kernel),by rfl,by decide +kernel,.inl rfl,fun y c h=>?_,by rfl,by decide +kernel,rfl,fun k y j e1 e2=>?_⟩
      · have z:=lookup_mem h
        simp only [List.mem_cons,List.not_mem_nil,or_false,Prod.mk.injEq] at z
        rcases z with ⟨rfl,rfl⟩ | ⟨rfl,rfl⟩ <;> rfl
      · match k,e1,e2 with
        | 0,e1,e2=>cases e1; cases e2; exact ⟨rfl,rfl,by first | exact .inl rfl | exact .inr rfl⟩
        | 1,e1,e2=>cases e1; cases e2; exact ⟨rfl,rfl,by first | exact .inl rfl | exact .inr rfl⟩
        | k+2,e1,e2=>cases e1
    have CS2:∀ {scope:Scope} (h:scope={ kind:=.function,names:=[(".0",.local),("_law_k",.local),("_law_values",.globalImplicit),("_law_draws_here",.free),("_law_layout_here",.free)],isGenerator:=false,isCoroutine:=false }),
        CompScope (cxOf CX0 P w K mg base ["_law_script", "_law_cell", "_law_draws_here", "_law_layout_here", "_law_cards", "_law_turn", "_law_question_here", "_law_kept", "_law_due_here", "_law_again", "_law_told", "_law_name", "_law_count", "_law_code"] "law" (defScope sLaw) f cdv A outer s H E).nox scope [("_law_layout_here",s.heap.objs.size+2),("_law_draws_here",s.heap.objs.size+1)] "_law_k" ["_law_draws_here", "_law_layout_here"] [2,3]:=by
      rintro scope rfl
      refine ⟨by rfl,.inl (by decide +kernel),by rfl,by decide +kernel,.inl rfl,fun y c h=>?_,by rfl,by decide +kernel,rfl,fun k y j e1 e2=>?_⟩
      · have z:=lookup_mem h
        simp only [List.mem_cons,List.not_mem_nil,or_false,Prod.mk.injEq] at z
        rcases z with ⟨rfl,rfl⟩ | ⟨rfl,rfl⟩ <;> rfl
      · match k,e1,e2 with
        | 0,e1,e2=>cases e1; cases e2; exact ⟨rfl,rfl,by first | exact .inl rfl | exact .inr rfl⟩
        | 1,e1,e2=>cases e1; cases e2; exact ⟨rfl,rfl,by first | exact .inl rfl | exact .inr rfl⟩
        | k+2,e1,e2=>cases e1
    exact ds_cons (ds_for PassesOwn.never rfl (dil (dp_cat (dp_scrSl (pv 0) dpo_none (dpo_some dp_int)) (dp_lst (dpa_cons dp_int dpa_nil)))) (dg_name (i:=1) sc_law.nd rfl (Or.inl rfl))
      (ds_cons (ds_set (i:=2) sc_law.nd rfl (Or.inr rfl) (dp_draws G_L_draws hr1 rfl m_L_draws k_L_draws b_L_draws pass0 (dpa_cons (dp_var (pv 1)) dpa_nil)))
        (ds_cons (ds_set (i:=3) sc_law.nd rfl (Or.inr rfl) (dp_callW G_L_layout hr3 rfl m_L_layout k_L_layout b_L_layout pass0 (pv 2) dpa_nil))
        (ds_cons (ds_if (dt_eq hu64 (dp_mod (dp_callW G_L_next hr1 rfl m_L_next k_L_next b_L_next pass0 (pv 2) dpa_nil) dp_int) dp_int)
        (ds_one (ds_set (i:=3) sc_law.nd rfl (Or.inr rfl) (dp_callW G_L_great_layout hr2 rfl m_L_great_layout k_L_great_layout b_L_great_layout pass0 (pv 2) dpa_nil))) ds_nil)
        (ds_cons (ds_setCDL (o:=false) (i0:=4) sc_law.nd rfl rfl (js1:=[]) (j0:=2) (js2:=[3]) (CS1 rfl) rfl (di_range1 rfl mz_range (dpa_cons (dp_mod (dp_callW G_L_next hr1 rfl m_L_next k_L_next b_L_next pass0 (pv 2) dpa_nil) dp_int) dpa_nil)) (fun _ _ _=>dts_none) (fun _ _ _=>dp_callW G_L_values hr2 rfl m_L_values k_L_values b_L_values pass0 (pv 1) (dpa_cons (dp_var (pv 2)) (dpa_cons dp_int dpa_nil))))
        (ds_cons (ds_if (dt_eq hu64 (dp_mod (dp_callW G_L_next hr1 rfl m_L_next k_L_next b_L_next pass0 (pv 2) dpa_nil) dp_int) dp_int)
        (ds_one (ds_set (i:=4) sc_law.nd rfl (Or.inl rfl) (dp_catL (dp_var (pv 4)) (dp_compDL (js1:=[]) (j0:=2) (js2:=[3]) (CS2 rfl) rfl (di_range1 rfl mz_range (dpa_cons (dp_sub dp_int (dp_callB call_len cs_len rfl mz_len (by decide +kernel) (dpa_cons (dp_var (pv 4)) dpa_nil))) dpa_nil)) (fun _ _ _=>dts_none) (fun _ _ _=>dp_callW G_L_values hr2 rfl m_L_values k_L_values b_L_values pass0 (pv 1) (dpa_cons (dp_var (pv 2)) (dpa_cons dp_int dpa_nil))))))) ds_nil)
        (ds_one (ds_for PassesOwn.never rfl (di_range1 rfl mz_range (dpa_cons dp_int dpa_nil)) (dg_name (i:=5) sc_law.nd rfl (Or.inl rfl))
        (ds_cons (ds_set (i:=6) sc_law.nd rfl (Or.inl rfl) (dp_callW G_L_question hr3 rfl m_L_question k_L_question b_L_question pass0 (pv 2) (dpa_cons (dp_var (pv 3)) (dpa_cons (dp_var (pv 4)) dpa_nil))))
          (ds_cons (ds_set (i:=7) sc_law.nd rfl (Or.inl rfl) (dp_callTy (call_strD hr.gd hu100) cs_str rfl mz_str (by decide +kernel) (dpa_cons (dp_lst (dpa_cons (dp_var (pv 3)) (dpa_cons (dp_var (pv 4)) (dpa_cons (dp_var (pv 6)) dpa_nil)))) dpa_nil)))
          (ds_cons (ds_set (i:=8) sc_law.nd rfl (Or.inl rfl) (dp_call G_L_due hr2 rfl m_L_due k_L_due b_L_due pass0 (dpa_cons (dp_var (pv 3)) (dpa_cons (dp_var (pv 4)) (dpa_cons (dp_var (pv 6)) dpa_nil)))))
          (ds_cons (ds_for PassesOwn.never rfl (di_range1 rfl mz_range (dpa_cons dp_int dpa_nil)) (dg_name (i:=9) sc_law.nd rfl (Or.inl rfl))
          (ds_cons (ds_setO (i:=10) sc_law.nd rfl (Or.inl rfl) (dp_call (calm_ok G_find) hr4 rfl m_find k_find b_find passFX (dpa_cons (dp_var (pv 3)) (dpa_cons (dp_var (pv 4)) (dpa_cons (dp_var (pv 6)) dpa_nil)))))
            (ds_cons (ds_if (dt_w (dw_or (dt_ne hu64 (dp_var (pv 10)) (dp_var (pv 8))) (dw_or (dt_not (dt_val (dp_callB isi_ok cs_isi rfl mz_isinstance (by decide +kernel) (dpa_cons (dp_ixS (dp_var (pv 10)) dp_int) (dpa_cons (dp_ty (n := "list") rfl mz_list (by decide +kernel)) dpa_nil))))) (dw_or1 (dt_ne hu64 (dp_callTy (call_strD hr.gd hu100) cs_str rfl mz_str (by decide +kernel) (dpa_cons (dp_lst (dpa_cons (dp_var (pv 3)) (dpa_cons (dp_var (pv 4)) (dpa_cons (dp_var (pv 6)) dpa_nil)))) dpa_nil)) (dp_var (pv 7)))))))
            (ds_one (ds_ret dp_bl)) ds_nil)
            (ds_cons (ds_appI (k:=0) (pv 10) pe_non (fun _=>.non))
            (ds_one (ds_appI (k:=1) (pv 10) pe_non (fun _=>.non)))))))
          (ds_cons (ds_asg (dp_ixS (dp_var (pv 3)) dp_int) (dg_tup (n:=3) rfl (dgs_cons (dg_name (i:=11) sc_law.nd rfl (Or.inl rfl)) (dgs_cons (dg_name (i:=12) sc_law.nd rfl (Or.inl rfl)) (dgs_cons (dg_name (i:=13) sc_law.nd rfl (Or.inl rfl)) dgs_nil)))))
          (ds_cons (ds_if (dt_not (dt_val (dp_call G_L_refused hr5 rfl m_L_refused k_L_refused b_L_refused pass0 (dpa_cons (dp_var (pv 3)) (dpa_cons (dp_var (pv 4)) (dpa_cons (dp_cat (dp_slice (i:=true) (dp_var (pv 6)) dpo_none (dpo_some dp_int)) (dp_lst (dpa_cons (dp_tup (dpa_cons (dp_imm (dp_var (pv 11))) (dpa_cons (dp_callB call_len cs_len rfl mz_len (by decide +kernel) (dpa_cons (dp_var (pv 13)) dpa_nil)) dpa_nil))) dpa_nil))) dpa_nil))))))
          (ds_one (ds_ret dp_bl)) ds_nil)
          (ds_one (ds_if (dt_not (dt_val (dp_call G_L_refused hr5 rfl m_L_refused k_L_refused b_L_refused pass0 (dpa_cons (dp_var (pv 3)) (dpa_cons (dp_catL (dp_var (pv 4)) (dp_lst (dpa_cons (dp_lst (dpa_cons (dp_tup (dpa_cons dp_str (dpa_cons dp_int dpa_nil))) dpa_nil)) dpa_nil))) (dpa_cons (dp_var (pv 6)) dpa_nil))))))
          (ds_one (ds_ret dp_bl)) ds_nil))))))))))))))))
      (ds_one (ds_ret dp_bl))
  case h =>
    intro ns h63
    array_get_dec
    have lc:(cutG ns none (some 3)).length≤3:=cut_k 3
    refine ⟨by rw [List.length_map]; omega,?_⟩
    refine forI (l:=cutG ns none (some 3)++[0]) (g:=PyData.int) (by rw [List.map_append]; rfl) (fun i δ=>∃ (l:List DV) (n':Nat),δ=⟨.scr ns::l,n'⟩∧l.length=13∧(∀ v∈l,NP v)∧n'≤4000 * i) ?_ ?_ ?_
    · exact ⟨_,_,rfl,rfl,by simp [np_un],by omega⟩
    · rintro i c _ hc ⟨l,n0,rfl,hl,hv,hn⟩
      have hi:i<4:=by
        have:=(List.getElem?_eq_some_iff.mp hc).1
        rw [List.length_append,List.length_singleton] at this
        omega
      match l,hl with
      | [v1,v2,v3,v4,v5,v6,v7,v8,v9,v10,v11,v12,v13],_ =>
      simp only [List.forall_mem_cons] at hv
      obtain ⟨hv1,hv2,hv3,hv4,hv5,hv6,hv7,hv8,hv9,hv10,hv11,hv12,hv13,-⟩:=hv
      array_get_dec
      refine ⟨rfl,by omega,fun fs n1 k1 k2 hG hN=>?_⟩
      have hP:=gl_pl hG hN
      clear hG hN
      array_get_dec
      refine ⟨rfl,by omega,fun r1=>?_⟩
      array_get_dec
      refine joinI (fun δ=>∃ (fs:List Fld) (n2:Nat),δ=⟨[.scr ns,.dat .sh (.int c),.drw,.dat .sh (layD fs),v4,v5,v6,v7,v8,v9,v10,v11,v12,v13],n2⟩∧n1+1≤n2∧n2≤n1+1001∧PL fs) (fun N hN=>?_) ?_
      · refine ifB_2 (fun hb=>?_) (fun hb=>?_)
        · array_get_dec
          refine ⟨rfl,by omega,fun fs' n' l1 l2 hP'=>?_⟩
          exact hN _ ⟨fs',n',rfl,by omega,by omega,hP'⟩
        · array_get_dec
          exact hN _ ⟨fs,_,rfl,by omega,by omega,hP⟩
      clear hP fs
      rintro _ ⟨fs,n2,rfl,k3,k4,hP⟩
      array_get_dec
      refine ⟨rfl,by omega,fun r2=>?_⟩
      array_get_dec
      have b8:=mod_in r2 (b:=8) (by decide)
      refine ⟨by omega,by omega,?_⟩
      refine compByDL (l:=List.range (r2 % 8).toNat) (g:=fun i:Nat=>.int i) rfl rfl (fun i acc n'=>∃ cs:List (List Val),acc=cs.map valsD∧cs.length=i∧(∀ c∈cs,VsOk fs c)∧n2+1≤n'∧n'≤n2+1+20 * i) ?_ ?_ ?_
      · exact ⟨[],rfl,rfl,fun _ z=>(nomatch z),by show n2+1≤n2+1; omega,by show n2+1≤_; omega⟩
      · rintro i a acc n' ha ⟨cs,rfl,lc,hc,k3,k4⟩
        obtain ⟨rfl,hi⟩:=range_at ha
        array_get_dec
        refine ⟨fs,6,rfl,hP,by decide,by decide,by omega,fun vs n'' k5 k6 lv hv=>?_⟩
        array_get_dec
        refine ⟨cs++[vs],by rw [List.map_append]; rfl,by rw [List.length_append,List.length_singleton]; omega,fun c hc'=>?_,by omega,by omega⟩
        rcases List.mem_append.mp hc' with z | z
        · exact hc c z
        · rw [List.mem_singleton.mp z]; exact ⟨lv,hv⟩
      rintro acc n3 ⟨cs,rfl,lcs,hcs,k5,k6⟩
      rw [List.length_range] at lcs k6
      array_get_dec
      refine ⟨rfl,by omega,fun r3=>?_⟩
      array_get_dec
      refine joinI (fun δ=>∃ (cs:List (List Val)) (n4:Nat),δ=⟨[.scr ns,.dat .sh (.int c),.drw,.dat .sh (layD fs),.dat .sh (.list (cs.map valsD)),v5,v6,v7,v8,v9,v10,v11,v12,v13],n4⟩∧n3+1≤n4∧n4≤n3+1+20 * 39∧CsK fs cs) (fun N hN=>?_) ?_
      · refine ifB_2 (fun hb=>?_) (fun hb=>?_)
        · array_get_dec
          rw [List.length_map]
          refine ⟨by omega,by omega,?_⟩
          refine compByDL (l:=List.range (39 - (cs.length:Int)).toNat) (g:=fun i:Nat=>.int i) rfl rfl (fun i acc n'=>∃ cs2:List (List Val),acc=cs2.map valsD∧cs2.length=i∧(∀ c∈cs2,VsOk fs c)∧n3+1≤n'∧n'≤n3+1+20 * i) ?_ ?_ ?_
          · exact ⟨[],rfl,rfl,fun _ z=>(nomatch z),by show n3+1≤n3+1; omega,by show n3+1≤_; omega⟩
          · rintro i a acc n' ha ⟨cs2,rfl,lc2,hc2,k7,k8⟩
            obtain ⟨rfl,hi⟩:=range_at ha
            array_get_dec
            refine ⟨fs,8,rfl,hP,by decide,by decide,by omega,fun vs n'' k9 k10 lv hv=>?_⟩
            array_get_dec
            refine ⟨cs2++[vs],by rw [List.map_append]; rfl,by rw [List.length_append,List.length_singleton]; omega,fun c hc'=>?_,by omega,by omega⟩
            rcases List.mem_append.mp hc' with z | z
            · exact hc2 c z
            · rw [List.mem_singleton.mp z]; exact ⟨lv,hv⟩
          rintro acc n4 ⟨cs2,rfl,lc2,hc2,k7,k8⟩
          rw [List.length_range] at lc2 k8
          array_get_dec
          refine ⟨by rw [List.length_map,List.length_map]; omega,?_⟩
          rw [← List.map_append]
          refine hN _ ⟨cs++cs2,_,rfl,by omega,by omega,by rw [List.length_append]; omega,fun c hc=>(List.mem_append.mp hc).elim (hcs c) (hc2 c)⟩
        · array_get_dec
          exact hN _ ⟨cs,_,rfl,by omega,by omega,by omega,hcs⟩
      have kb:n2+1≤n3∧n3≤n2+141:=⟨by omega,by omega⟩
      clear k5 k6 lcs hcs cs
      rintro _ ⟨cs,n4,rfl,k5,k6,hcs⟩
      array_get_dec
      refine forI (l:=List.range 3) (g:=fun i:Nat=>.int i) rfl (fun j δ=>∃ (v5 v6 v7 v8 v9 v10 v11 v12 v13:DV) (n':Nat),δ=⟨[.scr ns,.dat .sh (.int c),.drw,.dat .sh (layD fs),.dat .sh (.list (cs.map valsD)),v5,v6,v7,v8,v9,v10,v11,v12,v13],n'⟩∧n4≤n'∧n'≤n4+30 * j∧NP v5∧NP v6∧NP v7∧NP v8∧NP v9∧NP v10∧NP v11∧NP v12∧NP v13) ?_ ?_ ?_
      · exact ⟨_,_,_,_,_,_,_,_,_,_,rfl,by omega,by omega,hv5,hv6,hv7,hv8,hv9,hv10,hv11,hv12,hv13⟩
      · clear hv5 hv6 hv7 hv8 hv9 hv10 hv11 hv12 hv13
        rintro j a _ ha ⟨v5,v6,v7,v8,v9,v10,v11,v12,v13,n5,rfl,k7,k8,hv5,hv6,hv7,hv8,hv9,hv10,hv11,hv12,hv13⟩
        obtain ⟨rfl,hj⟩:=range_at ha
        array_get_dec
        refine ⟨fs,cs,rfl,hP,by have:=hcs.1; omega,fun c hc=>hcs.2 c hc,by omega,fun q n6 k9 k10 lq hq=>?_⟩
        obtain ⟨ft,sz⟩:=kq_fits hP hcs ⟨lq,hq⟩
        have dp4:=kq_deep fs cs q
        unfold kqD cardsD at ft sz dp4
        array_get_dec
        refine ⟨⟨12,by decide,ft,sz⟩,dp4,?_⟩
        generalize hT:textOf (.list [layD fs,.list (cs.map valsD),valsD q])=tx
        refine ⟨fs,cs,q,rfl,hP.2.1,by have:=hcs.1; omega,fun c hc=>hcs.2 c hc,lq,hq,?_⟩
        array_get_dec
        refine forI (l:=List.range 3) (g:=fun i:Nat=>.int i) rfl (fun j2 δ=>∃ (v9 v10:DV),δ=⟨[.scr ns,.dat .sh (.int c),.drw,.dat .sh (layD fs),.dat .sh (.list (cs.map valsD)),.dat .sh (.int a),.dat .sh (valsD q),.dat .sh (.str tx),.dat .sh (.tuple [natsD (foundM cs q),natsD (wrongM fs cs q)]),v9,v10,v11,v12,v13],n6⟩∧NP v9∧NP v10) ?_ ?_ ?_
        · exact ⟨_,_,rfl,hv9,hv10⟩
        · clear hv9 hv10
          rintro j2 a2 _ ha2 ⟨v9,v10,rfl,hv9,hv10⟩
          array_get_dec
          refine ⟨fs,cs.map fun c=>c.map toI,q.map toI,by rw [cards_vi,vals_vi],hP.2.1.1,by rw [List.length_map]; have:=hcs.1; omega,fun _ _=>?_,fun ⟨c,hc,v,hv,hn⟩=>?_,fun ⟨v,hv,hn⟩=>?_⟩
          · rw [find_nat]
            array_get_dec
            rw [eqD_tup,eqDs_cons,eqDs_cons,eqDs_nil,nat_self,nat_self]
            have lf:=found_len cs q
            have lw:=wrong_len fs cs q
            have l39:=hcs.1
            unfold natsD
            generalize foundM cs q=fl at lf
            generalize wrongM fs cs q=wl at lw
            rw [show (!(true && (true && true)))=false from rfl]
            array_get_dec
            refine ⟨⟨12,by decide,ft,sz⟩,dp4,?_⟩
            rw [hT]
            array_get_dec
            have n3':npk [v11,v12,v13]=true:=by simp [npk,hv11 _,hv12 _,hv13 _]
            exact ⟨n3',by rw [List.length_map]; omega,n3',by rw [List.length_map]; omega,_,_,rfl,np_sh,np_ow⟩
          · obtain ⟨c',hc',rfl⟩:=List.mem_map.mp hc
            obtain ⟨u,hu,rfl⟩:=List.mem_map.mp hv
            obtain ⟨p,hp⟩:=ok_nat hP.2.1 ((hcs.2 c' hc').2 u hu)
            rw [hp] at hn
            cases hn
          · obtain ⟨u,hu,rfl⟩:=List.mem_map.mp hv
            obtain ⟨p,hp⟩:=ok_nat hP.2.1 (hq u hu)
            rw [hp] at hn
            cases hn
        · clear hv9 hv10
          rintro _ ⟨v9,v10,rfl,hv9,hv10⟩
          match fs,hP.1 with
          | f::fs',_ =>
          unfold layD
          have nd:=hP.2.1.2
          have hq0:=nm_q f.nm (hP.2.2.2 f List.mem_cons_self)
          array_get_dec
          rw [show DV.dat .sh f.d=.dat .sh (.tuple [.str f.nm,.int f.ct,.list (f.cd.map wordD)]) from rfl]
          rw [show valsD q=.list (q.map valD) from rfl]
          array_get_dec
          have eC:cutG (q.map valD) none (some 7)=(cutG q none (some 7)).map valD:=cutG_map ..
          have im:immAll (cutG (q.map valD) none (some 7))=true:=by rw [eC]; exact immAll_map (fun v=>Im.h) _
          have sb:=cutG_sub q none (some 7)
          have eQ:cutG (q.map valD) none (some 7)++[PyData.tuple [.str f.nm,.int ((f.cd.map wordD).length:Int)]]=(((cutG q none (some 7)).map toI)++[((f.nm,(f.cd.length:Int)):VI)]).map viD:=by
            rw [eC,List.map_append,List.map_map,List.length_map]
            rfl
          have ld:PyData.list (f.d::fs'.map Fld.d)=layD (f::fs'):=rfl
          refine ⟨im,im,by rw [eC,List.length_map]; have:=sb.length_le; omega,?_⟩
          rw [eQ,cards_vi,ld]
          refine ⟨f::fs',cs.map fun c=>c.map toI,_,rfl,hP.2.1.1,by rw [List.length_map]; have:=hcs.1; omega,.inr ⟨(f.nm,(f.cd.length:Int)),List.mem_append_right _ List.mem_cons_self,plcI_in List.mem_cons_self nd (.inr (Int.le_refl _))⟩,?_⟩
          array_get_dec
          have eK:(cs.map fun c=>c.map toI).map visD++[PyData.list [.tuple [.str (Str.ofString "none"),.int 0]]]=((cs.map fun c=>c.map toI)++[[((Str.ofString "none",0):VI)]]).map visD:=by
            rw [List.map_append]
            rfl
          refine ⟨by rw [List.length_map,List.length_map]; have:=hcs.1; omega,?_⟩
          rw [eK]
          refine ⟨f::fs',(cs.map fun c=>c.map toI)++[[((Str.ofString "none",0):VI)]],q.map toI,by rw [← vals_vi]; rfl,hP.2.1.1,by rw [List.length_append,List.length_map,List.length_singleton]; have:=hcs.1; omega,.inl ⟨_,List.mem_append_right _ List.mem_cons_self,_,List.mem_cons_self,plcI_out fun g hg=>((nm_q g.nm (hP.2.2.2 g hg)).2.2 g.nm (hP.2.2.2 g hg)).2.1⟩,?_⟩
          array_get_dec
          exact ⟨_,_,_,_,_,_,_,_,_,_,rfl,by omega,by omega,np_sh,np_sh,np_sh,np_sh,hv9,hv10,np_sh,np_sh,np_sh⟩
      · rintro _ ⟨v5,v6,v7,v8,v9,v10,v11,v12,v13,n5,rfl,k7,k8,hv5,hv6,hv7,hv8,hv9,hv10,hv11,hv12,hv13⟩
        rw [List.length_range] at k8
        exact ⟨_,_,rfl,rfl,by simp only [List.forall_mem_cons]; exact ⟨np_sh,np_drw,np_sh,np_sh,hv5,hv6,hv7,hv8,hv9,hv10,hv11,hv12,hv13,np_nil⟩,by omega⟩
    · rintro _ ⟨l,n0,rfl,hl,hv,hn⟩
      array_get_dec
end
end K63
namespace K63
open PySem L2 Nd DL
structure Def (K:PySem.W.Frag) (x:Str) (st:Stmt) (f:Addr) (fd:FuncData):Prop where
  nm:PySem.W.nsIn K mainGlobals x=some (some (.ref f))
  fn:Fun K x x st f fd
theorem def_mk {K:PySem.W.Frag} {x:Str} {st:Stmt} {f:Addr} {od an:Option Addr} {sl:Array (Option Value)} {oc kV dc pm cd ct:Value} (a:PySem.W.nsIn K mainGlobals x=some (some (.ref f))) (l:K.lookup f=some ⟨oc,od,.func (PySem.W.fnOf x x (defArgs st) (defBody st) (defScope st) .none kV dc pm an cd ct),sl⟩) (c:PySem.W.codeIn K cd x=true) (k:PySem.W.keepIn K (.ref f)=true):Def K x st f (PySem.W.fnOf x x (defArgs st) (defBody st) (defScope st) .none kV dc pm an cd ct):=⟨a,fun_mk l c k⟩
theorem cls_ok {K:PySem.W.Frag} {D:Addr} {cd:ClassData} (h:PySem.W.clsIn K D=some cd):∃ cd,PySem.W.clsIn K D=some cd:=⟨cd,h⟩
theorem oths {K:PySem.W.Frag} {C  : Addr}  : PySem.W.kitAny K (.ref C) ([].map Value.ref)=some false :=
  rfl
theorem all_mk {l:PySem.W.OpenLaw} {w:World} {K:PySem.W.Frag} {h:Heap} {mg:Str→Option Value} {fa f1 f2 f3 f4 f5 f6 f7 f8 f9 f10 f11 f12 f13 f14 f15 f16 f17 f18:Addr} {d1 d2 d3 d4 d5 d6 d7 d8 d9 d10 d11 d12 d13 d14 d15 d16 d17:FuncData} {NE CN:Addr} (X:K.In h) (G:h.Ns mainGlobals mg) (hfa:mg "law" = some (.ref fa)) {od an:Option Addr} {sl:Array (Option Value)} {oc kV dc pm cd ct:Value} (D1:Def K "_law_draws" sDraws f1 d1) (D2:Def K "_law_next" sNext f2 d2) (D3:Def K "within" s_within f3 d3) (D4:Def K "together" s_together f4 d4) (D5:Def K "begins" s_begins f5 d5) (D6:Def K "is_whole" s_is_whole f6 d6) (D7:Def K "value_word" s_value_word f7 d7) (D8:Def K "written_as" s_written_as f8 d8) (D9:Def K "_law_small" s__law_small f9 d9) (D10:Def K "_law_layout" s__law_layout f10 d10) (D11:Def K "_law_great_layout" s__law_great_layout f11 d11) (D12:Def K "_law_values" s__law_values f12 d12) (D13:Def K "_law_written" s__law_written f13 d13) (D14:Def K "find" s_find f14 d14) (D15:Def K "_law_refused" s__law_refused f15 d15) (D16:Def K "_law_due" s__law_due f16 d16) (D17:Def K "_law_question" s__law_question f17 d17) (aL:PySem.W.nsIn K mainGlobals "law" = some (some (.ref f18))) (lL:K.lookup f18=some ⟨oc,od,.func (PySem.W.fnOf "law" "law" (defArgs sLaw) (defBody sLaw) (defScope sLaw) .none kV dc pm an cd ct),sl⟩) (cL:PySem.W.codeIn K cd "law" = true) (kL:PySem.W.keepIn K (.ref f18)=true) (z1:PySem.W.nsIn K mainGlobals "all" = some none) (z2:PySem.W.nsIn K mainGlobals "tuple" = some none) (z3:PySem.W.nsIn K mainGlobals "sorted" = some none) (z4:PySem.W.nsIn K mainGlobals "set" = some none) (z5:PySem.W.nsIn K mainGlobals "bool" = some none) (z6:PySem.W.nsIn K mainGlobals "isinstance" = some none) (z7:PySem.W.nsIn K mainGlobals "int" = some none) (z8:PySem.W.nsIn K mainGlobals "zip" = some none) (z9:PySem.W.nsIn K mainGlobals "len" = some none) (z10:PySem.W.nsIn K mainGlobals "range" = some none) (z11:PySem.W.nsIn K mainGlobals "min" = some none) (z12:PySem.W.nsIn K mainGlobals "enumerate" = some none) (z13:PySem.W.nsIn K mainGlobals "str" = some none) (z14:PySem.W.nsIn K mainGlobals "list" = some none) (q1:PySem.W.nsIn K mainGlobals "NeedleError" = some (some (.ref NE))) (q2:PySem.W.nsIn K mainGlobals "NoValue" = some (some (.ref CN))) (xE:PySem.W.excIn K NE bmV "ValueError.__new__" = true) (xC:PySem.W.excIn K CN bmV "ValueError.__new__" = true) (TX:KX K NE CN []):∃ fd:FuncData,(∀ (s:Shared) (v:Value),BindsTo s fd ⟨[v],[]⟩ [("_law_script",v)])∧∀ base:Heap,K.In base→base.Ns mainGlobals mg→FnOk l.prog w K mg base CX0 6 fa fd ["_law_script"] (DL.spLawD K):=by
  have e:=hfa.symm.trans (PySem.W.mg_of X G aL)
  cases e
  have FL:=fun_mk (st:=sLaw) lL cL kL
  have b1:=D1.fn.binds (ps:=["_law_cell"]) fun _ _ _ _ _ _ us hl=>match us,hl with | [_],_=>rfl
  have b2:=D2.fn.binds (ps:=["_law_draws_here"]) fun _ _ _ _ _ _ us hl=>match us,hl with | [_],_=>rfl
  have b3:=D3.fn.binds (ps:=["one", "other"]) fun _ _ _ _ _ _ us hl=>match us,hl with | [_,_],_=>rfl
  have b4:=D4.fn.binds (ps:=["one", "other"]) fun _ _ _ _ _ _ us hl=>match us,hl with | [_,_],_=>rfl
  have b5:=D5.fn.binds (ps:=["layout"]) fun _ _ _ _ _ _ us hl=>match us,hl with | [_],_=>rfl
  have b6:=D6.fn.binds (ps:=["thing"]) fun _ _ _ _ _ _ us hl=>match us,hl with | [_],_=>rfl
  have b7:=D7.fn.binds (ps:=["layout", "name", "number"]) fun _ _ _ _ _ _ us hl=>match us,hl with | [_,_,_],_=>rfl
  have b8:=D8.fn.binds (ps:=["layout", "values"]) fun _ _ _ _ _ _ us hl=>match us,hl with | [_,_],_=>rfl
  have b9:=D9.fn.binds (ps:=["_law_draws_here", "_law_holes"]) fun _ _ _ _ _ _ us hl=>match us,hl with | [_,_],_=>rfl
  have b10:=D10.fn.binds (ps:=["_law_draws_here"]) fun _ _ _ _ _ _ us hl=>match us,hl with | [_],_=>rfl
  have b11:=D11.fn.binds (ps:=["_law_draws_here"]) fun _ _ _ _ _ _ us hl=>match us,hl with | [_],_=>rfl
  have b12:=D12.fn.binds (ps:=["_law_draws_here", "_law_layout_here", "_law_limit"]) fun _ _ _ _ _ _ us hl=>match us,hl with | [_,_,_],_=>rfl
  have b13:=D13.fn.binds (ps:=["_law_layout_here", "_law_values_here"]) fun _ _ _ _ _ _ us hl=>match us,hl with | [_,_],_=>rfl
  have b14:=D14.fn.binds (ps:=["layout", "cards", "question"]) fun _ _ _ _ _ _ us hl=>match us,hl with | [_,_,_],_=>rfl
  have b15:=D15.fn.binds (ps:=["_law_layout_here", "_law_cards", "_law_question_here"]) fun _ _ _ _ _ _ us hl=>match us,hl with | [_,_,_],_=>rfl
  have b16:=D16.fn.binds (ps:=["_law_layout_here", "_law_cards", "_law_question_here"]) fun _ _ _ _ _ _ us hl=>match us,hl with | [_,_,_],_=>rfl
  have b17:=D17.fn.binds (ps:=["_law_draws_here", "_law_layout_here", "_law_cards"]) fun _ _ _ _ _ _ us hl=>match us,hl with | [_,_,_],_=>rfl
  have m1:=PySem.W.mg_of X G D1.nm
  have m2:=PySem.W.mg_of X G D2.nm
  have m3:=PySem.W.mg_of X G D3.nm
  have m4:=PySem.W.mg_of X G D4.nm
  have m5:=PySem.W.mg_of X G D5.nm
  have m6:=PySem.W.mg_of X G D6.nm
  have m7:=PySem.W.mg_of X G D7.nm
  have m8:=PySem.W.mg_of X G D8.nm
  have m9:=PySem.W.mg_of X G D9.nm
  have m10:=PySem.W.mg_of X G D10.nm
  have m11:=PySem.W.mg_of X G D11.nm
  have m12:=PySem.W.mg_of X G D12.nm
  have m13:=PySem.W.mg_of X G D13.nm
  have m14:=PySem.W.mg_of X G D14.nm
  have m15:=PySem.W.mg_of X G D15.nm
  have m16:=PySem.W.mg_of X G D16.nm
  have m17:=PySem.W.mg_of X G D17.nm
  have y1:=PySem.W.mg_none_of X G z1
  have y2:=PySem.W.mg_none_of X G z2
  have y3:=PySem.W.mg_none_of X G z3
  have y4:=PySem.W.mg_none_of X G z4
  have y5:=PySem.W.mg_none_of X G z5
  have y6:=PySem.W.mg_none_of X G z6
  have y7:=PySem.W.mg_none_of X G z7
  have y8:=PySem.W.mg_none_of X G z8
  have y9:=PySem.W.mg_none_of X G z9
  have y10:=PySem.W.mg_none_of X G z10
  have y11:=PySem.W.mg_none_of X G z11
  have y12:=PySem.W.mg_none_of X G z12
  have y13:=PySem.W.mg_none_of X G z13
  have y14:=PySem.W.mg_none_of X G z14
  have n1:=PySem.W.mg_of X G q1
  have n2:=PySem.W.mg_of X G q2
  refine ⟨PySem.W.fnOf "law" "law" (defArgs sLaw) (defBody sLaw) (defScope sLaw) .none kV dc pm an cd ct,fun s v=>.of_eq rfl,fun base _ _=>?_⟩
  have g1:=ok_drawsD (P:=l.prog) (w:=w) (mg:=mg) (base:=base) D1.fn
  have g2:=ok_nextD (P:=l.prog) (w:=w) (mg:=mg) (base:=base) D2.fn
  have g3:=ok_within (P:=l.prog) (w:=w) (mg:=mg) (base:=base) D3.fn y1
  have g4:=ok_togetherD (P:=l.prog) (w:=w) (mg:=mg) (base:=base) D4.fn y2 y3 y4
  have g5:=ok_begins (P:=l.prog) (w:=w) (mg:=mg) (base:=base) D5.fn
  have g6:=ok_is_whole (P:=l.prog) (w:=w) (mg:=mg) (base:=base) D6.fn y5 y6 y7
  have g7:=ok_value_word (P:=l.prog) (w:=w) (mg:=mg) (base:=base) D7.fn g6 b6 D6.fn.kp m6 g5 b5 D5.fn.kp m5 y8 y9 y2 n2 xC
  have g8:=ok_written_as (P:=l.prog) (w:=w) (mg:=mg) (base:=base) D8.fn g4 b4 D4.fn.kp m4 g7 b7 D7.fn.kp m7
  have g9:=ok__law_small (P:=l.prog) (w:=w) (mg:=mg) (base:=base) D9.fn g2 b2 D2.fn.kp m2 y10 y2
  have g10:=ok__law_layout (P:=l.prog) (w:=w) (mg:=mg) (base:=base) D10.fn g2 b2 D2.fn.kp m2 g9 b9 D9.fn.kp m9 y7 y10
  have g11:=ok__law_great_layout (P:=l.prog) (w:=w) (mg:=mg) (base:=base) D11.fn g2 b2 D2.fn.kp m2 y11 y10 y3 y4 y2
  have g12:=ok__law_values (P:=l.prog) (w:=w) (mg:=mg) (base:=base) D12.fn g2 b2 D2.fn.kp m2 y10 y9
  have g13:=ok__law_written (P:=l.prog) (w:=w) (mg:=mg) (base:=base) D13.fn y3 y4 y2
  have g14:=ok_find (P:=l.prog) (w:=w) (mg:=mg) (base:=base) D14.fn g3 b3 D3.fn.kp m3 g8 b8 D8.fn.kp m8 y12 y1
  have g15:=ok__law_refused (P:=l.prog) (w:=w) (mg:=mg) (base:=base) D15.fn g14 b14 D14.fn.kp m14 y6 n2 n1 xE TX
  have g16:=ok__law_due (P:=l.prog) (w:=w) (mg:=mg) (base:=base) D16.fn g13 b13 D13.fn.kp m13 y12
  have g17:=ok__law_question (P:=l.prog) (w:=w) (mg:=mg) (base:=base) D17.fn g2 b2 D2.fn.kp m2 g12 b12 D12.fn.kp m12 y9
  exact ok_law FL g14 b14 D14.fn.kp m14 g1 b1 D1.fn.kp m1 g2 b2 D2.fn.kp m2 g10 b10 D10.fn.kp m10 g11 b11 D11.fn.kp m11 g12 b12 D12.fn.kp m12 g15 b15 D15.fn.kp m15 g16 b16 D16.fn.kp m16 g17 b17 D17.fn.kp m17 y10 y9 y13 y14 y6
theorem walk {l:PySem.W.OpenLaw} {q:Program} {loose:List Str} {XP:(Str→Option Value)→Heap→Prop} {YP:World→Heap→Prop} {d:DefRec} {K:Params→PySem.W.Frag} (hn:l.most=some 63) (hdf:d.params.defaults=[]) (hY:∀ (w:World) (h:Heap),YP w h→(K w.params).In h) (F:∀ (w:World) (mg:Str→Option Value) (fa:Addr) (h:Heap),(K w.params).In h→h.Ns mainGlobals mg→mg d.name=some (.ref fa)→∃ fd:FuncData,(∀ (s:Shared) (u:Value),BindsTo s fd ⟨[u],[]⟩ [("_law_script",u)])∧∀ base:Heap,(K w.params).In base→base.Ns mainGlobals mg→FnOk l.prog w (K w.params) mg base CX0 6 fa fd ["_law_script"] (DL.spLawD (K w.params))):PySem.W.WalkO q loose XP YP l.row.toRowW d [] (fun f vs=>PySem.call f vs) :=
  L2.walk_ofD (n:=63) (k:=6) (x := "_law_script") (CX:=fun _=>CX0) (sp:=fun w=>DL.spLawD (K w.params)) hn (by decide) hdf ⟨rfl,by decide,by decide,rfl⟩ hY F (fun _ _ a ns hl _ hS=>⟨a,ns,rfl,hS,hl,fun _=>rfl⟩) fun _ _ _ _ _ z=>z
end K63
open PySem PySem.W PyProof.Rows
set_option maxRecDepth 100000 in
set_option maxHeartbeats 0 in
theorem PySem.Challenge.cw_needledeck_k63_what_is_found_holds : PySem.Challenge.rw_needledeck_k63_what_is_found.Holds := by
  w_on; o_law; k_head; (case hw=>w_witness2)
  k_fill
  refine K63.walk (l:=PySem.Challenge.rw_needledeck_k63_what_is_found) rfl rfl (fun w h Y=>PySem.W.kIn_of Y) ?F
  case F =>
    intro w mg fa h KX G hmg
    refine' K63.all_mk KX G hmg (K63.def_mk ?a1 ?l1 ?c1 ?k1) (K63.def_mk ?a2 ?l2 ?c2 ?k2) (K63.def_mk ?a3 ?l3 ?c3 ?k3) (K63.def_mk ?a4 ?l4 ?c4 ?k4) (K63.def_mk ?a5 ?l5 ?c5 ?k5) (K63.def_mk ?a6 ?l6 ?c6 ?k6) (K63.def_mk ?a7 ?l7 ?c7 ?k7) (K63.def_mk ?a8 ?l8 ?c8 ?k8) (K63.def_mk ?a9 ?l9 ?c9 ?k9) (K63.def_mk ?a10 ?l10 ?c10 ?k10) (K63.def_mk ?a11 ?l11 ?c11 ?k11) (K63.def_mk ?a12 ?l12 ?c12 ?k12) (K63.def_mk ?a13 ?l13 ?c13 ?k13) (K63.def_mk ?a14 ?l14 ?c14 ?k14) (K63.def_mk ?a15 ?l15 ?c15 ?k15) (K63.def_mk ?a16 ?l16 ?c16 ?k16) (K63.def_mk ?a17 ?l17 ?c17 ?k17) ?aL ?lL ?cL ?kL ?z1 ?z2 ?z3 ?z4 ?z5 ?z6 ?z7 ?z8 ?z9 ?z10 ?z11 ?z12 ?z13 ?z14 ?q1 ?q2 ?xE ?xC ⟨⟨K63.cls_ok ?e1,?e2,?e3,?e4,?e5,?e6⟩,Nd.kit_ty (by decide +kernel) ?xv,K63.oths ,Nd.kit_self,?xb⟩
    (case a1=>k_is); (case l1=>k_is); (case c1=>k_is); (case k1=>k_is)
    (case a2=>k_is); (case l2=>k_is); (case c2=>k_is); (case k2=>k_is)
    (case a3=>k_is); (case l3=>k_is); (case c3=>k_is); (case k3=>k_is)
    (case a4=>k_is); (case l4=>k_is); (case c4=>k_is); (case k4=>k_is)
    (case a5=>k_is); (case l5=>k_is); (case c5=>k_is); (case k5=>k_is)
    (case a6=>k_is); (case l6=>k_is); (case c6=>k_is); (case k6=>k_is)
    (case a7=>k_is); (case l7=>k_is); (case c7=>k_is); (case k7=>k_is)
    (case a8=>k_is); (case l8=>k_is); (case c8=>k_is); (case k8=>k_is)
    (case a9=>k_is); (case l9=>k_is); (case c9=>k_is); (case k9=>k_is)
    (case a10=>k_is); (case l10=>k_is); (case c10=>k_is); (case k10=>k_is)
    (case a11=>k_is); (case l11=>k_is); (case c11=>k_is); (case k11=>k_is)
    (case a12=>k_is); (case l12=>k_is); (case c12=>k_is); (case k12=>k_is)
    (case a13=>k_is); (case l13=>k_is); (case c13=>k_is); (case k13=>k_is)
    (case a14=>k_is); (case l14=>k_is); (case c14=>k_is); (case k14=>k_is)
    (case a15=>k_is); (case l15=>k_is); (case c15=>k_is); (case k15=>k_is)
    (case a16=>k_is); (case l16=>k_is); (case c16=>k_is); (case k16=>k_is)
    (case a17=>k_is); (case l17=>k_is); (case c17=>k_is); (case k17=>k_is)
    (case aL=>k_is); (case lL=>k_is); (case cL=>k_is); (case kL=>k_is)
    (case z1=>k_is); (case z2=>k_is); (case z3=>k_is); (case z4=>k_is); (case z5=>k_is); (case z6=>k_is); (case z7=>k_is); (case z8=>k_is); (case z9=>k_is); (case z10=>k_is); (case z11=>k_is); (case z12=>k_is); (case z13=>k_is); (case z14=>k_is)
    (case q1=>k_is); (case q2=>k_is)
    (case xE=>k_exc); (case xC=>k_exc)
    (case e1=>k_is); (case e2=>k_is); (case e3=>k_is); (case e4=>k_is); (case e5=>k_is); (case e6=>k_is); (case xv=>k_is); (case xb=>k_is)
